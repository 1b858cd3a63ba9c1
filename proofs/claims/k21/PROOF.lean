import PyProof.Rows.All
import Wide.All
import OpenK.AllK
import Wide.FinOn
import Lean
import PyProof.EqAt
import PyProof.EqKinds
import PyProof.TupleCall
import PyProof.ListMulAny
import PyProof.FactsAll.tuple
import KE.IntBitsLaws
import PyProof.NeKinds
import PyProof.FactsAll.tuple_2
import PyProof.SumWalkG
import PyProof.MinMaxWalk
import PyProof.Rows.SeqMore
import PyProof.FactsAll.tuple_3
import KE.KRevIter
import PyProof.FactsAll.range_2
import PyProof.EnumFor
import PyProof.TupleOfGen
import PyProof.ListRange
import PyProof.Rows.SetFrom
import PyProof.WalksMore
import PyProof.FactsAll.subtypes_4
import PyProof.RangeFor
import PyProof.Rows.SortRuns
import KE.KSortAsk
import KE.KSortTup
import PySem.Challenge.RW_pairwebs_k21_all_ways
noncomputable section
set_option genSizeOfSpec false
set_option Elab.async false
set_option linter.all false
set_option maxRecDepth 100000
set_option maxHeartbeats 16000000
def Za:=@List.mem_cons_of_mem
def Zb:=@List.mem_cons_self
def Zc:=@PySem.wpAny_bind
def Zd:=@PySem.Heap.get?_push_of_some
def Ze:=@List.getElem?_eq_getElem
def Zf:=@List.getElem?_cons_zero
def Zg:=@List.size_toArray
def Zh:=@List.getElem?_eq_some_iff
def Zi:=@List.getElem?_cons_succ
def Zj:=@Nat.le_refl
def Zk:=@List.length_map
def Zl:=@PySem.wpAny_pure
def Zm:=@List.length_append
def Zn:=@List.mem_cons
def Zo:=@List.getElem?_append_left
def Zp:=@PyProof.Rows.wpS_bind
def Zq:=@PySem.Heap.lt_size
def Zr:=@Bool.and_eq_true
def Zs:=@List.length_cons
def Zt:=@PySem.Heap.get?_push_size
def Zu:=@List.append_assoc
def Zv:=@List.getElem?_append_right
def Zw:=@PyProof.Rows.wpS_pure
def Zx:=@Bool.false_eq_true
def Zy:=@decide_eq_true
def Zz:=@decide_eq_false
def ZA:=@List.map_cons
def ZB:=@List.mem_append
def ZC:=@List.mem_map
def ZD:=@List.mem_of_getElem?
def ZE:=@List.mem_append_right
def ZF:=@List.all_eq_true
def ZG:=@List.mem_filter
def ZH:=@List.eq_nil_of_length_eq_zero
def ZI:=@Array.length_toList
def ZJ:=@List.nodup_cons
def ZK:=@Nat.lt_of_lt_of_le
def ZL:=@Nat.le_trans
def ZM:=@PySem.mem_of_lookup
def ZN:=@List.getElem?_map
def ZO:=@List.nodup_append
def ZP:=@List.pairwise_append
def ZQ:=@Nat.ne_of_lt
def ZR:=@List.mem_singleton
def ZS:=@List.length_filter_le
def ZT:=@Array.getElem?_toList
def ZU:=@List.filter_sublist
def ZV:=@List.mem_iff_getElem
def ZW:=@List.pairwise_cons
def ZX:=@List.getD_eq_getElem?_getD
def ZY:=@Array.toList_append
def ZZ:=@List.drop_eq_getElem_cons
def Z0:=@List.mem_append_left
def Z1:=@Bool.false_ne_true
def Z2:=@Option.some.inj
def Z3:=@List.getElem_mem
def Z4:=@if_false
def Z5:=@List.getElem?_set_self
def Z6:=@List.length_nil
def Z7:=@List.mem_flatMap
def Z8:=@List.length_take
def Z9:=@PyProof.Rows.wpS_forRange
def Ya:=@List.mem_range
def Yb:=@beq_iff_eq
def Yc:=@Option.map_eq_some_iff
def Yd:=@PySem.wpAny_truthy_bool
section
namespace L2
open PySem PySem.Spec PyProof.Rows
abbrev Key:=Sum Int Str
def keyIs:Key→Value→Bool
 | .inl k,v=>Value.isInt k v
 | .inr x,v=>Value.isStrOf x v
def keyH(w:World):Key→Int
 | .inl k=>hashInt k
 | .inr x=>hashStr w x
theorem a0I':∀{k:Key} {v:Value},keyIs k v=true→(∃i t,k=Sum.inl i∧v=Value.int i t)∨(∃x t,k=Sum.inr x∧v=Value.str x t)
 | .inl i,v,h=>by
  obtain⟨t,e⟩:=Value.isInt_shape (k:=i) (v:=v) h
  exact .inl ⟨i,t,rfl,e⟩
 | .inr x,v,h=>by
  obtain⟨t,e⟩:=Value.isStrOf_shape (x:=x) (v:=v) h
  exact .inr ⟨x,t,rfl,e⟩
theorem key_ll(a b:Int):decide ((Sum.inl a:Key)=Sum.inl b)=(a==b):=by
 by_cases e:a=b
 ·subst e;simp
 ·have h:¬(Sum.inl a:Key)=Sum.inl b:=fun q=>e (Sum.inl.inj q)
  rw[Zz h]
  exact(beq_eq_false_iff_ne.mpr e).symm
theorem key_rr(a b:Str):decide ((Sum.inr a:Key)=Sum.inr b)=decide (a=b):=by
 by_cases e:a=b
 ·subst e;simp
 ·have h:¬(Sum.inr a:Key)=Sum.inr b:=fun q=>e (Sum.inr.inj q)
  rw[Zz h,Zz e]
theorem key_lr(a:Int)(b:Str):decide ((Sum.inl a:Key)=Sum.inr b)=false:=Zz (fun q=>nomatch q)
theorem key_rl(a:Str)(b:Int):decide ((Sum.inr a:Key)=Sum.inl b)=false:=Zz (fun q=>nomatch q)
def b0e'(prog:Program)(w:World):PySem.KeyKind prog w Key where
 is:=keyIs
 hash:=keyH w
 inj:=fun v a b ha hb=>by
  rcases a0I' ha with⟨i,t,rfl,rfl⟩| ⟨x,t,rfl,rfl⟩
  ·rcases a0I' hb with⟨j,u,rfl,e⟩| ⟨y,u,rfl,e⟩
   ·injection e with e1 _;rw[e1]
   ·exact nomatch e
  ·rcases a0I' hb with⟨j,u,rfl,e⟩| ⟨y,u,rfl,e⟩
   ·exact nomatch e
   ·injection e with e1 _;rw[e1]
 byValue:=fun k v h=>by
  rcases a0I' h with⟨i,t,rfl,rfl⟩| ⟨x,t,rfl,rfl⟩<;>rfl
 pyHash:=fun hv h=>by
  rcases a0I' hv with⟨i,t,rfl,rfl⟩| ⟨x,t,rfl,rfl⟩
  ·exact wpAny_pyHash_int h
  ·exact wpAny_pyHash_str h
 eqBool:=fun hu hv h=>by
  rcases a0I' hu with⟨i,t,rfl,rfl⟩| ⟨x,t,rfl,rfl⟩
  ·rcases a0I' hv with⟨j,u,rfl,rfl⟩| ⟨y,u,rfl,rfl⟩
   ·rw[key_ll]at h;exact wpAny_eqBool_int h
   ·rw[key_lr]at h;exact SeqAt.EqAt.int_str i t y u _ _ _ _ h
  ·rcases a0I' hv with⟨j,u,rfl,rfl⟩| ⟨y,u,rfl,rfl⟩
   ·rw[key_rl]at h;exact SeqAt.EqAt.str_int x t j u _ _ _ _ h
   ·rw[key_rr]at h;exact wpAny_eqBool_str h
 «strs»:=fun k x t v h=>by
  rcases a0I' h with⟨i,u,rfl,e⟩| ⟨y,u,rfl,e⟩
  ·exact nomatch e
  ·injection e with e1 _
   subst e1
   cases v<;>rfl
end L2
namespace L2
open PySem PySem.Spec PyProof.Rows
inductive V where
 |non|bl (b:Bool)|int (i:Int)|str (x:Str)|byt (b:Array UInt8)|flt (b:UInt64)|ref (a:Addr)|ty (n:String)
 deriving DecidableEq
def RelV:V→Value→Prop
 | .non,u=>u=Value.none
 | .bl b,u=>u=Value.bool b
 | .int i,u=>∃t,u=Value.int i t
 | .str x,u=>∃t,u=Value.str x t
 | .byt b,u=>∃t,u=Value.bytes b t
 | .flt b,u=>∃t,u=Value.float b t
 | .ref a,u=>u=Value.ref a
 | .ty n,u=>u=Value.type n
abbrev Vals:List V→List Value→Prop:=Paired RelV
theorem Vals.length{xs:List V}{us:List Value}(r:Vals xs us):xs.length=us.length:=Paired.length r
theorem Vals.get:∀{xs:List V} {us:List Value} {i:Nat} {x:V},Vals xs us→xs[i]?=some x→∃u,us[i]?=some u∧RelV x u
 |_,_,_,_,.nil,e=>by simp at e
 |_,_,0,_,.cons r _,e=>by simp at e;subst e;exact⟨_,rfl,r⟩
 |_,_,i+1,x,.cons _ t,e=>by
  obtain⟨u,h1,h2⟩:=Vals.get (i:=i) (x:=x) t (by simpa using e)
  exact⟨u,by simpa using h1,h2⟩
theorem Vals.set{x:V}{u:Value}(r:RelV x u):∀{xs:List V} {us:List Value} (i:Nat),Vals xs us→Vals (xs.set i x) (us.set i u)
 |_,_,_,.nil=>.nil
 |_,_,0,.cons _ t=>.cons r t
 |_,_,i+1,.cons q t=>.cons q (Vals.set r i t)
theorem Vals.append:∀{xs ys:List V} {us ws:List Value},Vals xs us→Vals ys ws→Vals (xs++ys) (us++ws)
 |_,_,_,_,.nil,s=>s
 |_,_,_,_,.cons r t,s=>.cons r (Vals.append t s)
theorem Vals.take:∀{xs:List V} {us:List Value} (n:Nat),Vals xs us→Vals (xs.take n) (us.take n)
 |_,_,0,_=>.nil
 |_,_,_+1,.nil=>.nil
 |_,_,n+1,.cons r t=>.cons r (Vals.take n t)
theorem Vals.drop:∀{xs:List V} {us:List Value} (n:Nat),Vals xs us→Vals (xs.drop n) (us.drop n)
 |_,_,0,r=>r
 |_,_,_+1,.nil=>.nil
 |_,_,n+1,.cons _ t=>Vals.drop n t
def RelO:Option V→Option Value→Prop
 |some v,some u=>RelV v u
 |none,none=>True
 |_,_=>False
def KV{κ:Type}:List (κ×V)→List (κ×Value)→Prop:=Paired fun(p:κ×V) (q:κ×Value)=>p.1=q.1∧RelV p.2 q.2
def kV:Key→V
 | .inl i=>.int i
 | .inr x=>.str x
inductive HO where
 |lst (xs:List V)
 |tup (xs:List V)
 |dK (kvs:List (Key×V))|dT (kvs:List (List Key×V))
 |set (S:Int→Bool) (n:Nat)
 |ins (C dx:Addr) (fs:List (Str×V))
 |own (x:Addr)
 |xd (fs:List (Str×V))
 |met (f x:Addr)
 |rng (lo hi:Int)
 |frz (o:Obj) (u:HO)
 |tbl (ps:Array Value)
 |ext (φ:Heap→Prop)
abbrev Hp:=Addr→Option HO
def upd(H:Hp)(a:Addr)(o:HO):Hp:=fun b=>if b=a then some o else H b
theorem a0N'{H:Hp}{a:Addr}{o:HO}:upd H a o a=some o:=by unfold upd;rw[if_pos rfl]
theorem a0E'{H:Hp}{a b:Addr}{o:HO}(h:b≠a):upd H a o b=H b:=by unfold upd;rw[if_neg h]
theorem a0u'{H:Hp}{a b:Addr}{o:HO}(h:H a=some o)(h':H b=none):a≠b:=by
 intro e;subst e;rw[h]at h';cases h'
def NoD(h:Heap)(a:Addr):Prop:=∃o,h.get? a=some o∧o.dict=none
theorem NoD.new(h:Heap)(items:Array Value):NoD (h.push {cls:=.type "tuple",data:=.seq items}) h.objs.size:=⟨_,Zt _ rfl,rfl⟩
section
variable (P:Program)(w:World)
def ObjOk(H:Hp)(h:Heap)(a:Addr):HO→Prop
 | .lst xs=>xs.length≤sizeLine∧∃(its:List Value) (n:Nat),Vals xs its∧h.get? a=some {cls:=.type "list",data:=.seq its.toArray n}
 | .tup xs=>xs.length≤sizeLine∧∃its:List Value,Vals xs its∧IsTup h a its.toArray∧NoD h a
 | .dK kvs=>kvs.length≤sizeLine∧(a==sysModules)=false∧∃vs,KV kvs vs∧h.DictOf (b0e' P w) a vs
 | .dT kvs=>kvs.length≤sizeLine∧(a==sysModules)=false∧∃xs:List (List Key×Addr×Value),
   Paired (fun(p:List Key×V) (q:List Key×Addr×Value)=>p.1=q.1∧H q.2.1=some (.tup (p.1.map kV))∧RelV p.2 q.2.2) kvs xs∧
   ∃o es ep,h.get? a=some o∧o.ExactDict∧o.data=.dict es ep∧es.toList=xs.map (entryOfKey (tupleKind (b0e' P w)))∧(xs.map (·.1)).Nodup
 | .set S n=>h.SetOf (intKind P w) a S n
 | .ins C dx fs=>H dx=some (.own a)∧fs.length≤1000∧dx≠a∧h.get? a=some (PySem.W.instObj C dx)∧
   ∃mA,h.Ns1 dx mA∧(∀f,RelO (fs.lookup f) (mA f))∧PySem.Within mA (fs.map (·.1))
 | .own _=>∃o,h.get? a=some o
 | .xd fs=>∃mA,h.Ns1 a mA∧∀f,RelO (fs.lookup f) (mA f)
 | .rng lo hi=>∃t u v,h.get? a=some {cls:=.type "range",data:=.fields #[.int lo t,.int hi u,.int 1 v]}
 | .frz o u=>h.get? a=some o∧ObjOk H h a u
 | .tbl ps=>h.get? a=some {cls:=.none,data:=.fields ps}
 | .met f x=>h.get? a=some (PySem.W.methodObj (.ref f) (.ref x))
 | .ext φ=>φ h∧(∃o,h.get? a=some o)∧∀h1 h2:Heap,φ h1→(∀o,h1.get? a=some o→h2.get? a=some o)→φ h2
def HOk(H:Hp)(h:Heap):Prop:=∀a o,H a=some o→ObjOk P w H h a o
end
section
variable {P:Program}{w:World}{H H':Hp}{h h':Heap}{a:Addr}{o:HO}
theorem ObjOk.lt(x:ObjOk P w H h a o):a<h.objs.size:=by
 cases o with
 |lst xs=>obtain⟨_,_,_,_,e⟩:=x;exact Zq e
 |tup xs=>obtain⟨_,_,_,p,_⟩:=x;exact p.lt
 |dK kvs=>obtain⟨_,_,_,_,o,_,_,e,_⟩:=x;exact Zq e
 |dT kvs=>obtain⟨_,_,_,_,o,_,_,e,_⟩:=x;exact Zq e
 |set S n=>obtain⟨o,_,_,_,e,_⟩:=x;exact Zq e
 |ins C dx fs=>obtain⟨_,_,_,e,_⟩:=x;exact Zq e
 |own y=>obtain⟨_,e⟩:=x;exact Zq e
 |xd fs=>obtain⟨_,⟨_,_,_,e,_⟩,_⟩:=x;exact Zq e
 |rng lo hi=>obtain⟨_,_,_,e⟩:=x;exact Zq e
 |frz ob u=>obtain⟨e,_⟩:=x;exact Zq e
 |tbl ps=>exact Zq (show h.get? a=some _ from x)
 |met f y=>exact Zq (show h.get? a=some _ from x)
 |ext φ=>obtain⟨_,⟨_,e⟩,_⟩:=x;exact Zq e
theorem Paired.mapP{α β:Type}{F G:α→β→Prop}:∀{l₁:List α} {l₂:List β},Paired F l₁ l₂→(∀a b,F a b→G a b)→Paired G l₁ l₂
 |_,_,.nil,_=>.nil
 |_,_,.cons r t,f=>.cons (f _ _ r) (Paired.mapP t f)
theorem ObjOk.stay(x:ObjOk P w H h a o)(k:∀b u,(b=a∨H b=some (.own a))→h.get? b=some u→h'.get? b=some u)
  (ho:∀b,H b=some (.own a)→H' b=some (.own a)) (ht:∀b xs,H b=some (.tup xs)→H' b=some (.tup xs)):ObjOk P w H' h' a o:=by
 induction o with
 |lst xs=>obtain⟨z,its,n,r,e⟩:=x;exact⟨z,its,n,r,k _ _ (.inl rfl) e⟩
 |tup xs=>obtain⟨z,its,r,⟨ob,e,c⟩,ob',e',c'⟩:=x;exact⟨z,its,r,⟨ob,k _ _ (.inl rfl) e,c⟩,ob',k _ _ (.inl rfl) e',c'⟩
 |dK kvs=>obtain⟨z,y,vs,r,ob,es,ep,e,c⟩:=x;exact⟨z,y,vs,r,ob,es,ep,k _ _ (.inl rfl) e,c⟩
 |dT kvs=>
  obtain⟨z,y,xs,r,ob,es,ep,e,c⟩:=x
  exact⟨z,y,xs,Paired.mapP r fun p q z=>⟨z.1,ht _ _ z.2.1,z.2.2⟩,ob,es,ep,k _ _ (.inl rfl) e,c⟩
 |set S n=>obtain⟨ob,es,ep,t,e,c⟩:=x;exact⟨ob,es,ep,t,k _ _ (.inl rfl) e,c⟩
 |ins C dx fs=>
  obtain⟨d,z,ne,e,mA,⟨od,es,ep,e2,c⟩,r⟩:=x
  exact⟨ho _ d,z,ne,k _ _ (.inl rfl) e,mA,⟨od,es,ep,k _ _ (.inr d) e2,c⟩,r⟩
 |own y=>obtain⟨ob,e⟩:=x;exact⟨ob,k _ _ (.inl rfl) e⟩
 |xd fs=>obtain⟨mA,⟨od,es,ep,e,c⟩,r⟩:=x;exact⟨mA,⟨od,es,ep,k _ _ (.inl rfl) e,c⟩,r⟩
 |rng lo hi=>obtain⟨t,u,v,e⟩:=x;exact⟨t,u,v,k _ _ (.inl rfl) e⟩
 |frz ob u ih=>obtain⟨e,q⟩:=x;exact⟨k _ _ (.inl rfl) e,ih q⟩
 |tbl ps=>
  have e:h.get? a=some {cls:=.none,data:=.fields ps}:=x
  show h'.get? a=some {cls:=.none,data:=.fields ps}
  exact k a _ (.inl rfl) e
 |met f y=>
  have e:h.get? a=some (PySem.W.methodObj (.ref f) (.ref y)):=x
  show h'.get? a=some (PySem.W.methodObj (.ref f) (.ref y))
  exact k a _ (.inl rfl) e
 |ext φ=>obtain⟨p,⟨o,e⟩,st⟩:=x;exact⟨st _ _ p fun o q=>k _ _ (.inl rfl) q,⟨o,k _ _ (.inl rfl) e⟩,st⟩
theorem HOk.lt(x:HOk P w H h)(e:H a=some o):a<h.objs.size:=(x a o e).lt
theorem HOk.fresh(x:HOk P w H h)(e:h.objs.size≤a):H a=none:=by
 cases q:H a with
 |none=>rfl
 |some u=>exact absurd (ZK (x.lt q) e) (Nat.lt_irrefl _)
theorem HOk.kept(x:HOk P w H h)(k:∀b u,h.get? b=some u→h'.get? b=some u):HOk P w H h':=fun a o e=>
 (x a o e).stay (fun b u _ q=>k b u q) (fun _ q=>q) fun _ _ q=>q
theorem HOk.laid(x:HOk P w H h)(k:∀b u,h.get? b=some u→h'.get? b=some u)(hp:h.objs.size≤a)(new:ObjOk P w (upd H a o) h' a o):HOk P w (upd H a o) h':=fun b u e=>by
 have hn:=x.fresh hp
 by_cases hb:b=a
 ·subst hb;rw[a0N']at e;cases e;exact new
 ·rw[a0E' hb]at e
  exact(x b u e).stay (fun c v _ q=>k c v q) (fun c q=>by rw[a0E' (a0u' q hn)];exact q) fun c xs q=>by rw[a0E' (a0u' q hn)];exact q
end
def Rd(H:Hp)(a:Addr)(u:HO):Prop:=H a=some u∨∃o,H a=some (.frz o u)
theorem Rd.ok{P:Program}{w:World}{H:Hp}{h:Heap}{a:Addr}{u:HO}(r:Rd H a u)(x:HOk P w H h):ObjOk P w H h a u:=by
 rcases r with r| ⟨o,r⟩
 ·exact x a u r
 ·obtain⟨_,q⟩:=x a _ r
  exact q
def Mut:Option HO→Prop
 |some (.lst _)=>True
 |some (.dK _)=>True
 |some (.dT _)=>True
 |some (.set _ _)=>True
 |some (.ins _ _ _)=>True
 |some (.ext _)=>True
 |_=>False
section
variable {P:Program}{w:World}{H:Hp}{h h':Heap}{x e:Addr}{o':HO}
theorem HOk.write(ok:HOk P w H h)(mu:Mut (H x))(he:e=x∨H e=some (.own x))(k:∀b u,b≠e→h.get? b=some u→h'.get? b=some u)(heo:∃u,h'.get? e=some u)
  (new:ObjOk P w (upd H x o') h' x o'):HOk P w (upd H x o') h':=fun b u q=>by
 have nown:∀c y,H c=some (.own y)→c≠x:=fun c y r z=>by subst z;rw[r]at mu;exact mu
 have ntup:∀c xs,H c=some (.tup xs)→c≠x:=fun c xs r z=>by subst z;rw[r]at mu;exact mu
 by_cases hb:b=x
 ·subst hb;rw[a0N']at q;cases q;exact new
 ·rw[a0E' hb]at q
  by_cases hbe:b=e
  ·have q':H b=some (.own x):=by
    rcases he with z|z
    ·exact absurd (hbe.trans z) hb
    ·rw[hbe];exact z
   rw[q]at q';cases q'
   obtain⟨v,hv⟩:=heo
   exact⟨v,by rw[hbe];exact hv⟩
  ·refine(ok b u q).stay (fun c v hc r=>k c v ?_ r) (fun c r=>by rw[a0E' (nown c b r)];exact r) fun c xs r=>by rw[a0E' (ntup c xs r)];exact r
   rcases hc with rfl|hc
   ·exact hbe
   ·rintro rfl
    rcases he with z|z
    ·exact nown c b hc z
    ·rw[hc]at z;cases z;exact hb rfl
end
structure Un (fs ex:List Addr)(H H':Hp)(h h':Heap):Prop where
 keep:∀b o,h.get? b=some o→H b=none→b∉fs→b∉ex→h'.get? b=some o
 slot:∀b o,h.get? b=some o→H b=none→b∈fs→b∉ex→∃sl,h'.get? b=some {o with slots:=sl}
 free:∀b o,h.get? b=some o→H b=none→b∉ex→H' b=none
 there:∀b o,h.get? b=some o→b∉ex→∃o',h'.get? b=some o'
 tups:∀b xs,H b=some (.tup xs)→H' b=some (.tup xs)
 frzs:∀b o u,H b=some (.frz o u)→H' b=some (.frz o u)
 tbls:∀b ps,H b=some (.tbl ps)→∃more,H' b=some (.tbl (ps++more))
section
variable {fs fs' ex ex':List Addr}{H H1 H2:Hp}{h h1 h2 h':Heap}{a x e:Addr}{o:HO}
theorem Un.any(u:Un fs ex H H1 h h1){b:Addr}{ob:Obj}(q:h.get? b=some ob)(n:H b=none)(hx:b∉ex):∃sl,h1.get? b=some {ob with slots:=sl}:=by
 by_cases hb:b∈fs
 ·exact u.slot b ob q n hb hx
 ·exact⟨ob.slots,u.keep b ob q n hb hx⟩
theorem Un.kept(k:∀b u,h.get? b=some u→h'.get? b=some u):Un fs ex H H h h':=
 ⟨fun b ob q _ _ _=>k b ob q,fun b ob q _ _ _=>⟨ob.slots,k b ob q⟩,fun _ _ _ n _=>n,fun b ob q _=>⟨ob,k b ob q⟩,fun _ _ q=>q,fun _ _ _ q=>q,fun _ ps q=>⟨#[],by rw[q];simp⟩⟩
theorem Un.refl:Un fs ex H H h h:=Un.kept fun _ _ q=>q
theorem Un.laid(k:∀b u,h.get? b=some u→h'.get? b=some u)(hp:h.objs.size≤a)(hn:H a=none):Un fs ex H (upd H a o) h h' where
 keep:=fun b u q _ _ _=>k b u q
 slot:=fun b u q _ _ _=>⟨u.slots,k b u q⟩
 free:=fun b u q n _=>by rw[a0E' (ZQ (ZK (Zq q) hp))];exact n
 there:=fun b u q _=>⟨u,k b u q⟩
 tups:=fun b xs q=>by rw[a0E' (a0u' q hn)];exact q
 frzs:=fun b u xs q=>by rw[a0E' (a0u' q hn)];exact q
 tbls:=fun b ps q=>⟨#[],by rw[a0E' (a0u' q hn),q];simp⟩
theorem Un.write(mu:Mut (H x))(he:e=x∨H e=some (.own x))(k:∀b u,b≠e→h.get? b=some u→h'.get? b=some u)(heo:∃u,h'.get? e=some u):Un fs ex H (upd H x o) h h':=by
 have hx:∀b,H b=none→b≠x:=fun b n z=>by subst z;rw[n]at mu;exact mu
 have hb:∀b,H b=none→b≠e:=fun b n z=>by
  subst z
  rcases he with r|r
  ·exact hx b n r
  ·rw[n]at r;cases r
 have hm:∀b u,H b=some u→¬Mut (some u)→b≠x:=fun b u q nm z=>by subst z;rw[q]at mu;exact nm mu
 refine⟨fun b u q n _ _=>k b u (hb b n) q,fun b u q n _ _=>⟨u.slots,k b u (hb b n) q⟩,fun b u q n _=>by rw[a0E' (hx b n)];exact n,fun b u q _=>?_,
  fun b xs q=>by rw[a0E' (hm b _ q fun z=>z)];exact q,fun b u xs q=>by rw[a0E' (hm b _ q fun z=>z)];exact q,fun b ps q=>⟨#[],by rw[a0E' (hm b _ q fun z=>z),q];simp⟩⟩
 by_cases hbe:b=e
 ·subst hbe;exact heo
 ·exact⟨u,k b u hbe q⟩
end
def trk(h:Heap)(H:Hp):List Addr:=(List.range h.objs.size).filter fun a=>(H a).isSome
def hidT(h:Heap)(H:Hp):Heap:=PySem.W.hideAll h (trk h H)
theorem b2h'(h:Heap)(H:Hp):(hidT h H).objs.size=h.objs.size:=PySem.W.hideAll_size _ _
theorem b4f'{h:Heap}{H:Hp}{b:Addr}{o:Obj}(e:h.get? b=some o)(n:H b=none):(hidT h H).get? b=some o:=
 PySem.W.hideAll_get _ e fun hm=>by
  have q:(H b).isSome=true:=(ZG.mp hm).2
  rw[n]at q;simp at q
theorem of_hidT{h:Heap}{H:Hp}{b:Addr}{o:Obj}(e:(hidT h H).get? b=some o):h.get? b=some o∧H b=none:=by
 have e':h.get? b=some o:=PySem.W.of_hideAll (trk h H) e
 refine⟨e',?_⟩
 cases q:H b with
 |none=>rfl
 |some x=>
  have hm:b∈trk h H:=ZG.mpr ⟨Ya.mpr (Zq e'),by simp[q]⟩
  have z:(hidT h H).get? b=none:=PySem.W.hideAll_none (trk h H) hm
  rw[z]at e;cases e
end L2
namespace L2
open PySem PySem.Spec PyProof.Rows
structure Mod (K:PySem.W.Frag)(mg:Str→Option Value)(base:Heap):Prop where
 kin:K.In base
 glob:base.Ns mainGlobals mg
 blt:∃mb,base.Ns builtinsNs mb∧∀x:Str,x≠"__name__"→mb x=bootBuiltins x
 nolimit:base.NoLimit
structure Cx where
 prog:Program
 w:World
 K:PySem.W.Frag
 mg:Str→Option Value
 base:Heap
 A:Around
 N:List Str
 s₀:Shared
 H₀:Hp
 env:Env
 outer:List Env
 stack:List Env
 ex:List Addr
 fn:Str→Bool
 calm:Bool
 pn:List (Addr×Obj)
 xe:Value→Shared→Prop
def frs(l:List Env):List Addr:=l.filterMap (·.frame)
abbrev Cx.fs(X:Cx):List Addr:=frs X.outer
def Vis(sc:Scope)(x:Str):Prop:=sc.names.lookup x=some .local∨sc.names.lookup x=some .cell∨sc.names.lookup x=some .free
def Loc(sc:Scope)(x:Str):Prop:=sc.names.lookup x=some .local∨sc.names.lookup x=some .cell
def Look(env:Env)(h:Heap)(m:Str→Option Value)(x:Str)(u:Value):Prop:=
 (env.kindOf x=some .local∧m x=some u)∨((env.kindOf x=some .cell∨env.kindOf x=some .free)∧∃c,env.cells.lookup x=some c∧h.IsCell c (some u))
structure Cx.Ok (X:Cx):Prop where
 mod:Mod X.K X.mg X.base
 kind:X.env.scope.kind=.function
 glob:X.env.globals=mainGlobals
 blt:X.env.builtins=builtinsNs
 above:X.s₀.heap.objs.size≤X.env.locals
 inj:∀x y c,X.env.cells.lookup x=some c→X.env.cells.lookup y=some c→x=y
 has:∀x,(X.env.kindOf x=some .cell∨X.env.kindOf x=some .free)→∃c,X.env.cells.lookup x=some c
 cab:∀x c,X.fn x=true→X.env.cells.lookup x=some c→X.s₀.heap.objs.size≤c
 hd:X.calm=true→X.A.handled=none
 frames:X.A.frames=some X.stack
 stk:X.stack=X.outer∨(X.stack=X.env::X.outer∧X.env.frame=some X.env.locals)
 exf:∀b∈X.ex,b≠X.env.locals∧∀x c,X.env.cells.lookup x=some c→c≠b
 bs:∀b o,X.base.get? b=some o→X.s₀.heap.get? b=some o∧X.H₀ b=none
 bsz:X.base.objs.size≤X.s₀.heap.objs.size
 noex:∀b o,X.base.get? b=some o→b∉X.ex
 exfs:∀b∈X.ex,b∉X.fs
 funs:X.s₀.heap.FunFrames X.base X.outer
 frf:∀b∈X.fs,X.H₀ b=none
structure Inv (X:Cx)(pins:List (Addr×Obj))(σ:List (Option V))(H:Hp)(s:Shared):Prop where
 ok:X.Ok
 os:s.os=X.s₀.os
 bare:AllBare s.gens
 base:Un X.fs X.ex X.H₀ H X.s₀.heap s.heap
 loc:∃m,s.heap.Ns X.env.locals m∧∀(i:Nat) (x:Str) (v:V),X.N[i]?=some x→σ[i]?=some (some v)→Vis X.env.scope x→∃u,RelV v u∧Look X.env s.heap m x u
 cell:∀x c,X.env.cells.lookup x=some c→∃v,s.heap.IsCell c v
 free:H X.env.locals=none
 freeC:∀x c,X.env.cells.lookup x=some c→H c=none
 pin:∀p∈X.pn++pins,s.heap.get? p.1=some p.2∧H p.1=none∧p.1≠X.env.locals∧p.1∉X.fs∧∀v,p.2.data≠.cell v
 hok:HOk X.prog X.w H s.heap
 len:σ.length=X.N.length
section
variable {X:Cx}{pins:List (Addr×Obj)}{σ:List (Option V)}{H H':Hp}{s:Shared}{h':Heap}
theorem Cx.Ok.nofr(ok:X.Ok){b:Addr}{o:Obj}(e:X.base.get? b=some o):b∉X.fs:=fun hb=>by
 have:=(ok.funs.mem hb).1
 rw[e]at this;cases this
theorem Inv.bs(I:Inv X pins σ H s):∀b o,X.base.get? b=some o→s.heap.get? b=some o∧H b=none:=fun b o e=>
 ⟨I.base.keep b o (I.ok.bs b o e).1 (I.ok.bs b o e).2 (I.ok.nofr e) (I.ok.noex b o e),I.base.free b o (I.ok.bs b o e).1 (I.ok.bs b o e).2 (I.ok.noex b o e)⟩
theorem Inv.bk(I:Inv X pins σ H s):∀b o,X.base.get? b=some o→s.heap.get? b=some o:=fun b o e=>(I.bs b o e).1
theorem Inv.mod(I:Inv X pins σ H s):Mod X.K X.mg X.base:=I.ok.mod
theorem Inv.kIn(I:Inv X pins σ H s):X.K.In s.heap:=I.ok.mod.kin.keeps I.bk
theorem Inv.lt(I:Inv X pins σ H s):X.env.locals<s.heap.objs.size:=let⟨_,hn,_⟩:=I.loc;hn.lt
theorem Inv.sz(I:Inv X pins σ H s):X.s₀.heap.objs.size≤s.heap.objs.size:=ZL I.ok.above (Nat.le_of_lt I.lt)
theorem Inv.nofs(I:Inv X pins σ H s){a:Addr}(h:s.heap.objs.size≤a):a∉X.fs:=fun hb=>by
 obtain⟨_,o,ho,_⟩:=I.ok.funs.mem hb
 exact absurd (ZK (Zq ho) (ZL I.sz h)) (Nat.lt_irrefl _)
theorem Inv.cne(I:Inv X pins σ H s):∀x c,X.env.cells.lookup x=some c→c≠X.env.locals:=fun x c e z=>by
 obtain⟨v,o,ho,hd⟩:=I.cell x c e
 obtain⟨m,⟨o',es,ep,ho',hd',_⟩,_⟩:=I.loc
 rw[z,ho']at ho;cases ho;rw[hd']at hd;cases hd
theorem Inv.funs(I:Inv X pins σ H s):s.heap.FunFrames X.base X.outer:=by
 have all:∀(l:List Env),(∀b∈frs l,b∈X.fs)→X.s₀.heap.FunFrames X.base l→s.heap.FunFrames X.base l:=by
  intro l
  induction l with
  |nil=>intro _ _;trivial
  |cons env r ih=>
   intro hs hl
   obtain⟨hk,⟨L,o,hf,hn,ho,hd⟩,hr⟩:=hl
   have hL:L∈X.fs:=hs L (by unfold frs;rw[List.filterMap_cons,hf];exact Zb)
   obtain⟨sl,e⟩:=I.base.slot L o ho (I.ok.frf L hL) hL fun z=>I.ok.exfs L z hL
   exact⟨hk,⟨L,_,hf,hn,e,hd⟩,ih (fun b hb=>hs b (by unfold frs;rw[List.filterMap_cons,hf];exact Za _ hb)) hr⟩
 exact all X.outer (fun _ hb=>hb) I.ok.funs
theorem Inv.stack(I:Inv X pins σ H s):s.heap.FunFrames X.base X.stack:=by
 rcases I.ok.stk with e| ⟨e,hf⟩
 ·rw[e];exact I.funs
 ·rw[e]
  obtain⟨m,hn,_⟩:=I.loc
  refine .cons (by rw[I.ok.kind];decide) hf hn ?_ I.funs
  exact Heap.get?_none_of_le (ZL I.ok.bsz I.ok.above)
theorem Inv.stkSub(I:Inv X pins σ H s):∀b∈frs X.stack,b∈X.env.locals::X.fs:=fun b hb=>by
 rcases I.ok.stk with e| ⟨e,hf⟩
 ·rw[e]at hb;exact Za _ hb
 ·rw[e]at hb
  unfold frs at hb
  rw[List.filterMap_cons,hf]at hb
  exact hb
theorem Inv.stkFree(I:Inv X pins σ H s):∀b∈frs X.stack,H b=none:=fun b hb=>by
 rcases Zn.mp (I.stkSub b hb)with e|hb
 ·rw[e];exact I.free
 ·obtain⟨_,o,ho,_⟩:=I.ok.funs.mem hb
  exact I.base.free b o ho (I.ok.frf b hb) fun z=>I.ok.exfs b z hb
theorem Inv.step{g':Array GenState}{t':Nat}{d':Drawn}{ch:List Addr}(I:Inv X pins σ H s)
  (hch:∀b∈ch,(b∈X.ex∨X.s₀.heap.objs.size≤b)∧b≠X.env.locals∧(∀x c,X.env.cells.lookup x=some c→c≠b)∧∀p∈X.pn++pins,p.1≠b)
  (keep:∀b o,b≠X.env.locals→b∉X.fs→b∉ch→s.heap.get? b=some o→H b=none→h'.get? b=some o)
  (slot:∀b o,b≠X.env.locals→b∈X.fs→b∉ch→s.heap.get? b=some o→H b=none→∃sl,h'.get? b=some {o with slots:=sl}) (free:∀b o,b∉ch→s.heap.get? b=some o→H b=none→H' b=none)
  (there:∀b o,b∉ch→s.heap.get? b=some o→∃o',h'.get? b=some o')
  (tups:∀b xs,H b=some (.tup xs)→H' b=some (.tup xs)) (frzs:∀b o u,H b=some (.frz o u)→H' b=some (.frz o u)) (tbls:∀b ps,H b=some (.tbl ps)→∃more,H' b=some (.tbl (ps++more)))
  (ns:∀m,s.heap.Ns X.env.locals m→h'.Ns X.env.locals m) (hok:HOk X.prog X.w H' h') (hg:AllBare g'):
  Inv X pins σ H' {s with heap:=h',gens:=g',drawn:=d',toks:=t'}:=by
 have neL:∀b o,X.s₀.heap.get? b=some o→b≠X.env.locals:=fun b o e=>ZQ (ZK (Zq e) I.ok.above)
 have neC:∀b o,X.s₀.heap.get? b=some o→b∉X.ex→b∉ch:=fun b o e hx hb=>by
  rcases(hch b hb).1 with z|z
  ·exact hx z
  ·exact absurd (ZK (Zq e) z) (Nat.lt_irrefl _)
 have cellK:∀x c,X.env.cells.lookup x=some c→∀v,s.heap.IsCell c v→h'.IsCell c v:=fun x c e v ⟨o,ho,hd⟩=>by
  have nch:c∉ch:=fun z=>(hch c z).2.2.1 x c e rfl
  by_cases hc:c∈X.fs
  ·obtain⟨sl,q⟩:=slot c o (I.cne x c e) hc nch ho (I.freeC x c e)
   exact⟨_,q,hd⟩
  ·exact⟨o,keep c o (I.cne x c e) hc nch ho (I.freeC x c e),hd⟩
 refine⟨I.ok,I.os,hg,⟨fun b o e n hb hx=>?_,fun b o e n hb hx=>?_,fun b o e n hx=>?_,fun b o e hx=>?_,fun b xs e=>tups b xs (I.base.tups b xs e),fun b o xs e=>frzs b o xs (I.base.frzs b o xs e),fun b ps e=>?_⟩,?_,fun x c e=>?_,?_,fun x c e=>?_,fun p hp=>?_,hok,I.len⟩
 ·exact keep b o (neL b o e) hb (neC b o e hx) (I.base.keep b o e n hb hx) (I.base.free b o e n hx)
 ·obtain⟨sl,e1⟩:=I.base.slot b o e n hb hx
  obtain⟨sl',e2⟩:=slot b _ (neL b o e) hb (neC b o e hx) e1 (I.base.free b o e n hx)
  exact⟨sl',e2⟩
 ·obtain⟨o',e1⟩:=I.base.there b o e hx
  exact free b o' (neC b o e hx) e1 (I.base.free b o e n hx)
 ·obtain⟨o',e1⟩:=I.base.there b o e hx
  exact there b o' (neC b o e hx) e1
 ·obtain⟨m1,e1⟩:=I.base.tbls b ps e
  obtain⟨m2,e2⟩:=tbls b _ e1
  exact⟨m1++m2,by rw[e2,Array.append_assoc]⟩
 ·obtain⟨m,hn,hl⟩:=I.loc
  refine⟨m,ns m hn,fun i x v e1 e2 e3=>?_⟩
  obtain⟨u,r,l⟩:=hl i x v e1 e2 e3
  refine⟨u,r,?_⟩
  rcases l with l| ⟨k,c,e,z⟩
  ·exact .inl l
  ·exact .inr ⟨k,c,e,cellK x c e _ z⟩
 ·obtain⟨v,z⟩:=I.cell x c e
  exact⟨v,cellK x c e v z⟩
 ·obtain⟨m,⟨o,_,_,ho,_⟩,_⟩:=I.loc
  exact free _ o (fun z=>(hch _ z).2.1 rfl) ho I.free
 ·obtain⟨v,o,ho,hd⟩:=I.cell x c e
  exact free c o (fun z=>(hch c z).2.2.1 x c e rfl) ho (I.freeC x c e)
 ·obtain⟨e,n,ne,nf,d⟩:=I.pin p hp
  have nch:p.1∉ch:=fun z=>(hch p.1 z).2.2.2 p hp rfl
  exact⟨keep p.1 p.2 ne nf nch e n,free p.1 p.2 nch e n,ne,nf,d⟩
theorem Inv.un{t':Nat}(I:Inv X pins σ H s)(u:Un X.fs [] H H' s.heap h')(hok:HOk X.prog X.w H' h'):Inv X pins σ H' {s with heap:=h',toks:=t'}:=by
 obtain⟨m,⟨o,es,ep,ho,r⟩,_⟩:=id I.loc
 obtain⟨sl,hL⟩:=u.any ho I.free (by simp)
 exact I.step (g':=s.gens) (d':=s.drawn) (ch:=[]) (fun _ z=>nomatch z) (fun b o _ hb _ e n=>u.keep b o e n hb (by simp)) (fun b o _ hb _ e n=>u.slot b o e n hb (by simp)) (fun b o _ e n=>u.free b o e n (by simp)) (fun b o _ e=>u.there b o e (by simp)) u.tups u.frzs u.tbls (fun m' hm=>by
  obtain⟨o',es',ep',ho',r'⟩:=hm
  rw[ho]at ho';cases ho'
  exact⟨_,es',ep',hL,r'⟩) hok I.bare
theorem Inv.call{g':Array GenState}{t':Nat}{d':Drawn}{ch:List Addr}(I:Inv X pins σ H s)(u:Un (frs X.stack) ch H H' s.heap h')(hok:HOk X.prog X.w H' h')(hg:AllBare g')
  (hch:∀b∈ch,(b∈X.ex∨X.s₀.heap.objs.size≤b)∧b≠X.env.locals∧(∀x c,X.env.cells.lookup x=some c→c≠b)∧∀p∈X.pn++pins,p.1≠b):
  Inv X pins σ H' {s with heap:=h',gens:=g',drawn:=d',toks:=t'}:=by
 obtain⟨m,⟨o,es,ep,ho,r⟩,_⟩:=id I.loc
 obtain⟨sl,hL⟩:=u.any ho I.free fun z=>(hch _ z).2.1 rfl
 exact I.step (ch:=ch) hch (fun b o hL hb hc e n=>u.keep b o e n (fun z=>(Zn.mp (I.stkSub b z)).elim hL hb) hc) (fun b o _ _ hc e n=>u.any e n hc) (fun b o hc e n=>u.free b o e n hc) (fun b o hc e=>u.there b o e hc) u.tups u.frzs u.tbls (fun m' hm=>by
  obtain⟨o',es',ep',ho',r'⟩:=hm
  rw[ho]at ho';cases ho'
  exact⟨_,es',ep',hL,r'⟩) hok hg
theorem Inv.turned{t':Nat}{it:Addr}(I:Inv X pins σ H s)(k:∀b o,b≠it→s.heap.get? b=some o→h'.get? b=some o)(hn:H it=none)(hL:it≠X.env.locals)
  (h1:it∈X.ex∨X.s₀.heap.objs.size≤it) (h2:∀x c,X.env.cells.lookup x=some c→c≠it) (h3:∀p∈X.pn++pins,p.1≠it):Inv X pins σ H {s with heap:=h',toks:=t'}:=by
 have nit:∀b u,H b=some u→b≠it:=fun b u e z=>by rw[z,hn]at e;cases e
 refine I.step (g':=s.gens) (d':=s.drawn) (ch:=[it]) (fun b hb=>?_) (fun b o _ _ hc e _=>k b o (fun z=>hc (by simp[z])) e) (fun b o _ _ hc e _=>⟨o.slots,k b o (fun z=>hc (by simp[z])) e⟩) (fun _ _ _ _ n=>n)
  (fun b o hc e=>⟨o,k b o (fun z=>hc (by simp[z])) e⟩) (fun _ _ e=>e) (fun _ _ _ e=>e) (fun b ps e=>⟨#[],by rw[e];simp⟩) (fun m hm=>?_) (fun b u e=>?_) I.bare
 ·have e:b=it:=by simpa using hb
  subst e
  exact⟨h1,hL,h2,h3⟩
 ·obtain⟨o,es,ep,ho,r⟩:=hm
  exact⟨o,es,ep,k _ o (Ne.symm hL) ho,r⟩
 ·refine(I.hok b u e).stay (fun c v hc q=>k c v ?_ q) (fun _ q=>q) fun _ _ q=>q
  rcases hc with z|z
  ·rw[z];exact nit b u e
  ·exact nit c _ z
theorem Inv.tok(I:Inv X pins σ H s)(t:Nat):Inv X pins σ H {s with toks:=t}:=I.un (h':=s.heap) (t':=t) Un.refl I.hok
theorem Inv.kept{t':Nat}(I:Inv X pins σ H s)(k:∀b u,s.heap.get? b=some u→h'.get? b=some u):Inv X pins σ H {s with heap:=h',toks:=t'}:=I.un (Un.kept k) (I.hok.kept k)
theorem Inv.laid{a:Addr}{o:HO}{t':Nat}(I:Inv X pins σ H s)(k:∀b u,s.heap.get? b=some u→h'.get? b=some u)(hp:s.heap.objs.size≤a)(new:ObjOk X.prog X.w (upd H a o) h' a o):
  Inv X pins σ (upd H a o) {s with heap:=h',toks:=t'}:=I.un (Un.laid k hp (I.hok.fresh hp)) (I.hok.laid k hp new)
theorem Inv.write{x e:Addr}{o:HO}{t':Nat}(I:Inv X pins σ H s)(mu:Mut (H x))(he:e=x∨H e=some (.own x))(k:∀b u,b≠e→s.heap.get? b=some u→h'.get? b=some u)(heo:∃u,h'.get? e=some u)
  (new:ObjOk X.prog X.w (upd H x o) h' x o):Inv X pins σ (upd H x o) {s with heap:=h',toks:=t'}:=I.un (Un.write mu he k heo) (I.hok.write mu he k heo new)
theorem Inv.pins_of{pins':List (Addr×Obj)}(I:Inv X pins σ H s)(h:∀p∈pins',s.heap.get? p.1=some p.2∧H p.1=none∧p.1≠X.env.locals∧p.1∉X.fs∧∀v,p.2.data≠.cell v):Inv X pins' σ H s:=
 ⟨I.ok,I.os,I.bare,I.base,I.loc,I.cell,I.free,I.freeC,fun p hp=>(ZB.mp hp).elim (fun z=>I.pin p (Z0 _ z)) (h p),I.hok,I.len⟩
theorem b0f'{N:List Str}(hN:N.Nodup){i j:Nat}{x:Str}(a:N[i]?=some x)(b:N[j]?=some x):i=j:=by
 obtain⟨h1,e1⟩:=Zh.mp a
 obtain⟨h2,e2⟩:=Zh.mp b
 exact(List.getElem_inj hN).mp (e1.trans e2.symm)
theorem a8w'{M:Model}{A:Around}{E:Value→Shared→Prop}{i:Nat}{x:Str}{v:V}{u:Value}{Q:Unit→Shared→Prop}(I:Inv X pins σ H s)(hN:X.N.Nodup)(hi:X.N[i]?=some x)(hx:Loc X.env.scope x)(r:RelV v u)
  (h:∀s',Inv X pins (σ.set i (some v)) H s'→(∃a,Heap.SameBut a s.heap s'.heap∧(a=X.env.locals∨X.env.cells.lookup x=some a))→Q () s') (hf:X.fn x=true∨X.env.scope.names.lookup x=some .local:=by first|exact .inl rfl|exact .inr rfl|assumption):wpAny M A (storeName X.env x u) Q E s:=by
 obtain⟨m,hn,hl⟩:=id I.loc
 have hcls:(X.env.scope.kind== .class||(X.env.scope.kind== .module&&X.env.locals !=X.env.globals))=false:=by rw[I.ok.kind];rfl
 have hiσ:i<σ.length:=by rw[I.len];exact(Zh.mp hi).1
 have cne:=I.cne
 have tracked:∀{a:Addr} {h':Heap},(∃o,s.heap.get? a=some o∧H a=none)→Heap.SameBut a s.heap h'→HOk X.prog X.w H h':=fun{a h'} ha hs b ob e=>by
  obtain⟨_,_,hfree⟩:=ha
  refine(I.hok b ob e).stay (fun c w' hc q=>(hs.2 c ?_).trans q) (fun _ q=>q) fun _ _ q=>q
  rintro rfl
  rcases hc with rfl|hc
  ·rw[hfree]at e;cases e
  ·rw[hfree]at hc;cases hc
 rcases hx with hk|hk
 ·refine wpAny_storeName_local hk hn (fun h' hn' hs=>?_) hcls
  obtain⟨oL,_,_,hoL,_⟩:=id hn
  refine h _ ⟨I.ok,I.os,I.bare,⟨fun b o e n hb hx=>?_,fun b o e n hb hx=>?_,I.base.free,fun b o e hx=>?_,I.base.tups,I.base.frzs,I.base.tbls⟩,⟨_,hn',fun j y v' e1 e2 e3=>?_⟩,fun y c e=>?_,I.free,I.freeC,fun p hp=>?_,tracked ⟨oL,hoL,I.free⟩ hs,by simpa using I.len⟩ ⟨_,hs,.inl rfl⟩
  ·exact(hs.2 b (ZQ (ZK (Zq e) I.ok.above))).trans (I.base.keep b o e n hb hx)
  ·obtain⟨sl,e1⟩:=I.base.slot b o e n hb hx
   exact⟨sl,(hs.2 b (ZQ (ZK (Zq e) I.ok.above))).trans e1⟩
  ·obtain⟨o',e1⟩:=I.base.there b o e hx
   exact⟨o',(hs.2 b (ZQ (ZK (Zq e) I.ok.above))).trans e1⟩
  ·by_cases hj:j=i
   ·subst hj
    rw[hi]at e1;cases e1
    rw[Z5 hiσ]at e2
    cases e2
    exact⟨u,r,.inl ⟨hk,by simp⟩⟩
   ·rw[List.getElem?_set_ne (Ne.symm hj)]at e2
    obtain⟨u',r',q⟩:=hl j y v' e1 e2 e3
    refine⟨u',r',?_⟩
    rcases q with⟨k,e⟩| ⟨k,c,e,z⟩
    ·refine .inl ⟨k,?_⟩
     have:y≠x:=fun e=>hj (b0f' hN e1 (e▸hi))
     simp[this,e]
    ·exact .inr ⟨k,c,e,z.sameBut hs (cne y c e)⟩
  ·obtain⟨w',z⟩:=I.cell y c e
   exact⟨w',z.sameBut hs (cne y c e)⟩
  ·obtain⟨e,n,ne,nf,d⟩:=I.pin p hp
   exact⟨(hs.2 p.1 ne).trans e,n,ne,nf,d⟩
 ·have hfn:X.fn x=true:=by
   rcases hf with z|z
   ·exact z
   ·rw[z]at hk;cases hk
  obtain⟨c,hc⟩:=I.ok.has x (.inl hk)
  obtain⟨w',z⟩:=I.cell x c hc
  refine wpAny_storeName_cell I.ok.kind hk hc z (fun h' hc' hs=>?_)
  obtain⟨oc,hoc,hocd⟩:=id z
  refine h {s with heap:=h'} ⟨I.ok,I.os,I.bare,⟨fun b o e n hb hx=>?_,fun b o e n hb hx=>?_,I.base.free,fun b o e hx=>?_,I.base.tups,I.base.frzs,I.base.tbls⟩,⟨m,hn.sameBut hs (Ne.symm (cne x c hc)),fun j y v' e1 e2 e3=>?_⟩,fun y c' e=>?_,I.free,I.freeC,fun p hp=>?_,tracked ⟨oc,hoc,I.freeC x c hc⟩ hs,by simpa using I.len⟩ ⟨c,hs,.inr hc⟩
  ·exact(hs.2 b (ZQ (ZK (Zq e) (I.ok.cab x c hfn hc)))).trans (I.base.keep b o e n hb hx)
  ·obtain⟨sl,e1⟩:=I.base.slot b o e n hb hx
   exact⟨sl,(hs.2 b (ZQ (ZK (Zq e) (I.ok.cab x c hfn hc)))).trans e1⟩
  ·obtain⟨o',e1⟩:=I.base.there b o e hx
   exact⟨o',(hs.2 b (ZQ (ZK (Zq e) (I.ok.cab x c hfn hc)))).trans e1⟩
  ·by_cases hj:j=i
   ·subst hj
    rw[hi]at e1;cases e1
    rw[Z5 hiσ]at e2
    cases e2
    exact⟨u,r,.inr ⟨.inl hk,c,hc,hc'⟩⟩
   ·rw[List.getElem?_set_ne (Ne.symm hj)]at e2
    obtain⟨u',r',q⟩:=hl j y v' e1 e2 e3
    refine⟨u',r',?_⟩
    rcases q with q| ⟨k,c',e,z'⟩
    ·exact .inl q
    ·refine .inr ⟨k,c',e,z'.sameBut hs ?_⟩
     rintro rfl
     exact hj (b0f' hN e1 (I.ok.inj _ _ _ e hc▸hi))
  ·by_cases hcc:c'=c
   ·subst hcc;exact⟨_,hc'⟩
   ·obtain⟨w2,z2⟩:=I.cell y c' e
    exact⟨w2,z2.sameBut hs hcc⟩
  ·obtain⟨e,n,ne,nf,d⟩:=I.pin p hp
   refine⟨(hs.2 p.1 ?_).trans e,n,ne,nf,d⟩
   intro q
   rw[q,hoc]at e
   have q':oc=p.2:=Z2 e
   exact d w' (by rw[←q'];exact hocd)
theorem a7N'{M:Model}{A:Around}{E:Value→Shared→Prop}{i:Nat}{x:Str}{v:V}{u:Value}{Q:Unit→Shared→Prop}(I:Inv X pins σ H s)(hN:X.N.Nodup)(hi:X.N[i]?=some x)(hx:Loc X.env.scope x)(r:RelV v u)
  (h:∀s',Inv X pins (σ.set i (some v)) H s'→Q () s') (hf:X.fn x=true∨X.env.scope.names.lookup x=some .local:=by first|exact .inl rfl|exact .inr rfl|assumption):wpAny M A (storeName X.env x u) Q E s:=
 a8w' I hN hi hx r (fun s' I' _=>h s' I') hf
theorem Inv.call'{s':Shared}{ch:List Addr}(I:Inv X pins σ H s)(ho:s'.os=s.os)(u:Un (frs X.stack) ch H H' s.heap s'.heap)(hok:HOk X.prog X.w H' s'.heap)(hg:AllBare s'.gens)
  (hch:∀b∈ch,(b∈X.ex∨X.s₀.heap.objs.size≤b)∧b≠X.env.locals∧(∀x c,X.env.cells.lookup x=some c→c≠b)∧∀p∈X.pn++pins,p.1≠b):Inv X pins σ H' s':=by
 obtain⟨h',g',d',t',o'⟩:=s'
 have e:o'=s.os:=ho
 subst e
 exact I.call (g':=g') (t':=t') (d':=d') u hok hg hch
end
abbrev XK:=Value→Option Addr→Hp→Prop
abbrev St:=List (Option V)
abbrev VK:=V→Hp→Prop
abbrev TE:=St→Hp→VK→Prop
abbrev TT:=St→Hp→(Bool→Hp→Prop)→Prop
abbrev TA:=St→Hp→(List V→Hp→Prop)→Prop
structure Ends where
 nx:St→Hp→Prop
 rt:VK
 bk:St→Hp→Prop:=fun _ _=>False
 ct:St→Hp→Prop:=fun _ _=>False
abbrev TS:=Ends→St→Hp→Prop
def EP(X:Cx)(pins:List (Addr×Obj))(σ:St)(Q:VK)(u:Value)(s':Shared):Prop:=∃v H',Inv X pins σ H' s'∧RelV v u∧Q v H'
def TP(X:Cx)(pins:List (Addr×Obj))(σ:St)(Q:Bool→Hp→Prop)(b:Bool)(s':Shared):Prop:=∃H',Inv X pins σ H' s'∧Q b H'
def AP(X:Cx)(pins:List (Addr×Obj))(σ:St)(Q:List V→Hp→Prop)(us:List Value)(s':Shared):Prop:=∃vs H',Inv X pins σ H' s'∧Vals vs us∧Q vs H'
def SP(X:Cx)(pins:List (Addr×Obj))(D:Ends)(f:Flow)(s':Shared):Prop:=
 match f with
 | .next=>∃σ' H',Inv X pins σ' H' s'∧D.nx σ' H'
 | .brk=>∃σ' H',Inv X pins σ' H' s'∧D.bk σ' H'
 | .cont=>∃σ' H',Inv X pins σ' H' s'∧D.ct σ' H'
 | .ret u=>∃v σ' H',Inv X pins σ' H' s'∧RelV v u∧D.rt v H'
def PE(X:Cx)(e:Expr)(t:TE):Prop:=
 ∀(pins:List (Addr×Obj)) (s:Shared) (σ:St) (H:Hp) (Q:VK),Inv X pins σ H s→t σ H Q→wpAny (model X.prog X.w) X.A (eval e X.env) (EP X pins σ Q) X.xe s
def PT(X:Cx)(e:Expr)(t:TT):Prop:=
 ∀(pins:List (Addr×Obj)) (s:Shared) (σ:St) (H:Hp) (Q:Bool→Hp→Prop),Inv X pins σ H s→t σ H Q→wpAny (model X.prog X.w) X.A (isTrue e X.env (eval e X.env)) (TP X pins σ Q) X.xe s
def PW(X:Cx)(e:Expr)(t:TT):Prop:=
 ∀(whole:Sem Value) (pins:List (Addr×Obj)) (s:Shared) (σ:St) (H:Hp) (Q:Bool→Hp→Prop),Inv X pins σ H s→t σ H Q→wpAny (model X.prog X.w) X.A (isTrue e X.env whole) (TP X pins σ Q) X.xe s
theorem PW.pt{X:Cx}{e:Expr}{t:TT}(h:PW X e t):PT X e t:=h _
def PA(X:Cx)(es:List Expr)(t:TA):Prop:=
 ∀(pos:Pos) (pins:List (Addr×Obj)) (s:Shared) (σ:St) (H:Hp) (Q:List V→Hp→Prop),Inv X pins σ H s→t σ H Q→wpAny (model X.prog X.w) X.A (spliced (backTo pos (starEach es X.env))) (AP X pins σ Q) X.xe s
def PS(X:Cx)(st:Stmt)(t:TS):Prop:=
 ∀(pins:List (Addr×Obj)) (s:Shared) (σ:St) (H:Hp) (D:Ends),Inv X pins σ H s→t D σ H→wpAny (model X.prog X.w) X.A (exec st X.env) (SP X pins D) X.xe s
def PSs(X:Cx)(st:List Stmt)(t:TS):Prop:=
 ∀(pins:List (Addr×Obj)) (s:Shared) (σ:St) (H:Hp) (D:Ends),Inv X pins σ H s→t D σ H→wpAny (model X.prog X.w) X.A (execs st X.env) (SP X pins D) X.xe s
theorem thn{α:Type}{t:Sem α}{Q Q':α→Shared→Prop}{M:Model}{A:Around}{E:Value→Shared→Prop}{s:Shared}(h:wpAny M A t Q E s)(hQ:∀a s,Q a s→Q' a s):wpAny M A t Q' E s:=wpAny_mono h hQ fun _ _ x=>x
end L2
namespace L2
open PySem PySem.Spec PyProof.Rows
section
variable {X:Cx}
def tVar(i:Nat):TE:=fun σ H Q=>∃v,σ[i]?=some (some v)∧Q v H
def tC(v:V):TE:=fun _ H Q=>Q v H
theorem pe_var{i:Nat}{x:Str}{pos:Pos}(hN:X.N[i]?=some x)(hv:Vis X.env.scope x)(hd:(x==("__debug__":Str))=false:=by decide)(hcd:(x==("__classdict__":Str))=false:=by decide):PE X (.Name x pos) (tVar i):=by
 intro pins s σ H Q I h
 obtain⟨v,e,h⟩:=h
 obtain⟨m,hn,hl⟩:=I.loc
 obtain⟨u,r,l⟩:=hl i x v hN e hv
 have fin:EP X pins σ Q u s:=⟨v,H,I,r,h⟩
 rcases l with⟨hk,hm⟩| ⟨hk,c,hc,hcell⟩
 ·exact wpAny_Name (wpAny_loadName_local I.ok.kind hk hn hm fin) hd
 ·rcases hk with hk|hk
  ·exact wpAny_Name (wpAny_loadName_cell I.ok.kind hk hc hcell fin) hd
  ·exact wpAny_Name (wpAny_loadName_free I.ok.kind hk hc hcell fin hcd) hd
theorem pe_int{i j pos}:PE X (.Constant (.int i) j pos) (tC (.int i)):=fun _ _ _ H _ I h=>wpAny_Constant_int ⟨.int i,H,I.tok _,⟨_,rfl⟩,h⟩
theorem pe_bl{b j pos}:PE X (.Constant (.bool b) j pos) (tC (.bl b)):=fun _ _ _ H _ I h=>Constant_bool ⟨.bl b,H,I,rfl,h⟩
theorem pe_non{j pos}:PE X (.Constant .none j pos) (tC .non):=fun _ _ _ H _ I h=>Constant_none ⟨.non,H,I,rfl,h⟩
theorem pe_str{x j pos}:PE X (.Constant (.str x) j pos) (tC (.str x)):=fun _ _ _ H _ I h=>Calls.Constant_str ⟨.str x,H,I.tok _,⟨_,rfl⟩,h⟩
def Gl(X:Cx)(x:Str):Prop:=X.env.kindOf x=some .globalImplicit
theorem b3t'{E:Value→Shared→Prop}{pins:List (Addr×Obj)}{s:Shared}{σ:St}{H:Hp}{x:Str}{u:Value}{pos:Pos}{Q:Value→Shared→Prop}(I:Inv X pins σ H s)(hg:Gl X x)(hm:X.mg x=some u)(h:Q u s)
  (hd:(x==("__debug__":Str))=false:=by decide):wpAny (model X.prog X.w) X.A (eval (.Name x pos) X.env) Q E s:=
 Calls.Name_function_global I.ok.kind hg (Calls.loadGlobal_global (by rw[I.ok.glob];exact I.mod.glob.keeps I.bk) hm h) hd
theorem a9w'{E:Value→Shared→Prop}{pins:List (Addr×Obj)}{s:Shared}{σ:St}{H:Hp}{x:Str}{u:Value}{pos:Pos}{Q:Value→Shared→Prop}(I:Inv X pins σ H s)(hg:Gl X x)(hm:X.mg x=none)(hv:bootBuiltins x=some u)(h:Q u s)
  (hn:x≠"__name__":=by decide) (hd:(x==("__debug__":Str))=false:=by decide):wpAny (model X.prog X.w) X.A (eval (.Name x pos) X.env) Q E s:=by
 obtain⟨mb,h1,h2⟩:=I.mod.blt
 exact Calls.Name_function_global I.ok.kind hg (Calls.loadGlobal_builtin (by rw[I.ok.glob];exact I.mod.glob.keeps I.bk) hm (by rw[I.ok.blt];exact h1.keeps I.bk) ((h2 x hn).trans hv) h) hd
theorem pe_glob{x:Str}{v:V}{u:Value}{pos:Pos}(hg:Gl X x)(hm:X.mg x=some u)(r:RelV v u)(hd:(x==("__debug__":Str))=false:=by decide):PE X (.Name x pos) (tC v):=
 fun _ _ _ H _ I h=>b3t' I hg hm ⟨v,H,I,r,h⟩ hd
theorem pe_bltn{x:Str}{v:V}{u:Value}{pos:Pos}(hg:Gl X x)(hm:X.mg x=none)(hv:bootBuiltins x=some u)(r:RelV v u)(hn:x≠"__name__":=by decide)(hd:(x==("__debug__":Str))=false:=by decide):PE X (.Name x pos) (tC v):=
 fun _ _ _ H _ I h=>a9w' I hg hm hv ⟨v,H,I,r,h⟩ hn hd
variable {a b:Expr}{ta tb:TE}{pos:Pos}
variable {tA tB':TT}{rest:List Expr}
def tAnd(t u:TT):TT:=fun σ H Q=>t σ H fun c H1=>if c=true then u σ H1 Q else Q false H1
def tOr(t u:TT):TT:=fun σ H Q=>t σ H fun c H1=>if c=true then Q true H1 else u σ H1 Q
def tNot(t:TT):TT:=fun σ H Q=>t σ H fun c H1=>Q (!c) H1
theorem pw_and1(ha:PT X a tA):PW X (.BoolOp .And [a] pos) tA:=by
 intro wh pins s σ H Q I h
 refine isTrue_and (thn (ha pins s σ H Q I h) fun c s1 e=>?_)
 cases c with
 |true=>exact isTrue_and_nil e
 |false=>exact e
theorem pw_or1(ha:PT X a tA):PW X (.BoolOp .Or [a] pos) tA:=by
 intro wh pins s σ H Q I h
 refine isTrue_or (thn (ha pins s σ H Q I h) fun c s1 e=>?_)
 cases c with
 |false=>exact isTrue_or_nil e
 |true=>exact e
theorem pw_and(ha:PT X a tA)(hb:PW X (.BoolOp .And (b::rest) pos) tB'):PW X (.BoolOp .And (a::b::rest) pos) (tAnd tA tB'):=by
 intro wh pins s σ H Q I h
 refine isTrue_and (thn (ha pins s σ H _ I h) fun c s1 ⟨H1,I1,q1⟩=>?_)
 cases c with
 |true=>exact hb wh pins s1 σ H1 Q I1 q1
 |false=>exact⟨H1,I1,q1⟩
theorem pw_or(ha:PT X a tA)(hb:PW X (.BoolOp .Or (b::rest) pos) tB'):PW X (.BoolOp .Or (a::b::rest) pos) (tOr tA tB'):=by
 intro wh pins s σ H Q I h
 refine isTrue_or (thn (ha pins s σ H _ I h) fun c s1 ⟨H1,I1,q1⟩=>?_)
 cases c with
 |true=>exact⟨H1,I1,q1⟩
 |false=>exact hb wh pins s1 σ H1 Q I1 q1
theorem pt_not(ha:PT X a tA):PT X (.UnaryOp .Not a pos) (tNot tA):=by
 intro pins s σ H Q I h
 exact isTrue_not (ha pins s σ H (fun c H1=>Q (!c) H1) I h)
def tAndV(ta tb:TE):TE:=fun σ H Q=>ta σ H fun x H1=>∃c,x=.bl c∧if c=true then tb σ H1 Q else Q (.bl false) H1
def tOrV(ta tb:TE):TE:=fun σ H Q=>ta σ H fun x H1=>∃c,x=.bl c∧if c=true then Q (.bl true) H1 else tb σ H1 Q
theorem pe_one{op}{t:TE}(h:PE X a t):PE X (.BoolOp op [a] pos) t:=fun pins s σ H Q I hw=>BoolOp_one (h pins s σ H Q I hw)
theorem pe_and(ha:PE X a ta)(hb:PE X (.BoolOp .And (b::rest) pos) tb):PE X (.BoolOp .And (a::b::rest) pos) (tAndV ta tb):=by
 intro pins s σ H Q I h
 refine BoolOp_and (thn (ha pins s σ H _ I h) fun v s1 ⟨x,H1,I1,r1,q1⟩=>?_)
 obtain⟨c,rfl,q1⟩:=q1
 cases r1
 refine Yd ?_
 cases c with
 |true=>exact hb pins s1 σ H1 Q I1 q1
 |false=>exact⟨.bl false,H1,I1,rfl,q1⟩
theorem pe_or(ha:PE X a ta)(hb:PE X (.BoolOp .Or (b::rest) pos) tb):PE X (.BoolOp .Or (a::b::rest) pos) (tOrV ta tb):=by
 intro pins s σ H Q I h
 refine BoolOp_or (thn (ha pins s σ H _ I h) fun v s1 ⟨x,H1,I1,r1,q1⟩=>?_)
 obtain⟨c,rfl,q1⟩:=q1
 cases r1
 refine Yd ?_
 cases c with
 |false=>exact hb pins s1 σ H1 Q I1 q1
 |true=>exact⟨.bl true,H1,I1,rfl,q1⟩
def tIf(t:TT)(ta tb:TE):TE:=fun σ H Q=>t σ H fun c H1=>if c=true then ta σ H1 Q else tb σ H1 Q
theorem b4g'{c:Expr}(hc:PT X c tA)(ha:PE X a ta)(hb:PE X b tb):PE X (.IfExp c a b pos) (tIf tA ta tb):=by
 intro pins s σ H Q I h
 refine wpAny_IfExp (thn (hc pins s σ H _ I h) fun d s1 ⟨H1,I1,q1⟩=>?_)
 cases d with
 |true=>exact ha pins s1 σ H1 Q I1 q1
 |false=>exact hb pins s1 σ H1 Q I1 q1
end
end L2
namespace L2
open PySem PySem.Spec PyProof.Rows
def SqL(K:PySem.W.Frag)(H:Hp)(a:Addr)(xs:List V):Prop:=
 Rd H a (.lst xs)∨
  ∃(o:Obj) (its:Array Value) (n:Nat),K.lookup a=some o∧o.cls=.type "list"∧o.dict=none∧o.data=.seq its n∧its.size≤sizeLine∧Vals xs its.toList
def SqT(K:PySem.W.Frag)(H:Hp)(a:Addr)(xs:List V):Prop:=
 Rd H a (.tup xs)∨
  ∃(o:Obj) (its:Array Value) (n:Nat),K.lookup a=some o∧o.cls=.type "tuple"∧o.dict=none∧o.data=.seq its n∧its.size≤sizeLine∧Vals xs its.toList
def absV:Value→Option V
 | .none=>some .non
 | .bool b=>some (.bl b)
 | .int i _=>some (.int i)
 | .str x _=>some (.str x)
 | .bytes b _=>some (.byt b)
 | .float b _=>some (.flt b)
 | .ref a=>some (.ref a)
 | .type n=>some (.ty n)
 |_=>none
theorem RelV.abs{x:V}{u:Value}(r:RelV x u):absV u=some x:=by
 cases x with
 |non=>cases r;rfl
 |bl _=>cases r;rfl
 |int _=>obtain⟨t,rfl⟩:=r;rfl
 |str _=>obtain⟨t,rfl⟩:=r;rfl
 |byt _=>obtain⟨t,rfl⟩:=r;rfl
 |flt _=>obtain⟨t,rfl⟩:=r;rfl
 |ref _=>cases r;rfl
 |ty _=>cases r;rfl
theorem RelV.inj{x y:V}{u:Value}(r:RelV x u)(q:RelV y u):x=y:=Z2 (r.abs.symm.trans q.abs)
theorem Vals.inj:∀{xs ys:List V} {us:List Value},Vals xs us→Vals ys us→xs=ys
 |_,_,_,.nil,.nil=>rfl
 |_,_,_,.cons r t,.cons r' t'=>by rw[r.inj r',Vals.inj t t']
section
variable {X:Cx}{pins:List (Addr×Obj)}{σ:St}{H:Hp}{s:Shared}{a:Addr}{xs ys:List V}
theorem SqL.of{K:PySem.W.Frag}(h:H a=some (.lst xs)):SqL K H a xs:=.inl (.inl h)
theorem SqT.of{K:PySem.W.Frag}(h:H a=some (.tup xs)):SqT K H a xs:=.inl (.inl h)
theorem Inv.list(I:Inv X pins σ H s)(h:SqL X.K H a xs):∃its:List Value,Vals xs its∧PlainL s.heap a its.toArray∧xs.length≤sizeLine:=by
 rcases h with h| ⟨o,its,n,hk,hc,hd,hs,hz,r⟩
 ·obtain⟨z,its,n,r,e⟩:=h.ok I.hok
  exact⟨its,r,⟨_,n,e,rfl,rfl,rfl⟩,z⟩
 ·refine⟨its.toList,r,⟨o,n,I.kIn a o hk,hc,hd,by simpa using hs⟩,?_⟩
  have e:=r.length
  simp only[ZI]at e
  omega
theorem Inv.tuple(I:Inv X pins σ H s)(h:SqT X.K H a xs):∃its:List Value,Vals xs its∧IsTup s.heap a its.toArray∧xs.length≤sizeLine:=by
 rcases h with h| ⟨o,its,n,hk,hc,_,hs,hz,r⟩
 ·obtain⟨z,its,r,p,_⟩:=h.ok I.hok
  exact⟨its,r,p,z⟩
 ·refine⟨its.toList,r,⟨o,I.kIn a o hk,hc,n,by simpa using hs⟩,?_⟩
  have e:=r.length
  simp only[ZI]at e
  omega
theorem Inv.list_inj(I:Inv X pins σ H s)(h:SqL X.K H a xs)(h':SqL X.K H a ys):xs=ys:=by
 obtain⟨its,r,⟨o,n,e,_,_,d⟩,_⟩:=I.list h
 obtain⟨its',r',⟨o',n',e',_,_,d'⟩,_⟩:=I.list h'
 rw[e]at e';cases e'
 rw[d]at d'
 injection d' with d1 _
 have:its=its':=by simpa using congrArg Array.toList d1
 subst this
 exact r.inj r'
theorem Inv.tuple_inj(I:Inv X pins σ H s)(h:SqT X.K H a xs)(h':SqT X.K H a ys):xs=ys:=by
 obtain⟨its,r,⟨o,e,_,n,d⟩,_⟩:=I.tuple h
 obtain⟨its',r',⟨o',e',_,n',d'⟩,_⟩:=I.tuple h'
 rw[e]at e';cases e'
 rw[d]at d'
 injection d' with d1 _
 have:its=its':=by simpa using congrArg Array.toList d1
 subst this
 exact r.inj r'
end
abbrev Cx.wish(X:Cx)(E:Value→Shared→Prop):Cx:={X with xe:=E}
abbrev Cx.nox(X:Cx):Cx:=X.wish fun _ _=>False
theorem Cx.Ok.wish{X:Cx}(ok:X.Ok)(E:Value→Shared→Prop):(X.wish E).Ok:=
 ⟨ok.mod,ok.kind,ok.glob,ok.blt,ok.above,ok.inj,ok.has,ok.cab,ok.hd,ok.frames,ok.stk,ok.exf,ok.bs,ok.bsz,ok.noex,ok.exfs,ok.funs,ok.frf⟩
theorem Cx.Ok.unwish{X:Cx}{E:Value→Shared→Prop}(ok:(X.wish E).Ok):X.Ok:=
 ⟨ok.mod,ok.kind,ok.glob,ok.blt,ok.above,ok.inj,ok.has,ok.cab,ok.hd,ok.frames,ok.stk,ok.exf,ok.bs,ok.bsz,ok.noex,ok.exfs,ok.funs,ok.frf⟩
section
variable {X:Cx}{pins:List (Addr×Obj)}{σ:St}{H:Hp}{s:Shared}{E:Value→Shared→Prop}
theorem Inv.wish(I:Inv X pins σ H s)(E:Value→Shared→Prop):Inv (X.wish E) pins σ H s:=⟨I.ok.wish E,I.os,I.bare,I.base,I.loc,I.cell,I.free,I.freeC,I.pin,I.hok,I.len⟩
theorem Inv.unwish(I:Inv (X.wish E) pins σ H s):Inv X pins σ H s:=⟨I.ok.unwish,I.os,I.bare,I.base,I.loc,I.cell,I.free,I.freeC,I.pin,I.hok,I.len⟩
theorem SP.unwish{D:Ends}{f:Flow}{s':Shared}(h:SP (X.wish E) pins D f s'):SP X pins D f s':=by
 cases f with
 |next=>obtain⟨σ',H',I,q⟩:=h;exact⟨σ',H',I.unwish,q⟩
 |brk=>obtain⟨σ',H',I,q⟩:=h;exact⟨σ',H',I.unwish,q⟩
 |cont=>obtain⟨σ',H',I,q⟩:=h;exact⟨σ',H',I.unwish,q⟩
 |ret u=>obtain⟨v,σ',H',I,r,q⟩:=h;exact⟨v,σ',H',I.unwish,r,q⟩
theorem PSs.nox{st:List Stmt}{t:TS}(h:PSs X.nox st t):PSs X st t:=fun pins s σ H D I hw=>
 wpAny_mono (h pins s σ H D (I.wish _) hw) (fun _ _ q=>q.unwish) fun _ _ z=>False.elim z
end
section
variable {X:Cx}{st:Stmt}{rest:List Stmt}{t u:TS}{e:Expr}{te:TE}{pos:Pos}
def tNext:TS:=fun D σ H=>D.nx σ H
def tSeq(t u:TS):TS:=fun D σ H=>t {D with nx:=u D} σ H
theorem pss_nil:PSs X [] tNext:=fun _ _ σ H _ I h=>wpAny_execs_nil ⟨σ,H,I,h⟩
theorem b4h'(h1:PS X st t)(h2:PSs X rest u):PSs X (st::rest) (tSeq t u):=by
 intro pins s σ H D I h
 refine wpAny_execs_cons (thn (h1 pins s σ H {D with nx:=u D} I h) fun f s1 q=>?_)
 cases f with
 |next=>
  obtain⟨σ',H',I',q⟩:=q
  exact h2 pins s1 σ' H' D I' q
 |ret v=>exact q
 |brk=>exact q
 |cont=>exact q
def tBreak:TS:=fun D σ H=>D.bk σ H
def tCont:TS:=fun D σ H=>D.ct σ H
theorem ps_pass:PS X (.Pass pos) tNext:=fun _ _ σ H _ I h=>wpAny_Pass ⟨σ,H,I,h⟩
theorem b4i':PS X (.Break pos) tBreak:=fun _ _ σ H _ I h=>wpAny_Break ⟨σ,H,I,h⟩
theorem a9x':PS X (.Continue pos) tCont:=fun _ _ σ H _ I h=>wpAny_Continue ⟨σ,H,I,h⟩
theorem Inv.quiet{pins:List (Addr×Obj)}{σ:St}{H:Hp}{s:Shared}(I:Inv X pins σ H s):interactive X.env=false:=by simp[interactive,I.ok.kind]
def tDrop(te:TE):TS:=fun D σ H=>te σ H fun _ H1=>D.nx σ H1
theorem ps_expr(he:PE X e te)(hs:swapsWith e none pos.line X.env=pure false:=by rfl):PS X (.Expr e pos) (tDrop te):=by
 intro pins s σ H D I h
 exact wpAny_Expr_any (thn (he pins s σ H _ I h) fun v s1 ⟨x,H1,I1,r1,q1⟩=>⟨σ,H1,I1,q1⟩) I.quiet hs
def tRet(te:TE):TS:=fun D σ H=>te σ H D.rt
theorem ps_ret(he:PE X e te):PS X (.Return (some e) pos) (tRet te):=by
 intro pins s σ H D I h
 exact wpAny_Return_some (thn (he pins s σ H _ I h) fun v s1 ⟨x,H1,I1,r1,q1⟩=>⟨x,σ,H1,I1,r1,q1⟩)
def tRetN:TS:=fun D _ H=>D.rt .non H
theorem ps_retN:PS X (.Return none pos) tRetN:=fun _ _ σ H _ I h=>wpAny_Return_none ⟨.non,σ,H,I,rfl,h⟩
def tIfS(c:TT)(t u:TS):TS:=fun D σ H=>c σ H fun b H1=>if b=true then t D σ H1 else u D σ H1
theorem ps_if{c:Expr}{a b:List Stmt}{tc:TT}(hc:PT X c tc)(ha:PSs X a t)(hb:PSs X b u):PS X (.If c a b pos) (tIfS tc t u):=by
 intro pins s σ H D I h
 refine wpAny_If (thn (hc pins s σ H _ I h) fun d s1 ⟨H1,I1,q1⟩=>?_)
 cases d with
 |true=>exact ha pins s1 σ H1 D I1 q1
 |false=>exact hb pins s1 σ H1 D I1 q1
end
abbrev TG:=V→St→Hp→(St→Hp→Prop)→Prop
abbrev TGs:=List V→St→Hp→(St→Hp→Prop)→Prop
def PG(X:Cx)(target:Expr)(t:TG):Prop:=
 ∀(pins:List (Addr×Obj)) (s:Shared) (σ:St) (H:Hp) (v:V) (u:Value) (Q:St→Hp→Prop),Inv X pins σ H s→RelV v u→t v σ H Q→
  wpAny (model X.prog X.w) X.A (assign target X.env u) (fun _ s'=>∃σ' H',Inv X pins σ' H' s'∧Q σ' H') X.xe s
def PGs(X:Cx)(ts:List Expr)(t:TGs):Prop:=
 ∀(pins:List (Addr×Obj)) (s:Shared) (σ:St) (H:Hp) (vs:List V) (us:List Value) (Q:St→Hp→Prop),Inv X pins σ H s→Vals vs us→t vs σ H Q→
  wpAny (model X.prog X.w) X.A (assignInOrder ((assignEach ts X.env).map (·.2)) us) (fun _ s'=>∃σ' H',Inv X pins σ' H' s'∧Q σ' H') X.xe s
abbrev TSet:=V→V→V→Hp→(Hp→Prop)→Prop
def PSet(X:Cx)(t:TSet):Prop:=
 ∀(pins:List (Addr×Obj)) (s:Shared) (σ:St) (H:Hp) (o i v:V) (ov iv u:Value) (Q:Hp→Prop),Inv X pins σ H s→RelV o ov→RelV i iv→RelV v u→t o i v H Q→
  wpAny (model X.prog X.w) X.A (setItem ov iv u) (fun _ s'=>∃H',Inv X pins σ H' s'∧Q H') X.xe s
abbrev TIp:=V→V→Hp→VK→Prop
def PIp(X:Cx)(op:Operator)(t:TIp):Prop:=
 ∀(pins:List (Addr×Obj)) (s:Shared) (σ:St) (H:Hp) (x y:V) (v u:Value) (Q:VK),Inv X pins σ H s→RelV x v→RelV y u→t x y H Q→
  wpAny (model X.prog X.w) X.A (inplaceOp op v u) (EP X pins σ Q) X.xe s
section
variable {X:Cx}{pos:Pos}
def gName(i:Nat):TG:=fun v σ H Q=>Q (σ.set i (some v)) H
theorem pg_name{i:Nat}{x:Str}(hN:X.N.Nodup)(hi:X.N[i]?=some x)(hx:Loc X.env.scope x)(hf:X.fn x=true∨X.env.scope.names.lookup x=some .local:=by first|exact .inl rfl|exact .inr rfl|assumption):PG X (.Name x pos) (gName i):=by
 intro pins s σ H v u Q I r h
 exact wpAny_assign_Name (a7N' I hN hi hx r (fun s' I'=>⟨_,H,I',h⟩) hf)
def gNil:TGs:=fun vs σ H Q=>vs=[]∧Q σ H
def gCons(t:TG)(u:TGs):TGs:=fun vs σ H Q=>∃v r,vs=v::r∧t v σ H fun σ' H'=>u r σ' H' Q
theorem pgs_nil:PGs X [] gNil:=by
 intro pins s σ H vs us Q I r h
 obtain⟨e,h⟩:=h
 subst e
 cases r
 exact assignInOrder_nil ⟨σ,H,I,h⟩
theorem b4j'{e:Expr}{es:List Expr}{t:TG}{u:TGs}(h1:PG X e t)(h2:PGs X es u)
  (hs:(assignEach (e::es) X.env).map (·.2)=assign e X.env::(assignEach es X.env).map (·.2):=by rfl):PGs X (e::es) (gCons t u):=by
 intro pins s σ H vs us Q I r h
 obtain⟨v,vr,e1,h⟩:=h
 subst e1
 cases r with
 |cons r rr=>
  rw[hs]
  refine assignInOrder_cons (thn (h1 pins s σ H _ _ _ I r h) fun _ s1 ⟨σ1,H1,I1,q1⟩=>?_)
  exact h2 pins s1 σ1 H1 _ _ Q I1 rr q1
def gTup(K:PySem.W.Frag)(n:Nat)(t:TGs):TG:=fun v σ H Q=>∃a xs,v=.ref a∧SqT K H a xs∧xs.length=n∧t xs σ H Q
theorem pg_tup{es:List Expr}{k:Nat}{t:TGs}{n:Nat}(hc:X.calm=true)(h:PGs X es t)
  (hn:(assignEach es X.env).length=n:=by rfl) (hst:(assignEach es X.env).findIdx? (·.1)=none:=by rfl):PG X (.Tuple es k pos) (gTup X.K n t):=by
 intro pins s σ H v u Q I r hw
 obtain⟨a,xs,e1,hq,hl,hw⟩:=hw
 subst e1
 cases r
 obtain⟨its,rv,ht,hz⟩:=I.tuple hq
 refine assign_Tuple_tuple (I.ok.hd hc) ht (by simp[hn,←hl,rv.length]) hst fun h' hx=>?_
 have I1:Inv X pins σ H {s with heap:=h'}:=I.kept (t':=s.toks) fun b o e=>hx b o (ZQ (Zq e)) e
 exact h pins _ σ H xs _ Q I1 (by simpa using rv) hw
def gSub(to ti:TE)(t:TSet):TG:=fun v σ H Q=>to σ H fun o H1=>ti σ H1 fun i H2=>t o i v H2 fun H3=>Q σ H3
theorem pg_sub{o i:Expr}{to ti:TE}{t:TSet}(ho:PE X o to)(hi:PE X i ti)(hs:PSet X t)
  (ha:∀v,assign (.Subscript o i pos) X.env v=(do
   let ov ←holding [v] (eval o X.env)
   let iv ←holding [v,ov] (eval i X.env)
   standAt pos
   holding [v,ov,iv] (setItem ov iv v)
   release [v,ov,iv] []):=by intro _;rfl):PG X (.Subscript o i pos) (gSub to ti t):=by
 intro pins s σ H v u Q I r h
 rw[ha]
 refine Zc (wpAny_holding (thn (ho pins s σ H _ I h) fun ov s1 ⟨x,H1,I1,r1,q1⟩=>?_))
 refine Zc (wpAny_holding (thn (hi pins s1 σ H1 _ I1 q1) fun iv s2 ⟨y,H2,I2,r2,q2⟩=>?_))
 refine Zc (wpAny_standAt (Zc (wpAny_holding (thn (hs pins s2 σ H2 x y v ov iv u _ I2 r1 r2 r q2) fun _ s3 ⟨H3,I3,q3⟩=>?_))))
 exact wpAny_release ⟨σ,H3,I3,q3⟩
def tAsg(te:TE)(g:TG):TS:=fun D σ H=>te σ H fun x H1=>g x σ H1 D.nx
theorem ps_asg{tg e:Expr}{te:TE}{g:TG}(he:PE X e te)(hg:PG X tg g)(hs:swapsWithSole [tg] e pos.line X.env=pure false:=by rfl)(hw:swappedStores [tg] e X.env=pure none:=by rfl)
  (h1:(assignEach [tg] X.env).map (·.2)=[assign tg X.env]:=by rfl):PS X (.Assign [tg] e pos) (tAsg te g):=by
 intro pins s σ H D I h
 refine wpAny_Assign_stores (thn (he pins s σ H _ I h) fun v s1 ⟨x,H1,I1,r1,q1⟩=>?_) hs hw
 rw[h1]
 exact thn (hg pins s1 σ H1 x v _ I1 r1 q1) fun _ s2 q=>q
theorem ps_set{i:Nat}{x:Str}{e:Expr}{te:TE}{pos':Pos}(hN:X.N.Nodup)(hi:X.N[i]?=some x)(hx:Loc X.env.scope x)(he:PE X e te)(hs:swapsWith e (some (.Name x pos')) pos.line X.env=pure false:=by rfl)(hf:X.fn x=true∨X.env.scope.names.lookup x=some .local:=by first|exact .inl rfl|exact .inr rfl|assumption):
  PS X (.Assign [.Name x pos'] e pos) (tAsg te (gName i)):=by
 intro pins s σ H D I h
 refine wpAny_Assign_Name (thn (he pins s σ H _ I h) fun v s1 ⟨y,H1,I1,r1,q1⟩=>?_) hs
 exact a7N' I1 hN hi hx r1 (fun s2 I2=>⟨_,H1,I2,q1⟩) hf
def tAug(i:Nat)(te:TE)(ti:TIp):TS:=fun D σ H=>∃x,σ[i]?=some (some x)∧te σ H fun y H1=>ti x y H1 fun z H2=>D.nx (σ.set i (some z)) H2
theorem ps_aug{i:Nat}{x:Str}{e:Expr}{te:TE}{op:Operator}{ti:TIp}{pos':Pos}(hN:X.N.Nodup)(hi:X.N[i]?=some x)(hx:Loc X.env.scope x)(he:PE X e te)(ho:PIp X op ti)(hf:X.fn x=true∨X.env.scope.names.lookup x=some .local:=by first|exact .inl rfl|exact .inr rfl|assumption):
  PS X (.AugAssign (.Name x pos') op e pos) (tAug i te ti):=by
 intro pins s σ H D I h
 obtain⟨v,e1,h⟩:=h
 obtain⟨m,hn,hl⟩:=I.loc
 have vis:Vis X.env.scope x:=by rcases hx with k|k;exact .inl k;exact .inr (.inl k)
 obtain⟨u,r,l⟩:=hl i x v hi e1 vis
 refine wpAny_AugAssign_Name ?_
 have go:wpAny (model X.prog X.w) X.A (eval e X.env) (fun w s₂=>wpAny (model X.prog X.w) X.A (inplaceOp op u w) (fun r s₃=>wpAny (model X.prog X.w) X.A (storeName X.env x r) (fun _=>SP X pins D .next) X.xe s₃) X.xe s₂) X.xe s:=by
  refine thn (he pins s σ H _ I h) fun w s1 ⟨y,H1,I1,r1,q1⟩=>?_
  refine thn (ho pins s1 σ H1 v y u w _ I1 r r1 q1) fun z s2 ⟨zv,H2,I2,r2,q2⟩=>?_
  exact a7N' I2 hN hi hx r2 (fun s3 I3=>⟨_,H2,I3,q2⟩) hf
 rcases l with⟨hk,hm⟩| ⟨hk,c,hc,hcell⟩
 ·exact wpAny_loadName_local I.ok.kind hk hn hm go
 ·rcases hk with hk|hk
  ·exact wpAny_loadName_cell I.ok.kind hk hc hcell go
  ·rcases hx with k|k
   ·have:X.env.scope.names.lookup x=some .free:=hk
    rw[k]at this;cases this
   ·have:X.env.scope.names.lookup x=some .free:=hk
    rw[k]at this;cases this
end
section
variable {X:Cx}{pos:Pos}
def tWhile(c:TT)(tb:TS):TS:=fun D σ H=>∃W:Nat→St→Hp→Prop,(∃m,W m σ H)∧∀m σ H,W m σ H→
 c σ H fun b H1=>if b=true then ∃N:St→Hp→Prop,(∀σ' H',N σ' H'→∃m',m'<m∧W m' σ' H')∧tb {D with nx:=N,ct:=N,bk:=D.nx} σ H1 else D.nx σ H1
theorem b4k'{c:Expr}{body:List Stmt}{tc:TT}{tb:TS}(hp:PassesOwn (model X.prog X.w) X.A X.env X.xe)(hc:PT X c tc)(hb:PSs X body tb):PS X (.While c body [] pos) (tWhile tc tb):=by
 intro pins s σ H D I h
 obtain⟨W,⟨m0,w0⟩,turn⟩:=h
 refine wpAny_While (codeAny_whileLoop (fun n s'=>∃σ' H',Inv X pins σ' H' s'∧W n σ' H') ?_ m0 ⟨σ,H,I,w0⟩)
 rintro n s1 ⟨σ1,H1,I1,w1⟩
 refine wpAny_passesOwn hp (thn (hc pins s1 σ1 H1 _ I1 (turn n σ1 H1 w1)) fun b s2 ⟨H2,I2,q2⟩=>?_)
 cases b with
 |true=>
  obtain⟨N,hN,q2⟩:=q2
  rw[if_pos rfl]
  refine wpAny_passesOwn hp (thn (hb pins s2 σ1 H2 _ I2 q2) fun f s3 q3=>?_)
  cases f with
  |next=>
   obtain⟨σ3,H3,I3,n3⟩:=q3
   obtain⟨m',hm,w3⟩:=hN σ3 H3 n3
   exact⟨m',hm,σ3,H3,I3,w3⟩
  |cont=>
   obtain⟨σ3,H3,I3,n3⟩:=q3
   obtain⟨m',hm,w3⟩:=hN σ3 H3 n3
   exact⟨m',hm,σ3,H3,I3,w3⟩
  |brk=>exact q3
  |ret v=>exact q3
 |false=>
  rw[if_neg Z1]
  exact wpAny_execs_nil ⟨σ1,H2,I2,q2⟩
end
structure It where
 go:Nat→Hp→Prop
 yld:Nat→Hp→V→Hp→Prop
 stop:Nat→Hp→Prop
def FpOk(X:Cx)(pins:List (Addr×Obj))(H:Hp)(b:Addr):Prop:=
 H b=none∧b≠X.env.locals∧b∉X.fs∧(b∈X.ex∨X.s₀.heap.objs.size≤b)∧(∀x c,X.env.cells.lookup x=some c→c≠b)∧∀p∈X.pn++pins,p.1≠b
theorem Inv.fpOk{X:Cx}{pins:List (Addr×Obj)}{σ:St}{H H':Hp}{s:Shared}{b:Addr}(I:Inv X pins σ H s)(hb:s.heap.objs.size≤b)(hn:H' b=none):FpOk X pins H' b:=by
 refine⟨hn,Nat.ne_of_gt (ZK I.lt hb),I.nofs hb,.inr (ZL I.sz hb),fun x c e z=>?_,fun p hp z=>?_⟩
 ·obtain⟨v,q⟩:=I.cell x c e
  exact absurd (ZK q.lt (by rw[z];exact hb)) (Nat.lt_irrefl _)
 ·exact absurd (ZK (Zq (I.pin p hp).1) (by rw[z];exact hb)) (Nat.lt_irrefl _)
structure Turn (P:Program)(w:World)(K:PySem.W.Frag)(tg:Expr)(J:It)(fp:List Addr)(it:Addr)(tn:Nat→Heap→Prop):Prop where
 mem:it∈fp
 obj:∀i h,tn i h→∀b∈fp,∃o,h.get? b=some o∧∀v,o.data≠.cell v
 keep:∀i h h',tn i h→(∀b∈fp,∀o,h.get? b=some o→h'.get? b=some o)→tn i h'
 item:∀(X:Cx),X.prog=P→X.w=w→X.K=K→X.calm=true→∀(i:Nat) (pins:List (Addr×Obj)) (s:Shared) (σ:St) (H:Hp) (E:Value→Shared→Prop),Inv X pins σ H s→(∀b∈fp,FpOk X pins H b)→tn i s.heap→J.go i H→
  wpAny (model P w) X.A (pyNext (.ref it)) (fun r s1=>∃u,r=some u∧
   wpAny (model P w) X.A (letOwnedTupleGo tg (.ref it) u) (fun _ s2=>∃x H',Inv X pins σ H' s2∧RelV x u∧J.yld i H x H'∧tn (i+1) s2.heap∧∀b∈fp,H' b=none) E s1) E s
 done:∀(X:Cx),X.prog=P→X.w=w→X.K=K→X.calm=true→∀(i:Nat) (pins:List (Addr×Obj)) (s:Shared) (σ:St) (H:Hp) (E:Value→Shared→Prop),Inv X pins σ H s→(∀b∈fp,FpOk X pins H b)→tn i s.heap→J.stop i H→
  wpAny (model P w) X.A (pyNext (.ref it)) (fun r s1=>r=none∧Inv X pins σ H s1) E s
 self:∀(A:Around) (i:Nat) (s:Shared) (Q:Value→Shared→Prop) (E:Value→Shared→Prop),tn i s.heap→Q (.ref it) s→wpAny (model P w) A (pyIter (.ref it)) Q E s
abbrev TI:=St→Hp→(It→Hp→Prop)→Prop
def PIE(X:Cx)(pins:List (Addr×Obj))(σ:St)(tg:Expr)(R:It→Hp→Prop)(itv:Value)(s2:Shared):Prop:=
 ∃(it:Addr) (fp:List Addr) (tn:Nat→Heap→Prop) (J:It) (H':Hp),itv=.ref it∧Inv X pins σ H' s2∧Turn X.prog X.w X.K tg J fp it tn∧tn 0 s2.heap∧(∀b∈fp,FpOk X pins H' b)∧R J H'
def PI(X:Cx)(tg iter:Expr)(wi:TI):Prop:=
 ∀(pins:List (Addr×Obj)) (s:Shared) (σ:St) (H:Hp) (R:It→Hp→Prop),Inv X pins σ H s→wi σ H R→
  wpAny (model X.prog X.w) X.A (eval iter X.env) (fun v s1=>wpAny (model X.prog X.w) X.A (pyIter v) (PIE X pins σ tg R) X.xe s1) X.xe s
theorem go_of{M:Model}{A:Around}{E:Value→Shared→Prop}{s:Shared}{tg:Expr}{it:Addr}{u:Value}{o:Obj}{n:String}{vs:Array Value}{Q:Unit→Shared→Prop}(ho:s.heap.get? it=some o)(hc:o.cls=.type n)(hd:o.data=.fields vs)
  (hn:["enumerate","zip","dict_itemiterator","dict_reverseitemiterator","odict_iterator","itertools.zip_longest","itertools.pairwise"].contains n=false) (hQ:Q () s):wpAny M A (letOwnedTupleGo tg (.ref it) u) Q E s:=by
 unfold letOwnedTupleGo
 cases tg<;>first
  |exact Zl hQ
  | (cases u<;>first
    |exact Zl hQ
    | (refine Zc (wpAny_load ho ?_)
       rw[hc,hd]
       show wpAny M A (if(["enumerate","zip","dict_itemiterator","dict_reverseitemiterator","odict_iterator","itertools.zip_longest","itertools.pairwise"].contains n&&vs[0]?==some (rawInt _))=true then _ else _) Q E s
       rw[if_neg (by intro h;rw[hn,Bool.false_and]at h;cases h)]
       exact Zl hQ))
def Itl(K:PySem.W.Frag)(a:Addr):It:=
 ⟨fun i H=>∃xs x,SqL K H a xs∧xs[i]?=some x,fun i H x H'=>H'=H∧∀xs,SqL K H a xs→xs[i]?=some x,fun i H=>∃xs,SqL K H a xs∧xs.length≤i⟩
def Itt(K:PySem.W.Frag)(a:Addr):It:=
 ⟨fun i H=>∃xs x,SqT K H a xs∧xs[i]?=some x,fun i H x H'=>H'=H∧∀xs,SqT K H a xs→xs[i]?=some x,fun i H=>∃xs,SqT K H a xs∧xs.length≤i⟩
def Itr(lo:Int)(n:Nat):It:=⟨fun i _=>i<n,fun i H x H'=>H'=H∧x=.int (lo+i),fun i _=>n≤i⟩
theorem b2i'{P:Program}{w:World}{K:PySem.W.Frag}{tg:Expr}(a it:Addr):Turn P w K tg (Itl K a) [it] it (fun i h=>h.IsListIter it a i) where
 mem:=by simp
 obj:=fun i h st b hb=>by
  have e:b=it:=by simpa using hb
  subst e
  obtain⟨o,e,c,d⟩:=st
  exact⟨o,e,fun v z=>by rw[d]at z;cases z⟩
 keep:=fun i h h' st k=>st.at fun o e=>k it (by simp) o e
 item:=by
  intro X hP hw hK hc i pins s σ H E I hf st hg
  subst hP hw hK
  obtain⟨xs,x,hq,hx⟩:=hg
  obtain⟨its,rv,p,hz⟩:=I.list hq
  obtain⟨u,hu,ru⟩:=rv.get hx
  obtain⟨f0,f1,f2,f3,f4,f5⟩:=hf it (by simp)
  refine wpAny_pyNext_list_item st p.isList (x:=u) (by simpa using hu) fun h' st' sb=>?_
  have I1:Inv X pins σ H {s with heap:=h'}:=I.turned (t':=s.toks) (fun b o hb e=>(sb.2 b hb).trans e) f0 f1 f3 f4 f5
  obtain⟨o,e,c,d⟩:=id st'
  exact⟨u,rfl,go_of (s:={s with heap:=h'}) e c d (by decide) ⟨x,H,I1,ru,⟨rfl,fun ys hy=>by rw[I.list_inj hy hq];exact hx⟩,st',fun b hb=>(hf b hb).1⟩⟩
 done:=by
  intro X hP hw hK hc i pins s σ H E I hf st hg
  subst hP hw hK
  obtain⟨xs,hq,hx⟩:=hg
  obtain⟨its,rv,p,hz⟩:=I.list hq
  obtain⟨f0,f1,f2,f3,f4,f5⟩:=hf it (by simp)
  have hl:=rv.length
  exact wpAny_pyNext_list_end (I.ok.hd hc) st p.isList (by simp;omega) fun h' eb=>⟨rfl,I.turned (t':=s.toks) (fun b o hb e=>eb b o hb e) f0 f1 f3 f4 f5⟩
 self:=fun _ _ _ _ _ st h=>wpAny_pyIter_listiter st h
theorem b0g'{P:Program}{w:World}{K:PySem.W.Frag}{tg:Expr}(a it:Addr):Turn P w K tg (Itt K a) [it] it (fun i h=>h.IsTupleIter it a i) where
 mem:=by simp
 obj:=fun i h st b hb=>by
  have e:b=it:=by simpa using hb
  subst e
  obtain⟨o,e,c,d⟩:=st
  exact⟨o,e,fun v z=>by rw[d]at z;cases z⟩
 keep:=fun i h h' st k=>st.at fun o e=>k it (by simp) o e
 item:=by
  intro X hP hw hK hc i pins s σ H E I hf st hg
  subst hP hw hK
  obtain⟨xs,x,hq,hx⟩:=hg
  obtain⟨its,rv,p,hz⟩:=I.tuple hq
  obtain⟨u,hu,ru⟩:=rv.get hx
  obtain⟨f0,f1,f2,f3,f4,f5⟩:=hf it (by simp)
  refine wpAny_pyNext_tuple_item st (show s.heap.IsTuple a its.toArray from p) (x:=u) (by simpa using hu) fun h' st' sb=>?_
  have I1:Inv X pins σ H {s with heap:=h'}:=I.turned (t':=s.toks) (fun b o hb e=>(sb.2 b hb).trans e) f0 f1 f3 f4 f5
  obtain⟨o,e,c,d⟩:=id st'
  exact⟨u,rfl,go_of (s:={s with heap:=h'}) e c d (by decide) ⟨x,H,I1,ru,⟨rfl,fun ys hy=>by rw[I.tuple_inj hy hq];exact hx⟩,st',fun b hb=>(hf b hb).1⟩⟩
 done:=by
  intro X hP hw hK hc i pins s σ H E I hf st hg
  subst hP hw hK
  obtain⟨xs,hq,hx⟩:=hg
  obtain⟨its,rv,p,hz⟩:=I.tuple hq
  obtain⟨f0,f1,f2,f3,f4,f5⟩:=hf it (by simp)
  have hl:=rv.length
  exact wpAny_pyNext_tuple_end (I.ok.hd hc) st (show s.heap.IsTuple a its.toArray from p) (by simp;omega) fun h' eb=>⟨rfl,I.turned (t':=s.toks) (fun b o hb e=>eb b o hb e) f0 f1 f3 f4 f5⟩
 self:=fun _ _ _ _ _ st h=>wpAny_pyIter_tupleiter st h
theorem b0h'{P:Program}{w:World}{K:PySem.W.Frag}{tg:Expr}(it:Addr)(lo:Int)(n:Nat):Turn P w K tg (Itr lo n) [it] it (fun i h=>IsRangeIter h it (lo+(i:Nat)*1) ((n:Int)-(i:Nat)) 1) where
 mem:=by simp
 obj:=fun i h st b hb=>by
  have e:b=it:=by simpa using hb
  subst e
  exact⟨_,st,fun v z=>by
   have z':Data.fields _=Data.cell v:=z
   cases z'⟩
 keep:=fun i h h' st k=>k it (by simp) _ st
 item:=by
  intro X hP hw hK hc i pins s σ H E I hf st hg
  subst hP hw hK
  obtain⟨f0,f1,f2,f3,f4,f5⟩:=hf it (by simp)
  have W:=Walks.range (prog:=X.prog) (w:=X.w) (I.ok.hd hc) it lo 1 n
  refine W.item i s _ _ hg st fun v h' tk hv st' kk=>?_
  obtain⟨t,rfl⟩:=hv
  have I1:Inv X pins σ H {s with heap:=h',toks:=tk}:=I.turned (fun b o hb e=>kk b o (by simpa using hb) e) f0 f1 f3 f4 f5
  refine⟨_,rfl,go_of (s:={s with heap:=h',toks:=tk}) (n:="range_iterator") st' rfl rfl (by decide) ⟨.int (lo+i),H,I1,⟨t,?_⟩,⟨rfl,rfl⟩,st',fun b hb=>(hf b hb).1⟩⟩
  rw[Int.mul_one]
 done:=by
  intro X hP hw hK hc i pins s σ H E I hf st hg
  subst hP hw hK
  obtain⟨f0,f1,f2,f3,f4,f5⟩:=hf it (by simp)
  exact wpAny_pyNext_range_end (I.ok.hd hc) st (by have:n≤i:=hg;omega) fun h' eb=>⟨rfl,I.turned (t':=s.toks) (fun b o hb e=>eb b o hb e) f0 f1 f3 f4 f5⟩
 self:=fun _ _ _ _ _ st h=>wpAny_pyIter_rangeiter st h
end L2
namespace L2
open PySem PySem.Spec PyProof.Rows
section
variable {X:Cx}{tg:Expr}
theorem b0i'{pins:List (Addr×Obj)}{σ:St}{H:Hp}{s:Shared}{R:It→Hp→Prop}{E:Value→Shared→Prop}{lo hi:Int}{t u v:Tok}{tk:Nat}(I:Inv X pins σ H s)(h1: -(2^62)≤lo)(h2:lo<2^62)(h3: -(2^62)≤hi)(h4:hi<2^62)
  (q:R (Itr lo (hi-lo).toNat) H):wpAny (model X.prog X.w) X.A (pyIter (.ref s.heap.objs.size)) (PIE X pins σ tg R) E {s with heap:=s.heap.push {cls:=.type "range",data:=.fields #[.int lo t,.int hi u,.int 1 v]},toks:=tk}:=by
 refine wpAny_pyIter_range (IsRange.new ..) (small_one h1 h2 h3 h4) ?_
 have I1:Inv X pins σ H {s with heap:=s.heap.push {cls:=.type "range",data:=.fields #[.int lo t,.int hi u,.int 1 v]},toks:=tk}:=I.kept fun b o e=>Zd _ e
 refine⟨(s.heap.push {cls:=.type "range",data:=.fields #[.int lo t,.int hi u,.int 1 v]}).objs.size,[(s.heap.push {cls:=.type "range",data:=.fields #[.int lo t,.int hi u,.int 1 v]}).objs.size],_,_,H,rfl,
  I1.kept (t':=tk) fun b o e=>Zd _ e,b0h' _ lo (hi-lo).toNat,?_,fun b hb=>?_,q⟩
 ·have e1:lo+((0:Nat):Int)*1=lo:=by simp
  have e2:(((hi-lo).toNat:Nat):Int)-((0:Nat):Int)=Builtin.Range.rangeSize lo hi 1:=by rw[rangeSize_one];split<;>omega
  show IsRangeIter _ _ (lo+((0:Nat):Int)*1) ((((hi-lo).toNat:Nat):Int)-((0:Nat):Int)) 1
  rw[e1,e2]
  exact Zt _ rfl
 ·have e:b=(s.heap.push {cls:=.type "range",data:=.fields #[.int lo t,.int hi u,.int 1 v]}).objs.size:=by simpa using hb
  subst e
  exact I1.fpOk (Zj _) (I1.hok.fresh (Zj _))
def iRng1(ta:TA):TI:=fun σ H R=>ta σ H fun vs H1=>∃j:Int,vs=[.int j]∧-(2^62)≤j∧j<2^62∧R (Itr 0 j.toNat) H1
def iRng2(ta:TA):TI:=fun σ H R=>ta σ H fun vs H1=>∃i j:Int,vs=[.int i,.int j]∧(-(2^62)≤i∧i<2^62∧-(2^62)≤j∧j<2^62)∧R (Itr i (j-i).toNat) H1
theorem b2j'{a:Expr}{ta:TA}{p pos:Pos}(hg:Gl X "range")(hm:X.mg "range"=none)(ha:PA X [a] ta)(hs:starEach [a] X.env=[(false,eval a X.env)]:=by rfl):PI X tg (.Call (.Name "range" p) [a] [] pos) (iRng1 ta):=by
 intro pins s σ H R I h
 refine Call_ (a9w' I hg hm boot_range (PyProof.Rows.callWith_type1 (thn (ha pos pins s σ H _ I h) fun us s1 ⟨vs,H1,I1,r1,q1⟩=>?_) hs rfl))
 obtain⟨j,e,q1,q2,q⟩:=q1
 subst e
 cases r1 with
 |cons r rr=>
  cases rr
  obtain⟨t,rfl⟩:=r
  exact call_range_1 (b0i' I1 (by omega) (by omega) q1 q2 (by simpa using q))
theorem b2k'{a b:Expr}{ta:TA}{p pos:Pos}(hg:Gl X "range")(hm:X.mg "range"=none)(ha:PA X [a,b] ta)(hs:starEach [a,b] X.env=[(false,eval a X.env),(false,eval b X.env)]:=by rfl)(hs2:starEach [b] X.env=[(false,eval b X.env)]:=by rfl):
  PI X tg (.Call (.Name "range" p) [a,b] [] pos) (iRng2 ta):=by
 intro pins s σ H R I h
 refine Call_ (a9w' I hg hm boot_range (PyProof.Rows.callWith_type1 (thn (ha pos pins s σ H _ I h) fun us s1 ⟨vs,H1,I1,r1,q1⟩=>?_) (by rw[hs,hs2]) (by rw[hs2];rfl)))
 obtain⟨i,j,e,⟨q1,q2,q3,q4⟩,q⟩:=q1
 subst e
 cases r1 with
 |cons r rr=>
  cases rr with
  |cons r' rr=>
   cases rr
   obtain⟨t,rfl⟩:=r
   obtain⟨t',rfl⟩:=r'
   exact call_range_2 (b0i' I1 q1 q2 q3 q4 q)
def tFor(wi:TI)(g:TG)(tb:TS):TS:=fun D σ H=>wi σ H fun J H1=>∃W:Nat→Nat→St→Hp→Prop,(∃m,W 0 m σ H1)∧∀i m σ H,W i m σ H→
 (J.stop i H∧D.nx σ H)∨(J.go i H∧∃N:St→Hp→Prop,(∀σ' H',N σ' H'→∃m',m'<m∧W (i+1) m' σ' H')∧∀x H',J.yld i H x H'→g x σ H' fun σ2 H2=>tb {D with nx:=N,ct:=N,bk:=D.nx} σ2 H2)
def b2l'(fp:List Addr)(h:Heap):List (Addr×Obj):=fp.filterMap fun b=>(h.get? b).map fun o=>(b,o)
theorem a3p'{fp:List Addr}{h:Heap}{b:Addr}{o:Obj}(hb:b∈fp)(e:h.get? b=some o):(b,o)∈b2l' fp h:=List.mem_filterMap.mpr ⟨b,hb,by rw[e];rfl⟩
theorem b2m'{fp:List Addr}{h:Heap}{p:Addr×Obj}(hp:p∈b2l' fp h):p.1∈fp∧h.get? p.1=some p.2:=by
 obtain⟨b,hb,e⟩:=List.mem_filterMap.mp hp
 cases q:h.get? b with
 |none=>rw[q]at e;cases e
 |some o=>
  rw[q]at e
  have e':(b,o)=p:=Z2 e
  subst e'
  exact⟨hb,q⟩
theorem Inv.pinned{pins:List (Addr×Obj)}{σ:St}{H:Hp}{s:Shared}{fp:List Addr}(I:Inv X pins σ H s)(hf:∀b∈fp,FpOk X pins H b)(ho:∀b∈fp,∃o,s.heap.get? b=some o∧∀v,o.data≠.cell v):Inv X (pins++b2l' fp s.heap) σ H s:=
 I.pins_of fun p hp=>(ZB.mp hp).elim (fun z=>I.pin p (ZE _ z)) fun z=>by
  obtain⟨hb,e⟩:=b2m' z
  obtain⟨f0,f1,f2,_⟩:=hf p.1 hb
  obtain⟨o,e',d⟩:=ho p.1 hb
  rw[e]at e';cases e'
  exact⟨e,f0,f1,f2,d⟩
theorem Inv.unpinned{pins pl:List (Addr×Obj)}{σ:St}{H:Hp}{s:Shared}(I:Inv X (pins++pl) σ H s):Inv X pins σ H s:=I.pins_of fun p hp=>I.pin p (ZE _ (Z0 _ hp))
theorem ps_for{iter:Expr}{body:List Stmt}{wi:TI}{g:TG}{tb:TS}{pos:Pos}(hp:PassesOwn (model X.prog X.w) X.A X.env X.xe)(hc:X.calm=true)(hi:PI X tg iter wi)(hg:PG X tg g)(hb:PSs X body tb)
  (hs:∀x,foldedSetIterable iter X.env x=pure x:=by intro _;rfl):PS X (.For tg iter body [] pos) (tFor wi g tb):=by
 intro pins s σ H D I h
 refine wpAny_For (thn (hi pins s σ H _ I h) fun v s1 h1=>thn h1 fun itv s2 h2=>?_) hs
 obtain⟨it,fp,tn,J,H2,e,I2,T,st2,f2,W,⟨m0,w0⟩,turn⟩:=h2
 subst e
 have stat:∀{H':Hp},(∀b∈fp,H' b=none)→∀b∈fp,FpOk X pins H' b:=fun hn b hb=>⟨hn b hb,(f2 b hb).2⟩
 refine codeAny_forLoop_any (fun n s'=>∃i σ' H',Inv X pins σ' H' s'∧tn i s'.heap∧(∀b∈fp,H' b=none)∧W i n σ' H') ?_ m0 ⟨0,σ,H2,I2,st2,fun b hb=>(f2 b hb).1,w0⟩
 rintro n s3 ⟨i,σ3,H3,I3,st3,fr3,w3⟩
 rcases turn i n σ3 H3 w3 with⟨stop,qn⟩| ⟨go,N,hN,step⟩
 ·refine wpAny_passesOwn hp (thn (T.done X rfl rfl rfl hc i pins s3 σ3 H3 X.xe I3 (stat fr3) st3 stop) fun r s4 ⟨hr,I4⟩=>?_)
  subst hr
  exact wpAny_execs_nil ⟨σ3,H3,I4,qn⟩
 ·refine wpAny_passesOwn hp (thn (T.item X rfl rfl rfl hc i pins s3 σ3 H3 X.xe I3 (stat fr3) st3 go) fun r s4 ⟨u,hr,h4⟩=>?_)
  subst hr
  refine wpAny_passesOwn hp (thn h4 fun _ s5 ⟨x,H5,I5,r5,y5,st5,fr5⟩=>?_)
  have I5':=I5.pinned (stat fr5) (T.obj _ _ st5)
  refine wpAny_passesOwn hp (thn (hg _ s5 σ3 H5 x u _ I5' r5 (step x H5 y5)) fun _ s6 ⟨σ6,H6,I6,q6⟩=>?_)
  refine wpAny_passesOwn hp (thn (hb _ s6 σ6 H6 _ I6 q6) fun f s7 q7=>?_)
  have again:∀{σ7:St} {H7:Hp},Inv X (pins++b2l' fp s5.heap) σ7 H7 s7→N σ7 H7→∃m,m<n∧∃i σ' H',Inv X pins σ' H' s7∧tn i s7.heap∧(∀b∈fp,H' b=none)∧W i m σ' H':=fun{σ7 H7} I7 n7=>by
   obtain⟨m',hm,w7⟩:=hN σ7 H7 n7
   refine⟨m',hm,i+1,σ7,H7,I7.unpinned,T.keep _ _ _ st5 fun b hb o e=>(I7.pin (b,o) (ZE _ (ZE _ (a3p' hb e)))).1,fun b hb=>?_,w7⟩
   obtain⟨o,e,d⟩:=T.obj _ _ st5 b hb
   exact(I7.pin (b,o) (ZE _ (ZE _ (a3p' hb e)))).2.1
  cases f with
  |next=>obtain⟨σ7,H7,I7,n7⟩:=q7;exact again I7 n7
  |cont=>obtain⟨σ7,H7,I7,n7⟩:=q7;exact again I7 n7
  |brk=>obtain⟨σ7,H7,I7,q7⟩:=q7;exact⟨σ7,H7,I7.unpinned,q7⟩
  |ret v=>obtain⟨x7,σ7,H7,I7,r7,q7⟩:=q7;exact⟨x7,σ7,H7,I7.unpinned,r7,q7⟩
end
end L2
namespace L2
open PySem PySem.Spec PyProof.Rows
abbrev R2:=V→V→Hp→VK→Prop
def OpR(X:Cx)(f:Value→Value→Sem Value)(r:R2):Prop:=
 ∀(pins:List (Addr×Obj)) (s:Shared) (σ:St) (H:Hp) (x y:V) (v u:Value) (Q:VK),Inv X pins σ H s→RelV x v→RelV y u→r x y H Q→
  wpAny (model X.prog X.w) X.A (f v u) (EP X pins σ Q) X.xe s
def UnR(X:Cx)(f:Value→Sem Value)(r:V→Hp→VK→Prop):Prop:=
 ∀(pins:List (Addr×Obj)) (s:Shared) (σ:St) (H:Hp) (x:V) (v:Value) (Q:VK),Inv X pins σ H s→RelV x v→r x H Q→
  wpAny (model X.prog X.w) X.A (f v) (EP X pins σ Q) X.xe s
def CallR(X:Cx)(f:Value)(r:List V→Hp→VK→Prop):Prop:=
 ∀(pins:List (Addr×Obj)) (s:Shared) (σ:St) (H:Hp) (xs:List V) (us:List Value) (Q:VK),Inv X pins σ H s→Vals xs us→r xs H Q→
  wpAny (model X.prog X.w) X.A (call f us) (EP X pins σ Q) X.xe s
def TruR(X:Cx)(r:V→Hp→(Bool→Hp→Prop)→Prop):Prop:=
 ∀(pins:List (Addr×Obj)) (s:Shared) (σ:St) (H:Hp) (x:V) (v:Value) (Q:Bool→Hp→Prop),Inv X pins σ H s→RelV x v→r x H Q→
  wpAny (model X.prog X.w) X.A (truthy v) (TP X pins σ Q) X.xe s
def tOp(r:R2)(ta tb:TE):TE:=fun σ H Q=>ta σ H fun x H1=>tb σ H1 fun y H2=>r x y H2 Q
def tUn(r:V→Hp→VK→Prop)(ta:TE):TE:=fun σ H Q=>ta σ H fun x H1=>r x H1 Q
def rI(C:Int→Int→Prop)(g:Int→Int→V):R2:=fun x y H Q=>∃i j,x=.int i∧y=.int j∧C i j∧Q (g i j) H
def rI0(g:Int→Int→V):R2:=fun x y H Q=>∃i j,x=.int i∧y=.int j∧Q (g i j) H
def rU(g:Int→V):V→Hp→VK→Prop:=fun x H Q=>∃i,x=.int i∧Q (g i) H
section
variable {X:Cx}{a b c:Expr}{ta tb tc:TE}{pos:Pos}
theorem binT(ha:PE X a ta)(hb:PE X b tb){pins:List (Addr×Obj)}{s:Shared}{σ:St}{H:Hp}{R:V→V→Hp→Prop}(I:Inv X pins σ H s)
  (h:ta σ H fun x H1=>tb σ H1 fun y H2=>R x y H2) {Q:Value→Shared→Prop} {f:Value→Value→Sem Value}
  (hf:∀v u s2 x y H2,Inv X pins σ H2 s2→RelV x v→RelV y u→R x y H2→wpAny (model X.prog X.w) X.A (f v u) Q X.xe s2):
  wpAny (model X.prog X.w) X.A (eval a X.env) (fun v s₁=>wpAny (model X.prog X.w) X.A (eval b X.env) (fun u s₂=>wpAny (model X.prog X.w) X.A (f v u) Q X.xe s₂) X.xe s₁) X.xe s:=by
 refine thn (ha pins s σ H _ I h) fun v s1 ⟨x,H1,I1,r1,q1⟩=>?_
 refine thn (hb pins s1 σ H1 _ I1 q1) fun u s2 ⟨y,H2,I2,r2,q2⟩=>?_
 exact hf v u s2 x y H2 I2 r1 r2 q2
theorem pe_op{op:Operator}{r:R2}(ho:OpR X (binaryOp op) r)(ha:PE X a ta)(hb:PE X b tb):PE X (.BinOp a op b pos) (tOp r ta tb):=by
 intro pins s σ H Q I h
 exact wpAny_BinOp (binT ha hb I h fun v u s2 x y H2 I2 rx ry q=>ho pins s2 σ H2 x y v u Q I2 rx ry q)
theorem pe_un{op:UnaryOp}{r:V→Hp→VK→Prop}(ho:UnR X (unaryOp op) r)(ha:PE X a ta):PE X (.UnaryOp op a pos) (tUn r ta):=by
 intro pins s σ H Q I h
 exact UnaryOp_ (thn (ha pins s σ H _ I h) fun v s1 ⟨x,H1,I1,r1,q1⟩=>ho pins s1 σ H1 x v Q I1 r1 q1)
theorem opI{f:Value→Value→Sem Value}{C:Int→Int→Prop}{g:Int→Int→Int}
  (rule:∀(i j:Int) (t u:Tok) (s:Shared) (Q:Value→Shared→Prop) (E:Value→Shared→Prop),C i j→Q (.int (g i j) s.toks) {s with toks:=s.toks+1}→wpAny (model X.prog X.w) X.A (f (.int i t) (.int j u)) Q E s):
  OpR X f (rI C fun i j=>.int (g i j)):=by
 intro pins s σ H x y v u Q I rx ry h
 obtain⟨i,j,rfl,rfl,hc,q⟩:=h
 obtain⟨t,rfl⟩:=rx
 obtain⟨t',rfl⟩:=ry
 exact rule i j t t' s _ _ hc ⟨.int (g i j),H,I.tok _,⟨_,rfl⟩,q⟩
theorem opI0{f:Value→Value→Sem Value}{g:Int→Int→Int}
  (rule:∀(i j:Int) (t u:Tok) (s:Shared) (Q:Value→Shared→Prop) (E:Value→Shared→Prop),Q (.int (g i j) s.toks) {s with toks:=s.toks+1}→wpAny (model X.prog X.w) X.A (f (.int i t) (.int j u)) Q E s):
  OpR X f (rI0 fun i j=>.int (g i j)):=by
 intro pins s σ H x y v u Q I rx ry h
 obtain⟨i,j,rfl,rfl,q⟩:=h
 obtain⟨t,rfl⟩:=rx
 obtain⟨t',rfl⟩:=ry
 exact rule i j t t' s _ _ ⟨.int (g i j),H,I.tok _,⟨_,rfl⟩,q⟩
theorem opB0{f:Value→Value→Sem Value}{g:Int→Int→Bool}
  (rule:∀(i j:Int) (t u:Tok) (s:Shared) (Q:Value→Shared→Prop) (E:Value→Shared→Prop),Q (.bool (g i j)) s→wpAny (model X.prog X.w) X.A (f (.int i t) (.int j u)) Q E s):
  OpR X f (rI0 fun i j=>.bl (g i j)):=by
 intro pins s σ H x y v u Q I rx ry h
 obtain⟨i,j,rfl,rfl,q⟩:=h
 obtain⟨t,rfl⟩:=rx
 obtain⟨t',rfl⟩:=ry
 exact rule i j t t' s _ _ ⟨.bl (g i j),H,I,rfl,q⟩
def CDiv(i j:Int):Prop:=0<j∧j<1073741824
def CPow(i j:Int):Prop:=0≤j∧j≤1000000∧i.natAbs<2^64
def CMul(i j:Int):Prop:=(-(2^64)<i∧i<2^64)∨(-(2^64)<j∧j<2^64)
theorem CMul.ok{i j:Int}(h:CMul i j):IntMulOk i j:=by
 rcases h with⟨h1,h2⟩| ⟨h1,h2⟩
 ·exact .of_left (intBits_le_64 h1 h2)
 ·exact .of_right (intBits_le_64 h1 h2)
theorem b0j'(k:Nat):(0:Int)≤2^k:=by
 rw[two_pow_cast]
 exact Int.natCast_nonneg _
theorem op_add:OpR X (binaryOp .Add) (rI0 fun i j=>.int (i+j)):=opI0 fun _ _ _ _ _ _ _ q=>add_int q
theorem op_sub:OpR X (binaryOp .Sub) (rI0 fun i j=>.int (i-j)):=opI0 fun _ _ _ _ _ _ _ q=>sub_int q
theorem op_mul:OpR X (binaryOp .Mult) (rI CMul fun i j=>.int (i*j)):=opI fun _ _ _ _ _ _ _ hc q=>mul_int q hc.ok
theorem op_fdiv:OpR X (binaryOp .FloorDiv) (rI CDiv fun i j=>.int (i/j)):=opI fun i j _ _ _ _ _ hc q=>by
 have h1:(0:Int)<j:=hc.1
 have h2:j<1073741824:=hc.2
 exact floordiv_int (by omega) (by rw[Int.fdiv_eq_ediv_of_nonneg i (by omega)];exact q) (.inl (PyProof.noPylong_small (by omega)))
theorem op_mod:OpR X (binaryOp .Mod) (rI (fun _ j=>0<j) fun i j=>.int (i%j)):=opI fun i j _ _ _ _ _ hc q=>by
 have h1:(0:Int)<j:=hc
 exact mod_int' (by omega) (by rw[Int.fmod_eq_emod_of_nonneg i (by omega)];exact q)
theorem op_pow:OpR X (binaryOp .Pow) (rI CPow fun i j=>.int (i^j.toNat)):=opI fun _ _ _ _ _ _ _ hc q=>pow_int_small hc.1 hc.2.1 hc.2.2 q
theorem op_shr:OpR X (binaryOp .RShift) (rI (fun _ j=>0≤j) fun i j=>.int (i/2^j.toNat)):=opI fun i j _ _ _ _ _ hc q=>
 rshift_int hc (by rw[Int.fdiv_eq_ediv_of_nonneg i (b0j' _)];exact q)
theorem op_and:OpR X (binaryOp .BitAnd) (rI0 fun i j=>.int (Builtin.bitAnd i j)):=opI0 fun _ _ _ _ _ _ _ q=>and_int q
theorem op_or:OpR X (binaryOp .BitOr) (rI0 fun i j=>.int (Builtin.bitOr i j)):=opI0 fun _ _ _ _ _ _ _ q=>or_int q
theorem unI{f:Value→Sem Value}{g:Int→Int}
  (rule:∀(i:Int) (t:Tok) (s:Shared) (Q:Value→Shared→Prop) (E:Value→Shared→Prop),Q (.int (g i) s.toks) {s with toks:=s.toks+1}→wpAny (model X.prog X.w) X.A (f (.int i t)) Q E s):
  UnR X f (rU fun i=>.int (g i)):=by
 intro pins s σ H x v Q I rx h
 obtain⟨i,rfl,q⟩:=h
 obtain⟨t,rfl⟩:=rx
 exact rule i t s _ _ ⟨.int (g i),H,I.tok _,⟨_,rfl⟩,q⟩
theorem un_neg:UnR X (unaryOp .USub) (rU fun i=>.int (-i)):=unI fun _ _ _ _ _ q=>neg_int q
end
section
variable {X:Cx}{a b c:Expr}{ta tb tc:TE}{pos:Pos}
theorem fin_bl{pins:List (Addr×Obj)}{σ:St}{H:Hp}{s:Shared}{Q:VK}{k k':Bool}(I:Inv X pins σ H s)(q:Q (.bl k) H)(e:k=k'):EP X pins σ Q (.bool k') s:=by
 subst e
 exact⟨.bl k,H,I,rfl,q⟩
theorem op_le:OpR X (compareOp .LtE) (rI0 fun i j=>.bl (decide (i≤j))):=opB0 fun _ _ _ _ _ _ _ q=>le_int q
theorem op_gt:OpR X (compareOp .Gt) (rI0 fun i j=>.bl (decide (j<i))):=opB0 fun _ _ _ _ _ _ _ q=>gt_int q
theorem op_ge:OpR X (compareOp .GtE) (rI0 fun i j=>.bl (decide (j≤i))):=opB0 fun _ _ _ _ _ _ _ q=>ge_int q
theorem op_isN:OpR X (compareOp .Is) (fun x y H Q=>y=.non∧Q (.bl (decide (x=.non))) H):=by
 intro pins s σ H x y v u Q I rx ry h
 obtain⟨rfl,q⟩:=h
 cases ry
 refine is_none_gen (fin_bl I q ?_)
 cases x<;>first
  | (cases rx;rfl)
  | (obtain⟨t,rfl⟩:=rx;rfl)
theorem op_notN:OpR X (compareOp .IsNot) (fun x y H Q=>y=.non∧Q (.bl (!decide (x=.non))) H):=by
 intro pins s σ H x y v u Q I rx ry h
 obtain⟨rfl,q⟩:=h
 cases ry
 refine isnot_none_gen (fin_bl I q ?_)
 cases x<;>first
  | (cases rx;rfl)
  | (obtain⟨t,rfl⟩:=rx;rfl)
theorem pe_cmpR{op:CmpOp}{r:R2}(ho:OpR X (compareOp op) r)(ha:PE X a ta)(hb:PE X b tb)(hm:behindInMarks op b=false):PE X (.Compare a [op] [b] pos) (tOp r ta tb):=by
 intro pins s σ H Q I h
 exact wpAny_Compare1 (binT ha hb I h fun v u s2 x y H2 I2 rx ry q=>ho pins s2 σ H2 x y v u Q I2 rx ry q) hm
def tTest(t:TE):TT:=fun σ H Q=>t σ H fun x H'=>∃k,x=.bl k∧Q k H'
theorem pt_cmpR{op:CmpOp}{r:R2}(ho:OpR X (compareOp op) r)(ha:PE X a ta)(hb:PE X b tb)(hm:behindInMarks op b=false):PT X (.Compare a [op] [b] pos) (tTest (tOp r ta tb)):=by
 intro pins s σ H Q I h
 refine wpAny_isTrue_Compare1 (thn (ha pins s σ H _ I h) fun v s1 ⟨x,H1,I1,r1,q1⟩=>thn (hb pins s1 σ H1 _ I1 q1) fun u s2 ⟨y,H2,I2,r2,q2⟩=>
  thn (ho pins s2 σ H2 x y v u _ I2 r1 r2 q2) fun c s3 ⟨z,H3,I3,r3,k,e,q3⟩=>?_) hm
 subst e
 cases r3
 exact Yd ⟨H3,I3,q3⟩
def tChain(r r':R2)(ta tb tc:TE):TE:=fun σ H Q=>ta σ H fun x H1=>tb σ H1 fun y H2=>r x y H2 fun z H3=>∃k,z=.bl k∧
 (if k=true then tc σ H3 fun w' H4=>r' y w' H4 Q else Q (.bl false) H3)
theorem b4l'{op op':CmpOp}{r r':R2}(ho:OpR X (compareOp op) r)(ho':OpR X (compareOp op') r')(ha:PE X a ta)(hb:PE X b tb)(hc:PE X c tc)
  (hm:lastMarks [op,op'] [b,c]=false:=by with_unfolding_all rfl):PE X (.Compare a [op,op'] [b,c] pos) (tChain r r' ta tb tc):=by
 intro pins s σ H Q I h
 refine Compare_chain (thn (ha pins s σ H _ I h) fun v s1 ⟨x,H1,I1,r1,q1⟩=>chain_link (thn (hb pins s1 σ H1 _ I1 q1) fun u s2 ⟨y,H2,I2,r2,q2⟩=>
  thn (ho pins s2 σ H2 x y v u _ I2 r1 r2 q2) fun d s3 ⟨z,H3,I3,r3,k,e,q3⟩=>?_)) hm
 subst e
 cases r3
 refine Yd ?_
 cases k with
 |false=>exact ite_ff ⟨.bl false,H3,I3,rfl,q3⟩
 |true=>exact ite_tt (chain_last (thn (hc pins s3 σ H3 _ I3 q3) fun w' s4 ⟨z',H4,I4,r4,q4⟩=>ho' pins s4 σ H4 y z' u w' Q I4 r2 r4 q4))
theorem b4m'{op op':CmpOp}{r r':R2}(ho:OpR X (compareOp op) r)(ho':OpR X (compareOp op') r')(ha:PE X a ta)(hb:PE X b tb)(hc:PE X c tc)
  (hm:lastMarks [op,op'] [b,c]=false:=by with_unfolding_all rfl):PT X (.Compare a [op,op'] [b,c] pos) (tTest (tChain r r' ta tb tc)):=by
 intro pins s σ H Q I h
 refine isTrue_chain (thn (ha pins s σ H _ I h) fun v s1 ⟨x,H1,I1,r1,q1⟩=>test_link (thn (hb pins s1 σ H1 _ I1 q1) fun u s2 ⟨y,H2,I2,r2,q2⟩=>
  thn (ho pins s2 σ H2 x y v u _ I2 r1 r2 q2) fun d s3 ⟨z,H3,I3,r3,k,e,q3⟩=>?_)) hm
 subst e
 cases r3
 refine Yd ?_
 cases k with
 |false=>
  obtain⟨k',e',q'⟩:=q3
  cases e'
  exact ite_ff ⟨H3,I3,q'⟩
 |true=>
  refine ite_tt (test_last (thn (hc pins s3 σ H3 _ I3 q3) fun w' s4 ⟨z',H4,I4,r4,q4⟩=>thn (ho' pins s4 σ H4 y z' u w' _ I4 r2 r4 q4) fun d' s5 ⟨z2,H5,I5,r5,k2,e2,q5⟩=>?_))
  subst e2
  cases r5
  exact Yd ⟨H5,I5,q5⟩
def TruV(K:PySem.W.Frag)(x:V)(H:Hp)(k:Bool):Prop:=
 match x with
 | .non=>k=false
 | .bl b=>k=b
 | .int i=>k=(i !=0)
 | .str y=>y.length≤sizeLine∧k=((y.length:Int) !=0)
 | .byt y=>y.size≤sizeLine∧k=((y.size:Int) !=0)
 | .ref p=>(∃xs,SqL K H p xs∧k= !xs.isEmpty)∨(∃xs,SqT K H p xs∧k= !xs.isEmpty)∨∃kvs,H p=some (.dK kvs)∧k= !kvs.isEmpty
 |_=>False
theorem b0k'{κ:Type}{kvs:List (κ×V)}{vs:List (κ×Value)}(r:KV kvs vs):(!vs.isEmpty)= !kvs.isEmpty:=by
 cases r<;>rfl
theorem a6C'{xs:List V}{its:List Value}(r:Vals xs its):(!its.toArray.isEmpty)= !xs.isEmpty:=by
 cases r<;>simp
theorem a9y':(sizeLine:Nat)<2^63:=by rw[sizeLine_eq];decide
theorem tru_ok:TruR X (fun x H Q=>∃k,TruV X.K x H k∧Q k H):=by
 intro pins s σ H x v Q I rx h
 obtain⟨k,e,q⟩:=h
 have hl:=a9y'
 have hs:sizeLine=16777216:=sizeLine_eq
 cases x with
 |non=>
  cases rx
  have e':k=false:=e
  subst e'
  exact truthy_none ⟨H,I,q⟩
 |bl b=>
  cases rx
  have e':k=b:=e
  subst e'
  exact Yd ⟨H,I,q⟩
 |int i=>
  obtain⟨t,rfl⟩:=rx
  have e':k=(i !=0):=e
  subst e'
  exact PySem.P.truthy_int ⟨H,I,q⟩
 |str y=>
  obtain⟨t,rfl⟩:=rx
  obtain⟨hy,e'⟩:y.length≤sizeLine∧k=((y.length:Int) !=0):=e
  subst e'
  exact PySem.P.truthy_str (by omega) ⟨H,I.tok _,q⟩
 |byt y=>
  obtain⟨t,rfl⟩:=rx
  obtain⟨hy,e'⟩:y.size≤sizeLine∧k=((y.size:Int) !=0):=e
  subst e'
  exact PySem.W.truthy_bytes (by omega) ⟨H,I.tok _,q⟩
 |ref p=>
  cases rx
  have e':(∃xs,SqL X.K H p xs∧k= !xs.isEmpty)∨(∃xs,SqT X.K H p xs∧k= !xs.isEmpty)∨∃kvs,H p=some (.dK kvs)∧k= !kvs.isEmpty:=e
  rcases e' with⟨xs,hx,e'⟩| ⟨xs,hx,e'⟩| ⟨kvs,hx,e'⟩
  ·subst e'
   obtain⟨its,r,pl,hz⟩:=I.list hx
   have hlen:=r.length
   exact wpAny_truthy_list pl.isList (by simp only[Zg];omega) ⟨H,I.tok _,by rw[a6C' r];exact q⟩
  ·subst e'
   obtain⟨its,r,pl,hz⟩:=I.tuple hx
   have hlen:=r.length
   exact truthy_tuple pl (by simp only[Zg];omega) ⟨H,I.tok _,by rw[a6C' r];exact q⟩
  ·subst e'
   obtain⟨hz,hS,vs,r,m⟩:kvs.length≤sizeLine∧(p==sysModules)=false∧∃vs,KV kvs vs∧s.heap.DictOf (b0e' X.prog X.w) p vs:=I.hok p _ hx
   have hlen:kvs.length=vs.length:=Paired.length r
   exact wpAny_truthy_dict hS m (by omega) ⟨H,I.tok _,by rw[b0k' r];exact q⟩
 |_=>exact(show False from e).elim
theorem b4n'(ha:PE X a ta)(he:∀whole,isTrue a X.env whole=(do let v ←whole;standAt a.pos;holding [v] (truthy v))):
  PT X a (fun σ H Q=>ta σ H fun x H'=>∃k,TruV X.K x H' k∧Q k H'):=by
 intro pins s σ H Q I h
 exact isTrue_plain (thn (ha pins s σ H _ I h) fun v s1 ⟨x,H1,I1,r1,q1⟩=>tru_ok pins s1 σ H1 x v Q I1 r1 q1) (he _)
theorem b0l':OpR X (binaryOp .Add) (fun x y H Q=>∃i j,x=.str i∧y=.str j∧i.length+j.length≤sizeLine∧Q (.str (i++j)) H):=by
 intro pins s σ H x y v u Q I rx ry h
 obtain⟨i,j,rfl,rfl,hz,q⟩:=h
 obtain⟨t,rfl⟩:=rx
 obtain⟨t',rfl⟩:=ry
 exact add_str (fun t' tk=>⟨.str (i++j),H,I.tok _,⟨_,rfl⟩,q⟩) hz
theorem vals1{x:V}{us:List Value}(r:Vals [x] us):∃u,us=[u]∧RelV x u:=by
 cases r with
 |cons r1 r2=>cases r2;exact⟨_,rfl,r1⟩
theorem vals2{x y:V}{us:List Value}(r:Vals [x,y] us):∃u w',us=[u,w']∧RelV x u∧RelV y w':=by
 cases r with
 |cons r1 r2=>
  cases r2 with
  |cons r3 r4=>cases r4;exact⟨_,_,rfl,r1,r3⟩
theorem b2n'(hc:X.calm=true):CallR X (.builtin "max") (fun xs H Q=>∃i j,xs=[.int i,.int j]∧Q (.int (if j>i then j else i)) H):=by
 intro pins s σ H xs us Q I r h
 obtain⟨i,j,rfl,q⟩:=h
 obtain⟨u,w',rfl,⟨t,rfl⟩,⟨t',rfl⟩⟩:=vals2 r
 refine max_two_ints (I.ok.hd hc) fun h' tk k=>⟨_,H,I.kept k,?_,q⟩
 by_cases hj:j>i
 ·rw[if_pos hj,if_pos hj];exact⟨_,rfl⟩
 ·rw[if_neg hj,if_neg hj];exact⟨_,rfl⟩
theorem b2o'(hc:X.calm=true):CallR X (.builtin "min") (fun xs H Q=>∃i j,xs=[.int i,.int j]∧Q (.int (if j<i then j else i)) H):=by
 intro pins s σ H xs us Q I r h
 obtain⟨i,j,rfl,q⟩:=h
 obtain⟨u,w',rfl,⟨t,rfl⟩,⟨t',rfl⟩⟩:=vals2 r
 refine min_two_ints (I.ok.hd hc) fun h' tk k=>⟨_,H,I.kept k,?_,q⟩
 by_cases hj:j<i
 ·rw[if_pos hj,if_pos hj];exact⟨_,rfl⟩
 ·rw[if_neg hj,if_neg hj];exact⟨_,rfl⟩
theorem a8x':CallR X (.type "int") (fun xs H Q=>(∃i,xs=[.int i]∧Q (.int i) H)∨∃k,xs=[.bl k]∧Q (.int (if k then 1 else 0)) H):=by
 intro pins s σ H xs us Q I r h
 rcases h with⟨i,rfl,q⟩| ⟨k,rfl,q⟩
 ·obtain⟨u,rfl,t,rfl⟩:=vals1 r
  exact call_int_int ⟨.int i,H,I,⟨_,rfl⟩,q⟩
 ·obtain⟨u,rfl,r1⟩:=vals1 r
  cases r1
  exact call_int_bool ⟨.int (if k then 1 else 0),H,I.tok _,⟨_,rfl⟩,q⟩
end
end L2
namespace L2
open PySem PySem.Spec PyProof.Rows
section
variable {prog:Program}{w:World}{A:Around}{E:Value→Shared→Prop}{s:Shared}{K:PySem.W.Frag}{x dx C f:Addr}{mA:Str→Option Value}{name:Str}{v:Value}
end
section
variable {P:Program}{w:World}{H H':Hp}{h h':Heap}{a C dx:Addr}{fs fs':List (Str×V)}
end
section
variable {X:Cx}{pins:List (Addr×Obj)}{σ:St}{H:Hp}{s:Shared}{a C dx:Addr}{fs:List (Str×V)}{f:Str}{v:V}{A:Around}{E:Value→Shared→Prop}
end
section
variable {X:Cx}{o e value:Expr}{f:Str}{pos pos' tpos:Pos}{ta tv:TE}
end
section
variable {X:Cx}{pins:List (Addr×Obj)}{σ:St}{H:Hp}{s:Shared}{A:Around}{E:Value→Shared→Prop}{Q:Value→Shared→Prop}{c:Value}{b:Bool}
end
end L2
namespace L2
open PySem PySem.Spec PyProof.Rows
structure Room (k:Nat)(A:Around):Prop where
 hd:A.handled=none
 dp:A.depth+3*k+5<recursionLimit
 un:A.units+16*k+200<cLine
 gd:A.guards=some []
theorem Room.mono{j k:Nat}{A:Around}(r:Room k A)(h:j≤k):Room j A:=⟨r.hd,by have:=r.dp;omega,by have:=r.un;omega,r.gd⟩
theorem Room.deeper{k:Nat}{A:Around}(r:Room (k+1) A)(env:Env):Room k (A.deeper env):=
 ⟨r.hd,by have:=r.dp;show A.depth+1+3*k+5<_;omega,by have:=r.un;show A.units+3+16*k+200<_;omega,r.gd⟩
theorem Room.depth{k:Nat}{A:Around}(r:Room k A):A.depth<recursionLimit:=by have:=r.dp;omega
theorem Room.units{k:Nat}{A:Around}(r:Room k A):A.units+64<cLine:=by have:=r.un;omega
def tNil:TA:=fun _ H Q=>Q [] H
def tCons(ta:TE)(tr:TA):TA:=fun σ H Q=>ta σ H fun x H1=>tr σ H1 fun xs H2=>Q (x::xs) H2
section
variable {X:Cx}{e:Expr}{es:List Expr}{te:TE}{t:TA}{pos:Pos}
theorem b4o':PA X [] tNil:=fun _ _ _ _ H Q I h=>Calls.spliced_nil ⟨[],H,I,.nil,h⟩
theorem b0m'(ha:PE X e te)(hr:PA X es t)(hs:starEach (e::es) X.env=(false,eval e X.env)::starEach es X.env:=by rfl):PA X (e::es) (tCons te t):=by
 intro pos pins s σ H Q I h
 rw[hs]
 show wpAny _ _ (spliced ((false,eval e X.env)::backTo pos (starEach es X.env))) _ _ s
 refine Calls.spliced_cons (thn (ha pins s σ H _ I h) fun u s1 ⟨x,H1,I1,r1,q1⟩=>?_)
 exact thn (hr pos pins s1 σ H1 _ I1 q1) fun us s2 ⟨xs,H2,I2,r2,q2⟩=>⟨x::xs,H2,I2,.cons r1 r2,q2⟩
def tTup(t:TA):TE:=fun σ H Q=>t σ H fun xs H1=>xs.length≤sizeLine∧∀p,H1 p=none→Q (.ref p) (upd H1 p (.tup xs))
def tLst(t:TA):TE:=fun σ H Q=>t σ H fun xs H1=>xs.length≤sizeLine∧∀p,H1 p=none→Q (.ref p) (upd H1 p (.lst xs))
theorem pe_tup{x1}(h:PA X es t):PE X (.Tuple es x1 pos) (tTup t):=by
 intro pins s σ H Q I hq
 refine wpAny_Tuple_spliced (thn (h pos pins s σ H _ I hq) fun us s1 ⟨xs,H1,I1,r,z,q⟩=>⟨by rw[←r.length];exact z,?_⟩)
 have hf:H1 s1.heap.objs.size=none:=I1.hok.fresh (Zj _)
 refine⟨.ref s1.heap.objs.size,upd H1 s1.heap.objs.size (.tup xs),I1.laid (t':=s1.toks) (fun b u e=>Zd _ e) (Zj _) ?_,rfl,q _ hf⟩
 exact⟨z,us,r,⟨_,Zt _ rfl,rfl,_,rfl⟩,_,Zt _ rfl,rfl⟩
theorem pe_lst(h:PA X es t):PE X (.List es pos) (tLst t):=by
 intro pins s σ H Q I hq
 refine wpAny_List_spliced (thn (h pos pins s σ H _ I hq) fun us s1 ⟨xs,H1,I1,r,z,q⟩=>⟨by rw[←r.length];exact z,?_⟩)
 have hf:H1 s1.heap.objs.size=none:=I1.hok.fresh (Zj _)
 refine⟨.ref s1.heap.objs.size,upd H1 s1.heap.objs.size (.lst xs),I1.laid (t':=s1.toks) (fun b u e=>Zd _ e) (Zj _) ?_,rfl,q _ hf⟩
 exact⟨z,us,0,r,Zt _ rfl⟩
end
abbrev Sp:=List V→Hp→VK→XK→Prop
abbrev CXT:=List Env→Hp→Shared→XK→Value→Shared→Prop
structure Env0 (P:Program)(w:World)(K:PySem.W.Frag)(mg:Str→Option Value)(base:Heap)(A:Around)(outer:List Env)(s:Shared)(H:Hp):Prop where
 frames:A.frames=some outer
 mod:Mod K mg base
 bs:∀b o,base.get? b=some o→s.heap.get? b=some o∧H b=none
 bsz:base.objs.size≤s.heap.objs.size
 funs:s.heap.FunFrames base outer
 frf:∀b∈frs outer,H b=none
 hok:HOk P w H s.heap
 bare:AllBare s.gens
def CE(outer:List Env)(P:Program)(w:World)(H:Hp)(s:Shared)(Q:VK)(u:Value)(s':Shared):Prop:=
 ∃v H',s'.os=s.os∧AllBare s'.gens∧Un (frs outer) [] H H' s.heap s'.heap∧HOk P w H' s'.heap∧RelV v u∧Q v H'
def CR(CX:CXT)(outer:List Env)(P:Program)(w:World)(H:Hp)(s:Shared)(Q:VK)(E:XK)(r:Result)(s':Shared):Prop:=
 match r with
 | .ok (.ret u)=>CE outer P w H s Q u s'
 | .ok _=>False
 | .error e=>CX outer H s E e s'
structure FnOk (P:Program)(w:World)(K:PySem.W.Frag)(mg:Str→Option Value)(base:Heap)(CX:CXT)(k:Nat)(f:Addr)(fd:FuncData)(ps:List Str)(sp:Sp):Prop where
 len:∀vs H Q E,sp vs H Q E→vs.length=ps.length
 run:∀(A:Around) (outer:List Env) (s:Shared) (H:Hp) (args:Args) (us:List Value) (vs:List V) (Q:VK) (E:XK),Room k A→Env0 P w K mg base A outer s H→BindsTo s fd args (ps.zip us)→Vals vs us→sp vs H Q E→
  codeAny (model P w) A (.call (.ref f) args) (CR CX outer P w H s Q E) s
theorem FnOk.mono{P:Program}{w:World}{K:PySem.W.Frag}{mg:Str→Option Value}{base:Heap}{CX:CXT}{j k:Nat}{f:Addr}{fd:FuncData}{ps:List Str}{sp:Sp}(F:FnOk P w K mg base CX j f fd ps sp)(h:j≤k):
  FnOk P w K mg base CX k f fd ps sp:=⟨F.len,fun A outer s H args us vs Q E hr=>F.run A outer s H args us vs Q E (hr.mono h)⟩
theorem FnOk.imp{P:Program}{w:World}{K:PySem.W.Frag}{mg:Str→Option Value}{base:Heap}{CX:CXT}{k:Nat}{f:Addr}{fd:FuncData}{ps:List Str}{sp sp':Sp}(F:FnOk P w K mg base CX k f fd ps sp)
  (h:∀vs H Q E,sp' vs H Q E→sp vs H Q E):FnOk P w K mg base CX k f fd ps sp':=
 ⟨fun vs H Q E q=>F.len vs H Q E (h _ _ _ _ q),fun A outer s H args us vs Q E hr he hb hv hs=>F.run A outer s H args us vs Q E hr he hb hv (h _ _ _ _ hs)⟩
section
variable {X:Cx}{pins:List (Addr×Obj)}{σ:St}{H:Hp}{s s':Shared}
theorem Inv.env0(I:Inv X pins σ H s):Env0 X.prog X.w X.K X.mg X.base X.A X.stack s H:=
 ⟨I.ok.frames,I.ok.mod,I.bs,ZL I.ok.bsz I.sz,I.stack,I.stkFree,I.hok,I.bare⟩
theorem Inv.after{Q:VK}{u:Value}(I:Inv X pins σ H s)(h:CE X.stack X.prog X.w H s Q u s'):EP X pins σ Q u s':=by
 obtain⟨v,H',os,bare,un,hok,r,q⟩:=h
 obtain⟨hh,g,d,t,os'⟩:=s'
 obtain rfl:os'=s.os:=os
 exact⟨v,H',I.call (h':=hh) (g':=g) (d':=d) (t':=t) (ch:=[]) un hok bare (fun b z=>absurd z (by simp)),r,q⟩
end
def tCall(sp:Sp)(dvs:List V)(E:XK)(t:TA):TE:=fun σ H Q=>t σ H fun vs H1=>sp (vs++dvs) H1 Q E
def Binds(K:PySem.W.Frag)(fd:FuncData)(ps:List Str)(ds:List Value):Prop:=
 ∀(s:Shared) (us:List Value),K.In s.heap→(us++ds).length=ps.length→BindsTo s fd ⟨us,[]⟩ (ps.zip (us++ds))
theorem Binds.all{K:PySem.W.Frag}{fd:FuncData}{ps:List Str}(h:∀us:List Value,us.length=ps.length→bindArgs fd ⟨us,[]⟩=pure (ps.zip us)):Binds K fd ps []:=fun s us _ hl=>by
 rw[List.append_nil]at hl⊢
 exact .of_eq (h us hl)
def b4p'(CX:CXT)(X:Cx)(E:XK):Prop:=∀(pins:List (Addr×Obj)) (σ:St) (H:Hp) (s:Shared) (e:Value) (s':Shared),Inv X pins σ H s→CX X.stack H s E e s'→X.xe e s'
section
variable {X:Cx}{CX:CXT}{k:Nat}{f C:Addr}{fd:FuncData}{ps:List Str}{sp:Sp}{dvs:List V}{ds:List Value}{E:XK}{x m:Str}{p pos apos:Pos}{e o:Expr}{es:List Expr}{ta:TE}{t:TA}
theorem run_fn{pins:List (Addr×Obj)}{σ:St}{H:Hp}{s:Shared}{Q:VK}{us:List Value}{vs:List V}(F:FnOk X.prog X.w X.K X.mg X.base CX k f fd ps sp)(hr:Room k X.A)(hb:Binds X.K fd ps ds)(hd:Vals dvs ds)(hx:b4p' CX X E)
  (I:Inv X pins σ H s) (r:Vals vs us) (h:sp (vs++dvs) H Q E):wpAny (model X.prog X.w) X.A (call (.ref f) us) (EP X pins σ Q) X.xe s:=by
 have r2:Vals (vs++dvs) (us++ds):=r.append hd
 have hl:(us++ds).length=ps.length:=by rw[←r2.length];exact F.len _ _ _ _ h
 refine wpAny_call (codeAny_mono (F.run X.A X.stack s H ⟨us,[]⟩ (us++ds) (vs++dvs) Q E hr I.env0 (hb s us I.kIn hl) r2 h) fun r s' hq=>?_)
 cases r with
 |error e=>exact hx pins σ H s e s' I hq
 |ok fl=>
  cases fl with
  |ret u=>exact I.after hq
  |next=>exact False.elim hq
  |brk=>exact False.elim hq
  |cont=>exact False.elim hq
theorem pe_call(F:FnOk X.prog X.w X.K X.mg X.base CX k f fd ps sp)(hr:Room k X.A)(hg:Gl X x)(hm:X.mg x=some (.ref f))(hk:PySem.W.keepIn X.K (.ref f)=true)(hb:Binds X.K fd ps ds)(hd:Vals dvs ds)(hx:b4p' CX X E)
  (ha:PA X (e::es) t) (hdb:(x==("__debug__":Str))=false:=by decide) (he:starEach (e::es) X.env=(false,eval e X.env)::starEach es X.env:=by rfl) (hpl:(backTo pos (starEach es X.env)).any (·.1)=false:=by rfl):
  PE X (.Call (.Name x p) (e::es) [] pos) (tCall sp dvs E t):=by
 intro pins s σ H Q I h
 refine wpAny_Call_Name_kw (b3t' I hg hm ?_ hdb)
 refine PySem.W.callWith_K (h₀:=X.base) I.ok.mod.kin hk (thn (ha pos pins s σ H _ I h) fun us s1 ⟨vs,H1,I1,r,q⟩=>⟨I1.kIn,?_⟩) he hpl
 exact run_fn F hr hb hd hx I1 r q
end
section
variable {X:Cx}{CX:CXT}{k:Nat}{f C:Addr}{fd:FuncData}{ps ks:List Str}{sp:Sp}{E:XK}{x m:Str}{p pos apos kpos:Pos}{e o:Expr}{es:List Expr}{kws:List Keyword}{te ta:TE}{t tk:TA}{nm:Option Str}
variable {g:List Value→List Value→List Value}{gV:List V→List V→List V}
end
structure FnScope (N P:List Str)(sc:Scope):Prop where
 kind:sc.kind=.function
 co:sc.isCoroutine=false
 gen:sc.isGenerator=false
 nd:N.Nodup
 pre:N.take P.length=P
 par:∀x∈P,sc.names.lookup x=some .local∨sc.names.lookup x=some .cell
 nofree:∀y∈sc.names,y.2≠.free
theorem a8y'{kindOf:Str→Option NameKind}{x:Str}:∀{binds:List (Str×Value)} {m:Str→Option Value},(∀v,(x,v)∉binds)→bindL kindOf binds m x=m x
 | [],_,_=>rfl
 | (n,v)::r,m,h=>by
  unfold bindL
  rw[a8y' fun w hw=>h w (Za _ hw)]
  split
  ·have:x≠n:=by rintro rfl;exact h v Zb
   simp[this]
  ·rfl
theorem a8z'{kindOf:Str→Option NameKind}{x:Str}:∀{binds:List (Str×Value)} {m:Str→Option Value},(∀v,(x,v)∉binds)→bindC kindOf binds m x=m x
 | [],_,_=>rfl
 | (n,v)::r,m,h=>by
  unfold bindC
  rw[a8z' fun w hw=>h w (Za _ hw)]
  split
  ·rfl
  ·have:x≠n:=by rintro rfl;exact h v Zb
   simp[this]
theorem a8A'{kindOf:Str→Option NameKind}{x:Str}{v:Value}:∀{P:List Str} {vs:List Value} {i:Nat} {m:Str→Option Value},P.Nodup→P[i]?=some x→vs[i]?=some v→kindOf x=some .local→
  bindL kindOf (P.zip vs) m x=some v
 | [],_,_,_,_,h,_,_=>by simp at h
 |_::_,[],_,_,_,_,h,_=>by simp at h
 |p::P,w::vs,0,m,nd,h1,h2,hk=>by
  simp at h1 h2;subst h1;subst h2
  show bindL kindOf ((p,w)::P.zip vs) m p=_
  unfold bindL
  rw[a8y' fun v hv=>(ZJ.mp nd).1 (List.of_mem_zip hv).1,if_pos hk]
  simp
 |p::P,w::vs,i+1,m,nd,h1,h2,hk=>by
  show bindL kindOf ((p,w)::P.zip vs) m x=_
  unfold bindL
  exact a8A' (i:=i) (ZJ.mp nd).2 (by simpa using h1) (by simpa using h2) hk
theorem a8B'{kindOf:Str→Option NameKind}{x:Str}{v:Value}:∀{P:List Str} {vs:List Value} {i:Nat} {m:Str→Option Value},P.Nodup→P[i]?=some x→vs[i]?=some v→kindOf x≠some .local→
  bindC kindOf (P.zip vs) m x=some v
 | [],_,_,_,_,h,_,_=>by simp at h
 |_::_,[],_,_,_,_,h,_=>by simp at h
 |p::P,w::vs,0,m,nd,h1,h2,hk=>by
  simp at h1 h2;subst h1;subst h2
  show bindC kindOf ((p,w)::P.zip vs) m p=_
  unfold bindC
  rw[a8z' fun v hv=>(ZJ.mp nd).1 (List.of_mem_zip hv).1,if_neg hk]
  simp
 |p::P,w::vs,i+1,m,nd,h1,h2,hk=>by
  show bindC kindOf ((p,w)::P.zip vs) m x=_
  unfold bindC
  exact a8B' (i:=i) (ZJ.mp nd).2 (by simpa using h1) (by simpa using h2) hk
def start(N:List Str)(vs:List V):St:=vs.map some++List.replicate (N.length-vs.length) none
def cxOf(CX:CXT)(P:Program)(w:World)(K:PySem.W.Frag)(mg:Str→Option Value)(base:Heap)(N:List Str)(qual:Str)(scope:Scope)(f:Addr)(cd:Value)(A:Around)(outer:List Env)(s:Shared)(H:Hp)(E:XK):Cx where
 prog:=P
 w:=w
 K:=K
 mg:=mg
 base:=base
 A:=A.deeper (envOfC qual scope s.heap.objs.size f cd)
 N:=N
 s₀:=s
 H₀:=H
 env:=envOfC qual scope s.heap.objs.size f cd
 outer:=outer
 stack:=envOfC qual scope s.heap.objs.size f cd::outer
 ex:=[]
 calm:=true
 fn:=fun _=>true
 pn:=[]
 xe:=fun e s'=>wpAny (model P w) (A.deeper (envOfC qual scope s.heap.objs.size f cd)) (leaving (envOfC qual scope s.heap.objs.size f cd) e) (fun _ s''=>CX outer H s E e s'') (fun e' s''=>CX outer H s E e' s'') s'
theorem b0n'{sc:Scope}{n:Nat}{x:Str}(h:sc.names.lookup x=some .cell):∃c,(cellsFrom n sc.names []).lookup x=some c:=by
 have q:=PySem.W.cellsFrom_some sc.names n [] (.inl h)
 exact Option.isSome_iff_exists.mp q
theorem b2p'{CX:CXT}{P:Program}{w:World}{K:PySem.W.Frag}{mg:Str→Option Value}{base:Heap}{N ps:List Str}{qual:Str}{scope:Scope}{f:Addr}{cd:Value}{A:Around}{outer:List Env}{s s1:Shared}{H:Hp}{E:XK}{us:List Value}{vs:List V}
  (S:FnScope N ps scope) (hd:A.handled=none) (e0:Env0 P w K mg base A outer s H) (hl:vs.length=ps.length) (r:Vals vs us)
  (x:InCallC s s.heap.objs.size (bindL (envOfC qual scope s.heap.objs.size f cd).kindOf (ps.zip us) fun _=>none) (cellsFrom (s.heap.objs.size+1) scope.names []) (bindC (envOfC qual scope s.heap.objs.size f cd).kindOf (ps.zip us) fun _=>none) s1):
  Inv (cxOf CX P w K mg base N qual scope f cd A outer s H E) [] (start N vs) H s1:=by
 have hpl:ps.length≤N.length:=by have:=congrArg List.length S.pre;rw[Z8]at this;omega
 obtain⟨h1,tk,rfl,hk⟩:=x.done
 have noA:∀b:Addr,b∉(cxOf CX P w K mg base N qual scope f cd A outer s H E).ex:=fun b z=>absurd (show b∈([]:List Addr)from z) (by simp)
 refine⟨⟨e0.mod,S.kind,rfl,rfl,Zj _,fun y z c h1 h2=>?_,fun y hy=>?_,fun y c _ h=>?_,fun _=>hd,Around.frames_deeper e0.frames,.inr ⟨rfl,rfl⟩,fun b z=>absurd z (noA b),e0.bs,e0.bsz,fun b _ _=>noA b,fun b z=>absurd z (noA b),e0.funs,e0.frf⟩,
  rfl,e0.bare,Un.kept hk,⟨_,x.toInCall.ns,fun i y v h1 h2 h3=>?_⟩,fun y c h=>⟨_,x.cell y c h⟩,e0.hok.fresh (Zj _),fun y c h=>?_,fun p hp=>absurd (show p∈([]:List (Addr×Obj))from hp) (by simp),e0.hok.kept hk,?_⟩
 ·exact name_of_addr x.apart (ZM h1) (ZM h2)
 ·have hy:scope.names.lookup y=some .cell∨scope.names.lookup y=some .free:=hy
  rcases hy with hy|hy
  ·exact b0n' hy
  ·exact absurd rfl (S.nofree _ (ZM hy))
 ·exact Nat.le_of_lt (x.above y c (ZM h))
 ·have hi:i<vs.length:=by
   unfold start at h2
   by_cases hi:i<vs.length
   ·exact hi
   ·rw[Zv (by simpa using hi)]at h2
    rw[List.getElem?_replicate]at h2
    split at h2<;>cases h2
  have ha:vs[i]?=some v:=by
   unfold start at h2
   rw[Zo (by simpa using hi),ZN]at h2
   cases e:vs[i]? with
   |none=>rw[e]at h2;cases h2
   |some a=>rw[e]at h2;cases h2;rfl
  obtain⟨u,hu,rv⟩:=r.get ha
  have hp:ps[i]?=some y:=by
   rw[←S.pre,List.getElem?_take_of_lt (by omega)];exact h1
  have ndP:ps.Nodup:=by rw[←S.pre];exact S.nd.sublist (List.take_sublist _ _)
  refine⟨u,rv,?_⟩
  rcases S.par y (ZD hp)with k|k
  ·exact .inl ⟨k,a8A' ndP hp hu k⟩
  ·obtain⟨c,e⟩:=b0n' (n:=s.heap.objs.size+1) k
   refine .inr ⟨.inl k,c,e,?_⟩
   have q:=x.cell y c e
   rw[a8B' ndP hp hu (by show scope.names.lookup y≠_;rw[k];decide)]at q
   exact q
 ·exact e0.hok.fresh (Nat.le_of_lt (x.above y c (ZM h)))
 ·unfold start
  show _=N.length
  rw[Zm,Zk,List.length_replicate]
  omega
theorem fn_of{CX:CXT}{P:Program}{w:World}{K:PySem.W.Frag}{mg:Str→Option Value}{base:Heap}{k:Nat}{f:Addr}{name qual:Str}{params:Arguments}{body:List Stmt}{scope:Scope}{dV kV doc pm cdv ct oc:Value}{an od:Option Addr}
  {osl:Array (Option Value)} {N ps:List Str} {sp:Sp} (lk:K.lookup f=some ⟨oc,od,.func (PySem.W.fnOf name qual params body scope dV kV doc pm an cdv ct),osl⟩) (hcd:PySem.W.codeIn K cdv qual=true) (S:FnScope N ps scope)
  (len:∀vs H Q E,sp vs H Q E→vs.length=ps.length)
  (hbody:∀(A:Around) (outer:List Env) (s:Shared) (H:Hp) (vs:List V) (Q:VK) (E:XK),Room k (A.deeper (envOfC qual scope s.heap.objs.size f cdv))→sp vs H Q E→
   ∃t,PSs (cxOf CX P w K mg base N qual scope f cdv A outer s H E) body t∧t {nx:=fun _ H'=>Q .non H',rt:=Q} (start N vs) H):
  FnOk P w K mg base CX (k+1) f (PySem.W.fnOf name qual params body scope dV kV doc pm an cdv ct) ps sp:=by
 refine⟨len,fun A outer s H args us vs Q E hr e0 hb r hsp=>?_⟩
 have hl:=len _ _ _ _ hsp
 have KX:K.In s.heap:=e0.mod.kin.keeps fun b o e=>(e0.bs b o e).1
 have lim:s.heap.NoLimit:=e0.mod.nolimit.keeps fun b o e=>(e0.bs b o e).1
 have hkind:∀y∈ps.zip us,scope.names.lookup y.1=some .local∨(scope.names.lookup y.1=some .cell∧((cellsFrom (s.heap.objs.size+1) scope.names []).lookup y.1).isSome=true):=fun⟨n,v⟩ hy=>by
  rcases S.par n (List.of_mem_zip hy).1 with q|q
  ·exact .inl q
  ·exact .inr ⟨q,PySem.W.cellsFrom_some _ _ _ (.inl q)⟩
 refine codeAny_call_function hr.depth (KX _ _ lk) rfl S.co S.gen rfl (PySem.W.codeRec_of KX hcd) (hb _ _ _ _ ?_)
 refine wpAny_newFunctionEnv_cells S.kind hkind fun env he s1 x=>?_
 subst he
 refine⟨lim.keeps x.toInCall.keep,codeAny_func ?_⟩
 obtain⟨t,ht,hq⟩:=hbody A outer s H vs Q E (hr.deeper _) hsp
 have I:Inv (cxOf CX P w K mg base N qual scope f cdv A outer s H E) [] (start N vs) H s1:=b2p' S hr.hd e0 hl r x
 refine wpAny_mono (ht [] s1 (start N vs) H _ I hq) (fun fl s' hs=>?_) fun e s' hs=>hs
 have fin:∀{σ':St} {H':Hp} {v:V} {u:Value},Inv (cxOf CX P w K mg base N qual scope f cdv A outer s H E) [] σ' H' s'→RelV v u→Q v H'→CE outer P w H s Q u s':=
  fun{σ' H' v u} J rv q=>⟨v,H',J.os,J.bare,J.base,J.hok,rv,q⟩
 cases fl with
 |ret u=>
  obtain⟨v,σ',H',J,rv,q⟩:=hs
  exact fin J rv q
 |next=>
  obtain⟨σ',H',J,q⟩:=hs
  exact fin (v:=V.non) (u:=Value.none) J rfl q
 |brk=>
  obtain⟨_,_,_,q⟩:=hs
  exact False.elim q
 |cont=>
  obtain⟨_,_,_,q⟩:=hs
  exact False.elim q
end L2
namespace L2
open PySem PySem.Spec PyProof.Rows
section
variable {X:Cx}{x:Str}{p pos:Pos}{e:Expr}{es:List Expr}{t:TA}{id T:String}{r:List V→Hp→VK→Prop}
def tCB(r:List V→Hp→VK→Prop)(t:TA):TE:=fun σ H Q=>t σ H fun vs H1=>r vs H1 Q
theorem b0o'(hc:CallR X (.builtin id) r)(hg:Gl X x)(hm:X.mg x=none)(hv:bootBuiltins x=some (.builtin id))(ha:PA X (e::es) t)(hn:x≠"__name__":=by decide)(hdb:(x==("__debug__":Str))=false:=by decide)
  (he:starEach (e::es) X.env=(false,eval e X.env)::starEach es X.env:=by rfl) (hpl:(backTo pos (starEach es X.env)).any (·.1)=false:=by rfl):PE X (.Call (.Name x p) (e::es) [] pos) (tCB r t):=by
 intro pins s σ H Q I h
 refine wpAny_Call_Name_kw (a9w' I hg hm hv ?_ hn hdb)
 exact PyProof.Rows.callWith_builtin1 (thn (ha pos pins s σ H _ I h) fun us s1 ⟨vs,H1,I1,r1,q1⟩=>hc pins s1 σ H1 vs us Q I1 r1 q1) he hpl
theorem a4n'(hc:CallR X (.type T) r)(hg:Gl X x)(hm:X.mg x=none)(hv:bootBuiltins x=some (.type T))(ha:PA X (e::es) t)(hn:x≠"__name__":=by decide)(hdb:(x==("__debug__":Str))=false:=by decide)
  (he:starEach (e::es) X.env=(false,eval e X.env)::starEach es X.env:=by rfl) (hpl:(backTo pos (starEach es X.env)).any (·.1)=false:=by rfl):PE X (.Call (.Name x p) (e::es) [] pos) (tCB r t):=by
 intro pins s σ H Q I h
 refine wpAny_Call_Name_kw (a9w' I hg hm hv ?_ hn hdb)
 exact PyProof.Rows.callWith_type1 (thn (ha pos pins s σ H _ I h) fun us s1 ⟨vs,H1,I1,r1,q1⟩=>hc pins s1 σ H1 vs us Q I1 r1 q1) he hpl
end
end L2
namespace HT
open PySem PyProof.Rows
section
open PySem.SeqAt
open PySem.AutoSeq1 (wpAny_loadPart')
open PySem.MeetsSeq PySem.MeetsSeq2 PySem.MeetsSeq3
end
section
variable {prog:Program}{w:World}{A:Around}{E:Value→Shared→Prop}{s:Shared}
theorem cat_tup{t b:Addr}{vs ws:List Value}{Q:Value→Shared→Prop}(ht:IsTup s.heap t vs.toArray)(hb:IsTup s.heap b ws.toArray)(hv:vs≠[])
  (h1:ws=[]→Q (.ref t) s) (h2:ws≠[]→Q (.ref s.heap.objs.size) {s with heap:=s.heap.push {cls:=.type "tuple",data:=.seq (vs++ws).toArray}})
  (hsz:vs.length+ws.length≤sizeLine):wpAny (model prog w) A (binaryOp .Add (.ref t) (.ref b)) Q E s:=by
 obtain⟨⟨cls,dd,data,sl⟩,ho,hc,n,hd⟩:=id ht
 obtain⟨⟨cls2,dd2,data2,sl2⟩,ho2,hc2,n2,hd2⟩:=id hb
 simp only at hc hd hc2 hd2
 subst hc hd hc2 hd2
 have e:vs.toArray++ws.toArray=(vs++ws).toArray:=by simp
 by_cases hw:ws=[]
 ·exact concat_meets ⟨_,ho,rfl⟩ ⟨_,ho2,rfl⟩ noFill_tuple_add seq_tuple_add PySem.F.slot_tuple_add PySem.F.entry_tuple_add (PySem.F.args_tuple_add_2 _ _)
   (tuple_addW1 t b vs.toArray ws.toArray n n2 dd dd2 sl sl2 (by simpa using hv) (by simp[hw])) ⟨ho,ho2,h1 hw⟩
 ·refine concat_meets ⟨_,ho,rfl⟩ ⟨_,ho2,rfl⟩ noFill_tuple_add seq_tuple_add PySem.F.slot_tuple_add PySem.F.entry_tuple_add (PySem.F.args_tuple_add_2 _ _)
   (tuple_addW2 t b vs.toArray ws.toArray n n2 dd dd2 sl sl2 (by simpa using hv) (by simpa using hw) (by rw[Zg,Zg];exact hsz)) ⟨ho,ho2,?_⟩
  rw[e]
  exact h2 hw
def sIx(n d:Nat):Option Int→Nat
 |none=>d
 |some v=>if v<0 then(v+(n:Int)).toNat else min v.toNat n
theorem sIx_le(n d:Nat)(hd:d≤n)(o:Option Int):sIx n d o≤n:=by
 cases o with
 |none=>exact hd
 |some v=>
  show(if v<0 then(v+(n:Int)).toNat else min v.toNat n)≤n
  by_cases hv:v<0
  ·rw[if_pos hv];omega
  ·rw[if_neg hv];exact Nat.min_le_right _ _
theorem b3u'(v:Int)(n d:Nat):(if v<0 then max (v+(n:Int)) 0 else min v (n:Int))=((sIx n d (some v):Nat):Int):=by
 show(if v<0 then max (v+(n:Int)) 0 else min v (n:Int))=(((if v<0 then(v+(n:Int)).toNat else min v.toNat n):Nat):Int)
 by_cases hv:v<0
 ·simp only[if_pos hv];omega
 ·simp only[if_neg hv];omega
theorem b0p'(lo hi:Option Int)(n:Nat):Builtin.Slice.sliceAdjust lo hi 1 (n:Int)=(((sIx n 0 lo:Nat):Int),((sIx n n hi:Nat):Int)):=by
 have h1:¬((1:Int)<0):=by omega
 unfold Builtin.Slice.sliceAdjust
 simp only[h1,Z4]
 refine Prod.ext ?_ ?_
 ·cases lo with
  |none=>rfl
  |some v=>exact b3u' v n 0
 ·cases hi with
  |none=>rfl
  |some v=>exact b3u' v n n
theorem b0q'(i j:Nat):Builtin.Slice.slicePlaces (i:Int) (j:Int) 1=j-i:=by
 unfold Builtin.Slice.slicePlaces
 have h1:(1:Int)>0:=by omega
 simp only[h1,if_true,Int.ediv_one]
 split<;>omega
theorem a6D'{v:Value}{o:Option Int}{Q:Option Int→Shared→Prop}(p:IsPart v o)(h:Q o s):wpAny (model prog w) A (Builtin.Slice.slicePartIndex v) Q E s:=by
 cases p with
 |none=>exact slicePart_none h
 |int i t=>exact slicePart_int h
theorem a2d'{sl:Addr}{vl vu:Value}{lo hi:Option Int}{n:Nat}{Q:Int×Int×Nat→Shared→Prop}(hs:s.heap.IsSliceOf sl vl vu .none)(pl:IsPart vl lo)(pu:IsPart vu hi)
  (h:Q (((sIx n 0 lo:Nat):Int),1,sIx n n hi-sIx n 0 lo) s):wpAny (model prog w) A (Builtin.Slice.sliceApplied (.ref sl) (pure (n:Int))) Q E s:=by
 obtain⟨os,hos,hcs,hds⟩:=id hs
 unfold Builtin.Slice.sliceApplied Builtin.Slice.sliceFields
 refine Zc (Zc (wpAny_field hos hds (x:=vl) rfl (Zc (wpAny_field hos hds (x:=vu) rfl (Zc (wpAny_field hos hds (x:=.none) rfl (Zl ?_)))))))
 refine Zc (slicePart_none ?_)
 show wpAny _ _ (if((1:Int)==0)=true then _ else _) _ _ s
 rw[if_neg (by decide)]
 refine Zc (a6D' pl (Zc (a6D' pu (Zc (Zl ?_)))))
 show wpAny _ _ (match Builtin.Slice.sliceAdjust lo hi 1 (n:Int)with| (lo,hi)=>pure (lo,(1:Int),Builtin.Slice.slicePlaces lo hi 1)) _ _ s
 rw[b0p' lo hi n]
 show wpAny _ _ (pure (((sIx n 0 lo:Nat):Int),(1:Int),Builtin.Slice.slicePlaces ((sIx n 0 lo:Nat):Int) ((sIx n n hi:Nat):Int) 1)) _ _ s
 rw[b0q']
 exact Zl h
theorem b4q'(xs:Array Value)(i k:Nat):((List.range k).filterMap fun(m:Nat)=>xs[((i:Int)+(m:Int)*1).toNat]?).toArray=((xs.toList.drop i).take k).toArray:=by
 have e:(fun(m:Nat)=>xs[((i:Int)+(m:Int)*1).toNat]?)=fun m=>xs[i+m]? :=by
  funext m
  have:((i:Int)+(m:Int)*1).toNat=i+m:=by omega
  rw[this]
 rw[e]
 have:=pick_run xs i k
 rw[List.filterMap_map]at this
 have e2:((fun x=>xs[x]?)∘fun x=>i+x)=fun m=>xs[i+m]? :=rfl
 rw[e2]at this
 rw[this]
theorem a4m'{t sl:Addr}{items:Array Value}{vl vu:Value}{lo hi:Option Int}{Q:Value→Shared→Prop}(ht:IsTup s.heap t items)(hs:s.heap.IsSliceOf sl vl vu .none)(pl:IsPart vl lo)(pu:IsPart vu hi)
  (hw:¬(sIx items.size 0 lo=0∧sIx items.size items.size hi=items.size))
  (h:Q (.ref s.heap.objs.size) {s with heap:=s.heap.push {cls:=.type "tuple",data:=.seq ((items.toList.drop (sIx items.size 0 lo)).take (sIx items.size items.size hi-sIx items.size 0 lo)).toArray}})
  (hsz:items.size≤sizeLine):wpAny (model prog w) A (getItem (.ref t) (.ref sl)) Q E s:=by
 have htake:sizeOk (.seq ((items.toList.drop (sIx items.size 0 lo)).take (sIx items.size items.size hi-sIx items.size 0 lo)).toArray):=by
  show((items.toList.drop (sIx items.size 0 lo)).take (sIx items.size items.size hi-sIx items.size 0 lo)).toArray.size≤sizeLine
  rw[Zg,Z8,List.length_drop,ZI]
  omega
 have hj:sIx items.size items.size hi≤items.size:=sIx_le _ _ (Zj _) hi
 obtain⟨os,hos,hcs,hds⟩:=id hs
 have hTs:s.TypeIs (.ref sl) "slice":=⟨os,hos,hcs⟩
 unfold getItem
 try with_reducible refine wpAny_holding ?_
 first|refine Zc (Zl ?_)|skip
 refine Zc (wpAny_sequenceKey ht.typeIs (by decide) ?_)
 refine Zc (wpAny_callSpecial?_slot (name:=Str.ofString "__getitem__") ht.typeIs PyProof.Rows.slot_tuple_getitem
  (wpAny_call_entry PyProof.Rows.slot_tuple_getitem ht.typeIs entry_tuple_getitem ?_ (args_tuple_getitem _ _)))
 show wpAny _ _ (Builtin.Tuple.tupleItemsOf (.ref t)>>=_) _ _ s
 refine Zc (tupleItemsOf_ ht ?_)
 refine Zc (wpAny_typeOf hTs ?_)
 rw[if_pos (by decide)]
 refine Zc (a2d' hs pl pu ?_)
 have hno:¬((((sIx items.size 0 lo:Nat):Int)==0&&(1:Int)==1&&(sIx items.size items.size hi-sIx items.size 0 lo)==items.size)=true):=by
  intro q
  rw[Zr,Zr]at q
  have q1:((sIx items.size 0 lo:Nat):Int)=0:=eq_of_beq q.1.1
  have q2:sIx items.size items.size hi-sIx items.size 0 lo=items.size:=eq_of_beq q.2
  exact hw ⟨by omega,by omega⟩
 show wpAny _ _ (if(((sIx items.size 0 lo:Nat):Int)==0&&(1:Int)==1&&(sIx items.size items.size hi-sIx items.size 0 lo)==items.size)=true then _ else _) _ _ s
 rw[if_neg hno,b4q']
 first
  |exact Zc (m:=Builtin.Tuple.tupleExact _) (wpAny_newObj_type (Zl ⟨_,rfl,Zl h⟩) htake)
  |exact Zc (m:=Builtin.Tuple.tupleExact _) (wpAny_newObj_type (Zc (Zl (Zl ⟨_,rfl,Zl h⟩))) htake)
  |exact Zc (Zc (m:=Builtin.Tuple.tupleExact _) (wpAny_newObj_type (Zl (Zl ⟨_,rfl,Zl h⟩)) htake))
  |exact Zc (Zc (m:=Builtin.Tuple.tupleExact _) (wpAny_newObj_type (Zl ⟨_,rfl,Zl h⟩) htake))
end
end HT
namespace L2
open PySem PySem.Spec PyProof.Rows
abbrev TO:=St→Hp→(Option Int→Hp→Prop)→Prop
def PO(X:Cx)(e:Option Expr)(t:TO):Prop:=
 ∀(pins:List (Addr×Obj)) (s:Shared) (σ:St) (H:Hp) (Q:Option Int→Hp→Prop),Inv X pins σ H s→t σ H Q→
  wpAny (model X.prog X.w) X.A (evalPart e X.env) (fun u s'=>∃o H',Inv X pins σ H' s'∧IsPart u o∧Q o H') X.xe s
def tNoPart:TO:=fun _ H Q=>Q none H
def tPart(t:TE):TO:=fun σ H Q=>t σ H fun x H1=>∃i,x=.int i∧Q (some i) H1
theorem a6E'{ns:List Int}:∀{us:List Value},Vals (ns.map V.int) us→IntsAre us ns:=by
 induction ns with
 |nil=>intro us r;rw[List.map_nil]at r;cases r;exact .nil
 |cons n ns ih=>
  intro us r
  rw[ZA]at r
  cases r with
  |cons r1 r2=>
   obtain⟨t,e⟩:=r1
   subst e
   exact .cons n t (ih r2)
section
variable {X:Cx}{e:Expr}{te:TE}{lo hi:Option Expr}{tl th:TO}{pos p2:Pos}
theorem po_none:PO X none tNoPart:=by
 intro pins s σ H Q I h
 rw[evalPart_none]
 exact Zl ⟨none,H,I,.none,h⟩
theorem po_some(h:PE X e te):PO X (some e) (tPart te):=by
 intro pins s σ H Q I hw
 rw[evalPart_some]
 refine thn (h pins s σ H _ I hw) fun u s1 ⟨x,H1,I1,r1,q1⟩=>?_
 obtain⟨i,rfl,q⟩:=q1
 obtain⟨t,rfl⟩:=r1
 exact⟨some i,H1,I1,.int i t,q⟩
def SlR(X:Cx)(r:V→Option Int→Option Int→Hp→VK→Prop):Prop:=
 ∀(pins:List (Addr×Obj)) (s:Shared) (σ:St) (H:Hp) (x:V) (v vl vu:Value) (lo hi:Option Int) (sl:Addr) (Q:VK),Inv X pins σ H s→RelV x v→s.heap.IsSliceOf sl vl vu .none→IsPart vl lo→IsPart vu hi→r x lo hi H Q→
  ∃T id,typeLookup (.type T) "__getitem__"=pure (some (.builtin id))∧s.TypeIs v T∧wpAny (model X.prog X.w) X.A (getItem v (.ref sl)) (EP X pins σ Q) X.xe s
def tSl(r:V→Option Int→Option Int→Hp→VK→Prop)(te:TE)(tl th:TO):TE:=fun σ H Q=>te σ H fun x H1=>tl σ H1 fun l H2=>th σ H2 fun u H3=>r x l u H3 Q
theorem b4r'{r:V→Option Int→Option Int→Hp→VK→Prop}(hr:SlR X r)(he:PE X e te)(hl:PO X lo tl)(hu:PO X hi th):PE X (.Subscript e (.Slice lo hi none p2) pos) (tSl r te tl th):=by
 intro pins s σ H Q I h
 refine Subscript_ (thn (he pins s σ H _ I h) fun v s1 ⟨x,H1,I1,r1,q1⟩=>?_)
 refine wpAny_Slice (thn (hl pins s1 σ H1 _ I1 q1) fun vl s2 ⟨l,H2,I2,pl,q2⟩=>thn (hu pins s2 σ H2 _ I2 q2) fun vu s3 ⟨u,H3,I3,pu,q3⟩=>?_)
 rw[evalPart_none]
 refine Zl ?_
 have I4:Inv X pins σ H3 {s3 with heap:=s3.heap.push {cls:=.type "slice",data:=.fields #[vl,vu,.none]}}:=I3.kept (t':=s3.toks) fun b ob q=>Zd _ q
 obtain⟨T,id,hT,ht,hg⟩:=hr pins {s3 with heap:=s3.heap.push {cls:=.type "slice",data:=.fields #[vl,vu,.none]}} σ H3 x v vl vu l u s3.heap.objs.size Q I4 r1 (Heap.IsSliceOf.new ..) pl pu q3
 show wpAny (model X.prog X.w) X.A (subscriptTail e (.Slice lo hi none p2) v (.ref s3.heap.objs.size)) (EP X pins σ Q) X.xe {s3 with heap:=s3.heap.push {cls:=.type "slice",data:=.fields #[vl,vu,.none]}}
 exact tail_any (ops:=[.ref s3.heap.objs.size,v]) ht hT hg (by with_unfolding_all rfl)
def cutV(xs:List V)(lo hi:Option Int):List V:=(xs.drop (HT.sIx xs.length 0 lo)).take (HT.sIx xs.length xs.length hi-HT.sIx xs.length 0 lo)
theorem a5o'(xs:List V)(lo hi:Option Int):(cutV xs lo hi).length≤xs.length:=by
 unfold cutV
 rw[Z8,List.length_drop]
 omega
def rSlT(K:PySem.W.Frag):V→Option Int→Option Int→Hp→VK→Prop:=fun x lo hi H Q=>∃a xs,x=.ref a∧SqT K H a xs∧
 ¬(HT.sIx xs.length 0 lo=0∧HT.sIx xs.length xs.length hi=xs.length)∧∀p,H p=none→Q (.ref p) (upd H p (.tup (cutV xs lo hi)))
theorem sl_tup:SlR X (rSlT X.K):=by
 intro pins s σ H x v vl vu lo hi sl Q I rx hs pl pu h
 obtain⟨a,xs,rfl,hx,hw,q⟩:=h
 cases rx
 obtain⟨its,r,ht,hz⟩:=I.tuple hx
 have hlen:its.toArray.size=xs.length:=by rw[Zg];exact r.length.symm
 refine⟨"tuple",_,PyProof.Rows.slot_tuple_getitem.lookup,ht.typeIs,?_⟩
 refine HT.a4m' ht hs pl pu (by rw[hlen];exact hw) ?_ (by rw[hlen];exact hz)
 rw[hlen]
 refine⟨.ref s.heap.objs.size,_,I.laid (t':=s.toks) (o:=.tup (cutV xs lo hi)) (fun b ob q=>Zd _ q) (Zj _) ?_,rfl,q _ (I.hok.fresh (Zj _))⟩
 exact⟨ZL (a5o' xs lo hi) hz,_,(r.drop (HT.sIx xs.length 0 lo)).take (HT.sIx xs.length xs.length hi-HT.sIx xs.length 0 lo),IsTup.new _ _,NoD.new _ _⟩
def rCatT(K:PySem.W.Frag):R2:=fun x y H Q=>∃a b xs ys,x=.ref a∧y=.ref b∧SqT K H a xs∧SqT K H b ys∧xs≠[]∧xs.length+ys.length≤sizeLine∧
 (ys=[]→Q (.ref a) H)∧(ys≠[]→∀p,H p=none→Q (.ref p) (upd H p (.tup (xs++ys))))
theorem Vals.nil_iff{xs:List V}{us:List Value}(r:Vals xs us):us=[]↔xs=[]:=by
 cases r with
 |nil=>simp
 |cons _ _=>simp
theorem op_catT:OpR X (binaryOp .Add) (rCatT X.K):=by
 intro pins s σ H x y v u Q I rx ry h
 obtain⟨a,b,xs,ys,rfl,rfl,ha,hb,hx,hz,q1,q2⟩:=h
 cases rx
 cases ry
 obtain⟨its,r1,p1,_⟩:=I.tuple ha
 obtain⟨its2,r2,p2,_⟩:=I.tuple hb
 refine HT.cat_tup p1 p2 (fun z=>hx (r1.nil_iff.mp z)) (fun z=>⟨.ref a,H,I,rfl,q1 (r2.nil_iff.mp z)⟩) (fun z=>?_) (by rw[←r1.length,←r2.length];exact hz)
 refine⟨.ref s.heap.objs.size,_,I.laid (t':=s.toks) (o:=.tup (xs++ys)) (fun b ob q=>Zd _ q) (Zj _) ?_,rfl,q2 (fun w=>z (r2.nil_iff.mpr w)) _ (I.hok.fresh (Zj _))⟩
 exact⟨by rw[Zm];exact hz,_,r1.append r2,IsTup.new _ _,NoD.new _ _⟩
end
end L2
namespace L2
open PySem PySem.Spec PyProof.Rows
def ixN(n:Nat)(i:Int):Option Nat:=if 0≤i then(if i<n then some i.toNat else none)else if-(n:Int)≤i then some (i+n).toNat else none
def atI{α:Type}(xs:List α)(i:Int):Option α:=(ixN xs.length i).bind fun j=>xs[j]?
theorem b0r'{n:Nat}{i:Int}{j:Nat}(h:ixN n i=some j):seqIndex? i n=some j∧j<n∧-(n:Int)≤i∧i<n:=by
 unfold ixN at h
 by_cases h0:0≤i
 ·rw[if_pos h0]at h
  by_cases h1:i<n
  ·rw[if_pos h1]at h
   have e:i.toNat=j:=Z2 h
   exact⟨by rw[seqIndex_of h0 h1,e],by omega,by omega,h1⟩
  ·rw[if_neg h1]at h;cases h
 ·rw[if_neg h0]at h
  by_cases h1: -(n:Int)≤i
  ·rw[if_pos h1]at h
   have e:(i+n).toNat=j:=Z2 h
   exact⟨by rw[seqIndex_neg (by omega) h1,e],by omega,h1,by omega⟩
  ·rw[if_neg h1]at h;cases h
theorem b3v'{α:Type}{xs:List α}{i:Int}{v:α}(h:atI xs i=some v):∃j,seqIndex? i xs.length=some j∧xs[j]?=some v∧j<xs.length∧-(xs.length:Int)≤i∧i<xs.length:=by
 unfold atI at h
 cases e:ixN xs.length i with
 |none=>rw[e]at h;cases h
 |some j=>
  rw[e]at h
  obtain⟨h1,h2,h3,h4⟩:=b0r' e
  exact⟨j,h1,h,h2,h3,h4⟩
def b3w'(b:Expr):Prop:=∀o i,subscripted b false o i=operate [o,i] (getItem o i)
def IxR(X:Cx)(r:R2):Prop:=
 ∀(value slice:Expr) (pins:List (Addr×Obj)) (s:Shared) (σ:St) (H:Hp) (x y:V) (v u:Value) (Q:VK),Inv X pins σ H s→RelV x v→RelV y u→r x y H Q→
  subscripted slice false v u=operate [v,u] (getItem v u)→wpAny (model X.prog X.w) X.A (subscriptTail value slice v u) (EP X pins σ Q) X.xe s
def MtR(X:Cx)(id:String)(r:V→List V→Hp→VK→Prop):Prop:=
 ∀(pins:List (Addr×Obj)) (s:Shared) (σ:St) (H:Hp) (x:V) (xs:List V) (v:Value) (us:List Value) (Q:VK),Inv X pins σ H s→RelV x v→Vals xs us→r x xs H Q→
  wpAny (model X.prog X.w) X.A (call (.builtin id) (v::us)) (EP X pins σ Q) X.xe s
section
variable {X:Cx}{a b:Expr}{ta tb:TE}{pos:Pos}
theorem pe_ix{r:R2}(hr:IxR X r)(ha:PE X a ta)(hb:PE X b tb)(hs:b3w' b):PE X (.Subscript a b pos) (tOp r ta tb):=by
 intro pins s σ H Q I h
 exact Subscript_ (binT ha hb I h fun v u s2 x y H2 I2 rx ry q=>hr a b pins s2 σ H2 x y v u Q I2 rx ry q (hs _ _))
def rIxL(K:PySem.W.Frag):R2:=fun x y H Q=>∃p xs i v,x=.ref p∧y=.int i∧SqL K H p xs∧atI xs i=some v∧Q v H
def rIxT(K:PySem.W.Frag):R2:=fun x y H Q=>∃p xs i v,x=.ref p∧y=.int i∧SqT K H p xs∧atI xs i=some v∧Q v H
theorem ix_list:IxR X (rIxL X.K):=by
 intro value slice pins s σ H x y v u Q I rx ry h hs
 obtain⟨p,xs,i,z,rfl,rfl,hq,he,q⟩:=h
 cases rx
 obtain⟨t,rfl⟩:=ry
 obtain⟨its,r,pl,hz⟩:=I.list hq
 obtain⟨j,h1,h2,h3,h4,h5⟩:=b3v' he
 obtain⟨w,ew,rw'⟩:=r.get h2
 have hl:=r.length
 have hn:=a9y'
 have fin:EP X pins σ Q w s:=⟨z,H,I,rw',q⟩
 by_cases h0:0≤i
 ·have hj:i.toNat=j:=by
   rw[seqIndex_of h0 h5]at h1
   exact Z2 h1
  exact item_listR pl.isList h0 (by omega) (by rw[hj];simpa using ew) fin hs
 ·have hj:(i+(its.toArray.size:Int)).toNat=j:=by
   rw[seqIndex_neg (by omega) h4]at h1
   rw[Zg,←hl]
   exact Z2 h1
  exact subscriptTail_builtinR (x:=w) pl.isList.typeIs slot_list_getitem.lookup
   (wpAny_getItem_list_neg (Q:=fun r s'=>r=w∧EP X pins σ Q r s') pl.isList (by omega) (by rw[Zg]<;>omega) (by omega) (by rw[hj];simpa using ew) ⟨rfl,fin⟩) hs
theorem ix_tup:IxR X (rIxT X.K):=by
 intro value slice pins s σ H x y v u Q I rx ry h hs
 obtain⟨p,xs,i,z,rfl,rfl,hq,he,q⟩:=h
 cases rx
 obtain⟨t,rfl⟩:=ry
 obtain⟨its,r,pl,hz⟩:=I.tuple hq
 obtain⟨j,h1,h2,h3,h4,h5⟩:=b3v' he
 obtain⟨w,ew,rw'⟩:=r.get h2
 have hl:=r.length
 have hn:=a9y'
 have fin:EP X pins σ Q w s:=⟨z,H,I,rw',q⟩
 exact subscriptTail_builtinR (x:=w) pl.typeIs slot_tuple_getitem.lookup
  (getItem_tuple (j:=j) (Q:=fun r s'=>r=w∧EP X pins σ Q r s') pl (by omega) (by omega) (by rw[Zg,←hl];exact h1) (by simpa using ew) ⟨rfl,fin⟩) hs
theorem b0s'(its:List Value)(n j:Nat)(u:Value):Obj.mapSeq (·.setIfInBounds j u) {cls:=.type "list",data:=.seq its.toArray n}={cls:=.type "list",data:=.seq (its.set j u).toArray n}:=by
 simp[Obj.mapSeq]
theorem Inv.lst{pins:List (Addr×Obj)}{σ:St}{H:Hp}{s:Shared}{p:Addr}{xs:List V}(I:Inv X pins σ H s)(h:H p=some (.lst xs)):
  ∃(its:List Value) (n:Nat),Vals xs its∧s.heap.get? p=some {cls:=.type "list",data:=.seq its.toArray n}∧xs.length≤sizeLine:=by
 obtain⟨z,its,n,r,e⟩:=I.hok p _ h
 exact⟨its,n,r,e,z⟩
theorem Inv.lstUpd{pins:List (Addr×Obj)}{σ:St}{H:Hp}{s:Shared}{p:Addr}{xs ys:List V}{its its':List Value}{n n':Nat}{f:Obj→Obj}(I:Inv X pins σ H s)(h:H p=some (.lst xs))
  (ho:s.heap.get? p=some {cls:=.type "list",data:=.seq its.toArray n}) (hf:f {cls:=.type "list",data:=.seq its.toArray n}={cls:=.type "list",data:=.seq its'.toArray n'}) (r:Vals ys its') (hz:ys.length≤sizeLine) (t:Nat):
  Inv X pins σ (upd H p (.lst ys)) {s with heap:=s.heap.update p f,toks:=t}:=by
 have e:(s.heap.update p f).get? p=some {cls:=.type "list",data:=.seq its'.toArray n'}:=by
  rw[Heap.get?_update_self f ho (by rw[hf]<;>rfl),hf]
 refine I.write (x:=p) (e:=p) (by rw[h];trivial) (.inl rfl) (fun b u hb q=>(Heap.get?_update_other _ _ (Ne.symm hb)).trans q) ⟨_,e⟩ ?_
 exact⟨hz,its',n',r,e⟩
def rSetL:V→V→V→Hp→(Hp→Prop)→Prop:=fun o i v H Q=>∃p xs k j,o=.ref p∧i=.int k∧H p=some (.lst xs)∧ixN xs.length k=some j∧Q (upd H p (.lst (xs.set j v)))
theorem b4s':PSet X rSetL:=by
 intro pins s σ H o i v ov iv u Q I ro ri rv h
 obtain⟨p,xs,k,j,rfl,rfl,hp,hj,q⟩:=h
 cases ro
 obtain⟨t,rfl⟩:=ri
 obtain⟨its,n,r,ho,hz⟩:=I.lst hp
 obtain⟨h1,h2,h3,h4⟩:=b0r' hj
 have hl:=r.length
 have hn:=a9y'
 have I':Inv X pins σ (upd H p (.lst (xs.set j v))) {s with heap:=s.heap.update p (Obj.mapSeq (·.setIfInBounds j u))}:=
  I.lstUpd hp ho (b0s' its n j u) (r.set rv j) (by rw[List.length_set];exact hz) s.toks
 by_cases h0:0≤k
 ·have hk:k.toNat=j:=by
   rw[seqIndex_of h0 h4]at h1
   exact Z2 h1
  exact PySem.W.ki_setAt ho h0 (by omega) (by rw[Zg,←hl];exact h4) (by rw[hk];exact⟨_,I',q⟩)
 ·have hk:(k+(its.toArray.size:Int)).toNat=j:=by
   rw[seqIndex_neg (by omega) h3]at h1
   rw[Zg,←hl]
   exact Z2 h1
  exact PySem.W.ki_setBack ho (by omega) (by rw[Zg,←hl];exact h3) (by omega) (by rw[hk];exact⟨_,I',q⟩)
theorem a7O'(lo hi:Option Int)(n:Nat):(sliceBounds lo hi none n).1=((HT.sIx n 0 lo:Nat):Int)∧(sliceBounds lo hi none n).2.1=((HT.sIx n n hi:Nat):Int)∧(sliceBounds lo hi none n).2.2=1:=by
 refine⟨?_,?_,rfl⟩
 ·cases lo with
  |none=>simp[sliceBounds,HT.sIx]
  |some i=>
   simp only[sliceBounds,HT.sIx,Option.getD_none,show(1:Int)>0 by decide,if_true]
   by_cases h:i<0
   ·simp only[h,if_true]<;>omega
   ·simp only[h,Z4]<;>omega
 ·cases hi with
  |none=>simp[sliceBounds,HT.sIx]
  |some i=>
   simp only[sliceBounds,HT.sIx,Option.getD_none,show(1:Int)>0 by decide,if_true]
   by_cases h:i<0
   ·simp only[h,if_true]<;>omega
   ·simp only[h,Z4]<;>omega
theorem a6F'(its:List Value)(lo hi:Option Int):slicePick its.toArray lo hi none=((its.drop (HT.sIx its.length 0 lo)).take (HT.sIx its.length its.length hi-HT.sIx its.length 0 lo)).toArray:=by
 obtain⟨h1,h2,h3⟩:=a7O' lo hi its.toArray.size
 unfold slicePick
 rw[h1,h2,h3]
 simp only[sliceRange_one,pick_run,Zg]<;>rfl
def rSlL(K:PySem.W.Frag):V→Option Int→Option Int→Hp→VK→Prop:=fun x lo hi H Q=>∃a xs,x=.ref a∧SqL K H a xs∧∀p,H p=none→Q (.ref p) (upd H p (.lst (cutV xs lo hi)))
theorem sl_list:SlR X (rSlL X.K):=by
 intro pins s σ H x v vl vu lo hi sl Q I rx hs pl pu h
 obtain⟨a,xs,rfl,hx,q⟩:=h
 cases rx
 obtain⟨its,r,ht,hz⟩:=I.list hx
 have hlen:=r.length
 refine⟨"list",_,slot_list_getitem.lookup,ht.isList.typeIs,?_⟩
 refine wpAny_getItem_list_slice ht.isList hs pl pu .none (by simp) ?_ (by rw[Zg]<;>omega)
 rw[a6F',←hlen]
 refine⟨.ref s.heap.objs.size,_,I.laid (t':=s.toks) (o:=.lst (cutV xs lo hi)) (fun b ob q=>Zd _ q) (Zj _) ?_,rfl,q _ (I.hok.fresh (Zj _))⟩
 exact⟨ZL (a5o' xs lo hi) hz,_,0,(r.drop (HT.sIx xs.length 0 lo)).take (HT.sIx xs.length xs.length hi-HT.sIx xs.length 0 lo),Zt _ rfl⟩
theorem a7P':CallR X (.builtin "len") (fun xs H Q=>∃p ys,xs=[.ref p]∧(SqL X.K H p ys∨SqT X.K H p ys)∧Q (.int ys.length) H):=by
 intro pins s σ H xs us Q I r h
 obtain⟨p,ys,rfl,hq,q⟩:=h
 obtain⟨u,rfl,rx⟩:=vals1 r
 cases rx
 have hn:=a9y'
 rcases hq with hq|hq
 ·obtain⟨its,r',pl,hz⟩:=I.list hq
  have hlen:=r'.length
  exact Calls.call_len_list pl.isList (by simp only[Zg]<;>omega) ⟨.int ys.length,H,I.tok _,⟨s.toks+1,by rw[Zg,hlen]⟩,q⟩
 ·obtain⟨its,r',pl,hz⟩:=I.tuple hq
  have hlen:=r'.length
  exact len_tuple pl (by simp only[Zg]<;>omega) ⟨.int ys.length,H,I.tok _,⟨s.toks+1,by rw[Zg,hlen]⟩,q⟩
theorem a7Q':CallR X (.builtin "len") (fun xs H Q=>∃z,xs=[.str z]∧z.length≤sizeLine∧Q (.int z.length) H):=by
 intro pins s σ H xs us Q I r h
 obtain⟨z,rfl,hz,q⟩:=h
 obtain⟨u,rfl,t,rfl⟩:=vals1 r
 have hn:=a9y'
 exact len_str (by omega) ⟨.int z.length,H,I.tok _,⟨_,rfl⟩,q⟩
theorem a7R':CallR X (.type "list") (fun xs H Q=>∃p ys,xs=[.ref p]∧(SqL X.K H p ys∨SqT X.K H p ys)∧∀l,H l=none→Q (.ref l) (upd H l (.lst ys))):=by
 intro pins s σ H xs us Q I r h
 obtain⟨p,ys,rfl,hq,q⟩:=h
 obtain⟨u,rfl,rx⟩:=vals1 r
 cases rx
 have fin:∀(its:List Value),Vals ys its→ys.length≤sizeLine→∀(h':Heap) (c':Nat),(∀b o',s.heap.get? b=some o'→h'.get? b=some o')→
   h'.get? s.heap.objs.size=some {cls:=.type "list",dict:=none,data:=.seq its.toArray c',slots:= #[]}→EP X pins σ Q (.ref s.heap.objs.size) {s with heap:=h'}:=fun its r' hz h' c' kp e=>
  ⟨.ref s.heap.objs.size,_,I.laid (t':=s.toks) kp (Zj _) (show ObjOk X.prog X.w _ h' _ (.lst ys)from⟨hz,its,c',r',e⟩),rfl,q _ (I.hok.fresh (Zj _))⟩
 rcases hq with hq|hq
 ·obtain⟨its,r',pl,hz⟩:=I.list hq
  have hlen:=r'.length
  obtain⟨o,ho,hc,n,hd⟩:=pl.isList
  exact call_list_seq p (.inl rfl) ho hc hd (fun h' c' kp e=>fin its r' hz h' c' kp e) (by simp only[Zg]<;>omega)
 ·obtain⟨its,r',pl,hz⟩:=I.tuple hq
  have hlen:=r'.length
  obtain⟨o,ho,hc,n,hd⟩:=pl
  exact call_list_seq p (.inr rfl) ho hc hd (fun h' c' kp e=>fin its r' hz h' c' kp e) (by simp only[Zg]<;>omega)
theorem a4b':CallR X (.type "tuple") (fun xs H Q=>∃p ys,xs=[.ref p]∧((SqL X.K H p ys∧∀l,H l=none→Q (.ref l) (upd H l (.tup ys)))∨(SqT X.K H p ys∧Q (.ref p) H))):=by
 intro pins s σ H xs us Q I r h
 obtain⟨p,ys,rfl,h⟩:=h
 obtain⟨u,rfl,rx⟩:=vals1 r
 cases rx
 rcases h with⟨hq,q⟩| ⟨hq,q⟩
 ·obtain⟨its,r',pl,hz⟩:=I.list hq
  have hlen:=r'.length
  refine call_tuple_list pl.isList (fun h' kp=>?_) (by simp only[Zg]<;>omega)
  have I1:Inv X pins σ H {s with heap:=h'}:=I.kept (t':=s.toks) kp
  have I2:Inv X pins σ (upd H h'.objs.size (.tup ys)) {s with heap:=h'.push {cls:=.type "tuple",data:=.seq its.toArray}}:=
   I1.laid (t':=s.toks) (fun b o e=>Zd _ e) (Zj _) (show ObjOk X.prog X.w _ _ _ (.tup ys)from⟨hz,its,r',IsTup.new _ _,NoD.new _ _⟩)
  exact⟨.ref h'.objs.size,_,I2,rfl,q _ (I1.hok.fresh (Zj _))⟩
 ·obtain⟨its,r',pl,hz⟩:=I.tuple hq
  exact call_tuple_same pl ⟨.ref p,H,I,rfl,q⟩
def tyV(K:PySem.W.Frag)(T:String)(x:V)(H:Hp):Prop:=match x with
 | .str _=>T="str"
 | .int _=>T="int"
 | .ref p=>(T="list"∧∃xs,SqL K H p xs)∨(T="tuple"∧∃o,K.lookup p=some o∧o.cls=.type "tuple"∧o.dict=none)∨
   (T="dict"∧((∃kvs,H p=some (.dK kvs))∨∃kvs,H p=some (.dT kvs)))∨(T="set"∧∃S n,H p=some (.set S n))
 |_=>False
theorem tyV_is{pins:List (Addr×Obj)}{σ:St}{H:Hp}{s:Shared}{T:String}{x:V}{v:Value}(I:Inv X pins σ H s)(r:RelV x v)(ty:tyV X.K T x H):
  s.TypeIs v T∧∀a,v=.ref a→∃ob,s.heap.get? a=some ob∧ob.dict=none:=by
 cases x with
 |str z=>
  obtain⟨t,rfl⟩:=r
  cases(show T="str" from ty)
  exact⟨typeIs_str s z t,fun _ e=>nomatch e⟩
 |int i=>
  obtain⟨t,rfl⟩:=r
  cases(show T="int" from ty)
  exact⟨typeIs_int s i t,fun _ e=>nomatch e⟩
 |ref p=>
  cases r
  rcases ty with⟨rfl,xs,hq⟩| ⟨rfl,o,hk,hc,hd⟩| ⟨rfl,hk⟩| ⟨rfl,S,n,hk⟩
  ·obtain⟨its,_,pl,_⟩:=I.list hq
   refine⟨pl.isList.typeIs,fun a e=>?_⟩
   cases e
   obtain⟨o,n,e,c,hd,_⟩:=pl
   exact⟨o,e,hd⟩
  ·refine⟨⟨o,I.kIn p o hk,hc⟩,fun a e=>?_⟩
   cases e
   exact⟨o,I.kIn _ o hk,hd⟩
  ·have z:∃o,s.heap.get? p=some o∧o.ExactDict:=by
    rcases hk with⟨kvs,hk⟩| ⟨kvs,hk⟩
    ·obtain⟨_,_,_,_,o,_,_,e,ex,_⟩:=I.hok p _ hk
     exact⟨o,e,ex⟩
    ·obtain⟨_,_,_,_,o,_,_,e,ex,_⟩:=I.hok p _ hk
     exact⟨o,e,ex⟩
   obtain⟨o,e,ex⟩:=z
   refine⟨⟨o,e,ex.1⟩,fun a e2=>?_⟩
   cases e2
   exact⟨o,e,ex.2.1⟩
  ·obtain⟨o,_,_,_,e,ex,_⟩:=I.hok p _ hk
   refine⟨⟨o,e,ex.1⟩,fun a e2=>?_⟩
   cases e2
   exact⟨o,e,ex.2.1⟩
 |_=>exact False.elim ty
def tBM0(K:PySem.W.Frag)(T:String)(r:V→List V→Hp→VK→Prop)(to:TE):TE:=fun σ H Q=>to σ H fun x H1=>tyV K T x H1∧r x [] H1 Q
def tBM(K:PySem.W.Frag)(T:String)(r:V→List V→Hp→VK→Prop)(to:TE)(t:TA):TE:=fun σ H Q=>to σ H fun x H1=>tyV K T x H1∧t σ H1 fun xs H2=>r x xs H2 Q
variable {o e:Expr}{es:List Expr}{to:TE}{t:TA}{name:Str}{apos cpos:Pos}{T id:String}{r:V→List V→Hp→VK→Prop}
theorem pe_bm0(pa:PlainAttrs T)(slot:Slot T name id)(hty:typeOf (.builtin id)=pure (.type "method_descriptor"))(hm:MtR X id r)(ho:PE X o to)
  (hbase:attributeBase o name X.env (eval o X.env)=eval o X.env:=by rfl) (hline:(apos.endLine==cpos.line)=true:=by rfl):PE X (.Call (.Attribute o name apos) [] [] cpos) (tBM0 X.K T r to):=by
 intro pins s σ H Q I h
 refine wpAny_Call_method0_late hbase hline (thn (ho pins s σ H _ I h) fun v s1 ⟨x,H1,I1,r1,ty,q1⟩=>?_)
 obtain⟨h1,h2⟩:=tyV_is I1 r1 ty
 exact⟨T,id,pa,slot,hty,h1,h2,Calls.callWith_builtin rfl (PySem.evalArgs_none (hm pins s1 σ H1 x [] v [] Q I1 r1 .nil q1))⟩
theorem pe_bm(pa:PlainAttrs T)(slot:Slot T name id)(hty:typeOf (.builtin id)=pure (.type "method_descriptor"))(hm:MtR X id r)(ho:PE X o to)(ha:PA X (e::es) t)
  (hbase:attributeBase o name X.env (eval o X.env)=eval o X.env:=by rfl)
  (hfew:((backTo cpos (starEach (e::es) X.env)).all (fun x=> !x.1)&&(backToKw cpos (keywordEach [] X.env)).all (fun x=>x.1.isSome)
   &&decide ((e::es).length+([]:List Keyword).length+(if([]:List Keyword).isEmpty then 0 else 1)<30))=true:=by rfl)
  (hline:(apos.endLine==cpos.line)=true:=by rfl) (hs:starEach (e::es) X.env=(false,eval e X.env)::starEach es X.env:=by rfl) (hplain:(backTo cpos (starEach es X.env)).any (·.1)=false:=by rfl):
  PE X (.Call (.Attribute o name apos) (e::es) [] cpos) (tBM X.K T r to t):=by
 intro pins s σ H Q I h
 refine wpAny_Call_method_late hbase hfew hline rfl (thn (ho pins s σ H _ I h) fun v s1 ⟨x,H1,I1,r1,ty,q1⟩=>?_)
 obtain⟨h1,h2⟩:=tyV_is I1 r1 ty
 refine⟨T,id,pa,slot,hty,h1,h2,?_⟩
 have hA:=ha cpos pins s1 σ H1 _ I1 q1
 rw[hs]at hA⊢
 refine Calls.callWith_builtin (by show(false||(backTo cpos (starEach es X.env)).any (·.1))=false;rw[hplain]<;>rfl) (Calls.evalArgs_plain ?_)
 exact thn hA fun us s2 ⟨vs,H2,I2,r2,q2⟩=>hm pins s2 σ H2 x vs v us Q I2 r1 r2 q2
end
end L2
namespace L2
open PySem PySem.Spec PyProof.Rows
def MtM(X:Cx)(id:String)(r:V→List V→Hp→VK→Prop):Prop:=
 ∀(pins:List (Addr×Obj)) (s:Shared) (σ:St) (H:Hp) (x:V) (xs:List V) (v:Value) (us:List Value) (Q:VK),Inv X pins σ H s→RelV x v→Vals xs us→r x xs H Q→
  wpAny (model X.prog X.w) X.A (call (.builtin id) (v::us)) (EP X pins σ Q) X.xe s
theorem Vals.un{x:V}{xs:List V}{us:List Value}(h:Vals (x::xs) us):∃u r,us=u::r∧RelV x u∧Vals xs r:=by
 cases h with
 |cons r t=>exact⟨_,_,rfl,r,t⟩
theorem Vals.nul{us:List Value}(h:Vals [] us):us=[]:=by
 cases h
 rfl
theorem Vals.one{x:V}{us:List Value}(h:Vals [x] us):∃u,us=[u]∧RelV x u:=by
 obtain⟨u,r,rfl,h1,h2⟩:=h.un
 cases h2.nul
 exact⟨u,rfl,h1⟩
theorem Vals.two{x y:V}{us:List Value}(h:Vals [x,y] us):∃u v,us=[u,v]∧RelV x u∧RelV y v:=by
 obtain⟨u,r,rfl,h1,h2⟩:=h.un
 obtain⟨v,rfl,h3⟩:=h2.one
 exact⟨u,v,rfl,h1,h3⟩
theorem Vals.zero:∀{us:List Value},Vals [] us→us=[]
 |_,.nil=>rfl
theorem Vals.dropLast{xs:List V}{us:List Value}(h:Vals xs us):Vals xs.dropLast us.dropLast:=by
 induction h with
 |nil=>exact .nil
 |cons r t ih=>
  cases t with
  |nil=>exact .nil
  |cons q t'=>exact .cons r ih
theorem Vals.eraseIdx:∀{xs:List V} {us:List Value} (i:Nat),Vals xs us→Vals (xs.eraseIdx i) (us.eraseIdx i)
 |_,_,_,.nil=>.nil
 |_,_,0,.cons _ t=>t
 |_,_,i+1,.cons r t=>.cons r (Vals.eraseIdx i t)
theorem Vals.rep{xs:List V}{us:List Value}(h:Vals xs us):∀k:Nat,Vals (List.replicate k xs).flatten (List.replicate k us).flatten
 |0=>.nil
 |k+1=>by
  rw[List.replicate_succ,List.replicate_succ,List.flatten_cons,List.flatten_cons]
  exact Vals.append h (Vals.rep h k)
theorem b0t'{α:Type}(l:List α):l.eraseIdx (l.length-1)=l.dropLast:=by
 induction l with
 |nil=>rfl
 |cons a r ih=>
  cases r with
  |nil=>rfl
  |cons b r=>
   have e:(a::b::r).length-1=((b::r).length-1)+1:=by
    have h1:(a::b::r).length=r.length+2:=rfl
    have h2:(b::r).length=r.length+1:=rfl
    omega
   rw[e,List.eraseIdx_cons_succ,ih]
   all_goals rfl
theorem a8C'{α:Type}:∀(l:List α) (i:Nat),(l.eraseIdx i).length≤l.length
 | [],_=>Zj _
 |_::_,0=>Nat.le_succ _
 |_::r,i+1=>Nat.succ_le_succ (a8C' r i)
theorem a8D'(its:List Value):∀(k:Nat) (acc:List Value),
  List.foldl (fun x1 x2=>x1++x2) acc.toArray (List.replicate k its.toArray)=(acc++(List.replicate k its).flatten).toArray
 |0,acc=>by simp
 |k+1,acc=>by
  have e:acc.toArray++its.toArray=(acc++its).toArray:=by simp
  have e2:(acc++its)++(List.replicate k its).flatten=acc++(List.replicate (k+1) its).flatten:=by
   rw[List.replicate_succ,List.flatten_cons,Zu]
  rw[←e2,←a8D' its k (acc++its),←e,List.replicate_succ,List.foldl_cons]
section
variable {X:Cx}{pins:List (Addr×Obj)}{σ:St}{H:Hp}{s:Shared}{l b:Addr}{xs ys zs:List V}
theorem Inv.lset{its its':List Value}{n:Nat}{f:Array Value→Array Value}{t':Nat}(I:Inv X pins σ H s)(hH:H l=some (.lst xs))
  (e:s.heap.get? l=some {cls:=.type "list",data:=.seq its.toArray n}) (hf:f its.toArray=its'.toArray) (hv:Vals ys its') (hz:ys.length≤sizeLine):
  Inv X pins σ (upd H l (.lst ys)) {s with heap:=s.heap.update l (Obj.mapSeq f),toks:=t'}:=by
 have q:=PySem.IsL.update e f
 rw[hf]at q
 refine I.write (x:=l) (e:=l) (by rw[hH];exact trivial) (.inl rfl) (fun b' u hb hu=>(Heap.get?_update_other s.heap (Obj.mapSeq f) (Ne.symm hb)).trans hu) ⟨_,q⟩ ?_
 exact⟨hz,its',_,hv,q⟩
theorem Inv.lnew{its:List Value}{t':Nat}(I:Inv X pins σ H s)(hv:Vals ys its)(hz:ys.length≤sizeLine):
  Inv X pins σ (upd H s.heap.objs.size (.lst ys)) {s with heap:=s.heap.push {cls:=.type "list",data:=.seq its.toArray},toks:=t'}:=
 I.laid (fun _ _ q=>Zd _ q) (Zj _) ⟨hz,its,0,hv,Zt _ rfl⟩
theorem Inv.fresh(I:Inv X pins σ H s):H s.heap.objs.size=none:=I.hok.fresh (Zj _)
theorem Inv.lstM(I:Inv X pins σ H s)(hH:H l=some (.lst xs)):xs.length≤sizeLine∧∃(its:List Value) (n:Nat),Vals xs its∧xs.length=its.length∧s.heap.get? l=some {cls:=.type "list",data:=.seq its.toArray n}:=by
 obtain⟨z,its,n,r,e⟩:=I.hok l _ hH
 exact⟨z,its,n,r,r.length,e⟩
theorem b0u'{n:Nat}(h:n≤sizeLine):Builtin.List.listTooLong n=false:=by
 unfold Builtin.List.listTooLong
 exact Zz (by omega)
end
section
variable {X:Cx}
def rAppend:V→List V→Hp→VK→Prop:=fun x vs H Q=>∃l xs y,x=.ref l∧vs=[y]∧H l=some (.lst xs)∧xs.length<sizeLine∧Q .non (upd H l (.lst (xs++[y])))
theorem a8E':MtM X "list.append" rAppend:=by
 intro pins s σ H x vs v us Q I rx rv h
 obtain⟨l,xs,y,rfl,rfl,hH,hz,q⟩:=h
 cases rx
 obtain⟨u,rfl,ru⟩:=rv.one
 obtain⟨z,its,n,r,hl,e⟩:=I.lstM hH
 refine call_meets F.slot_list_append ⟨_,e,rfl⟩ F.entry_list_append (F.args_list_append_2 _ _) (PySem.list_append l its.toArray n u (by rw[Zg];omega)) ⟨e,?_⟩
 refine⟨.non,_,I.lset (its':=its++[u]) hH e (by simp) (r.append (.cons ru .nil)) ?_,rfl,q⟩
 rw[Zm,List.length_singleton]
 omega
def rPop:V→List V→Hp→VK→Prop:=fun x vs H Q=>∃l xs y,x=.ref l∧vs=[]∧H l=some (.lst xs)∧xs[xs.length-1]?=some y∧Q y (upd H l (.lst xs.dropLast))
theorem mt_pop:MtM X "list.pop" rPop:=by
 intro pins s σ H x vs v us Q I rx rv h
 obtain⟨l,xs,y,rfl,rfl,hH,hy,q⟩:=h
 cases rx
 have hus:=rv.zero
 subst hus
 obtain⟨z,its,n,r,hl,e⟩:=I.lstM hH
 obtain⟨u,hu,ru⟩:=r.get hy
 have hy':its.toArray[its.toArray.size-1]?=some u:=by
  show its.toArray[its.length-1]?=some u
  rw[←ZT,←hl]
  exact hu
 refine call_meets F.slot_list_pop ⟨_,e,rfl⟩ F.entry_list_pop (F.args_list_pop_1 _) (MeetsSeq.list_pop_last l its.toArray n u hy' (by rw[Zg];omega)) ⟨e,?_⟩
 refine⟨y,_,I.lset (its':=its.dropLast) hH e ?_ r.dropLast ?_,ru,q⟩
 ·show its.toArray.eraseIdxIfInBounds (its.toArray.size-1)=its.dropLast.toArray
  rw[Zg,List.eraseIdxIfInBounds_toArray,b0t']
 ·rw[List.length_dropLast]
  omega
def rPopAt:V→List V→Hp→VK→Prop:=fun x vs H Q=>∃l xs i k y,x=.ref l∧vs=[.int i]∧H l=some (.lst xs)∧-(2^63)≤i∧i<2^63∧seqIndex? i xs.length=some k∧xs[k]?=some y∧Q y (upd H l (.lst (xs.eraseIdx k)))
theorem b4t':MtM X "list.pop" rPopAt:=by
 intro pins s σ H x vs v us Q I rx rv h
 obtain⟨l,xs,i,k,y,rfl,rfl,hH,h1,h2,hk,hy,q⟩:=h
 cases rx
 obtain⟨u,rfl,ru⟩:=rv.one
 obtain⟨t,rfl⟩:=ru
 obtain⟨z,its,n,r,hl,e⟩:=I.lstM hH
 obtain⟨w,hw,rw'⟩:=r.get hy
 refine call_meets F.slot_list_pop ⟨_,e,rfl⟩ F.entry_list_pop (F.args_list_pop_2 _ _)
  (MeetsSeq.list_pop_at l its.toArray n i t k w (fitsIndex_both h1 h2) (by rw[Zg,←hl];exact hk) (by rw[←ZT];exact hw) (by rw[Zg];omega)) ⟨e,?_⟩
 refine⟨y,_,I.lset (its':=its.eraseIdx k) hH e ?_ (r.eraseIdx k) ?_,rw',q⟩
 ·show its.toArray.eraseIdxIfInBounds k=(its.eraseIdx k).toArray
  rw[List.eraseIdxIfInBounds_toArray]
 ·have:=a8C' xs k
  omega
def rCat:R2:=fun x y H Q=>∃l b xs zs,x=.ref l∧y=.ref b∧H l=some (.lst xs)∧H b=some (.lst zs)∧xs.length+zs.length≤sizeLine∧∀p,H p=none→Q (.ref p) (upd H p (.lst (xs++zs)))
theorem op_cat:OpR X (binaryOp .Add) rCat:=by
 intro pins s σ H x y v u Q I rx ry h
 obtain⟨l,b,xs,zs,rfl,rfl,hH,hB,hz,q⟩:=h
 cases rx
 cases ry
 obtain⟨z,its,n,r,hl,e⟩:=I.lstM hH
 obtain⟨z2,its2,n2,r2,hl2,e2⟩:=I.lstM hB
 refine PySem.P.add_list e e2 ?_ (by rw[Zg,Zg];omega)
 have ea:its.toArray++its2.toArray=(its++its2).toArray:=by simp
 rw[ea]
 exact⟨.ref _,_,I.lnew (t':=s.toks) (r.append r2) (by rw[Zm];omega),rfl,q _ I.fresh⟩
def rRep:R2:=fun x y H Q=>∃l k xs,x=.ref l∧y=.int k∧H l=some (.lst xs)∧-(2^63)≤k∧k<2^63∧xs.length*k.toNat≤sizeLine∧
 ∀p,H p=none→Q (.ref p) (upd H p (.lst (List.replicate k.toNat xs).flatten))
theorem len_rep{α:Type}(xs:List α)(k:Nat):(List.replicate k xs).flatten.length=k*xs.length:=by
 induction k with
 |zero=>simp
 |succ k ih=>rw[List.replicate_succ,List.flatten_cons,Zm,ih,Nat.succ_mul,Nat.add_comm]
theorem op_rep:OpR X (binaryOp .Mult) rRep:=by
 intro pins s σ H x y v u Q I rx ry h
 obtain⟨l,k,xs,rfl,rfl,hH,h1,h2,hz,q⟩:=h
 cases rx
 obtain⟨t,rfl⟩:=ry
 obtain⟨z,its,n,r,hl,e⟩:=I.lstM hH
 have hlen:its.toArray.size*k.toNat≤sizeLine:=by rw[Zg,←hl];exact hz
 have hcap:¬its.toArray.size*k.toNat>(2^63-1)/8:=by
  have:(sizeLine:Nat)≤(2^63-1)/8:=by decide
  omega
 have hfit:¬(!Builtin.List.listFitsIndex k)=true:=by
  rw[fitsIndex_both h1 h2]
  exact Z1
 have hlong:¬Builtin.List.listTooLong (its.toArray.size*k.toNat)=true:=by
  rw[b0u' hlen]
  exact Z1
 have hnew:List.foldl (fun x1 x2=>x1++x2) #[] (List.replicate (if its.toArray.isEmpty=true then 0 else k.toNat) its.toArray)=(List.replicate k.toNat its).flatten.toArray:=by
  have f0:∀m:Nat,List.foldl (fun x1 x2=>x1++x2) #[] (List.replicate m its.toArray)=(List.replicate m its).flatten.toArray:=fun m=>by
   have:=a8D' its m []
   rw[List.nil_append]at this
   exact this
  rw[f0]
  cases its with
  |nil=>simp
  |cons a r'=>rw[if_neg (by simp)]
 refine wpAny_binaryOp_repeat_ref (T:="list") (U:="int") (by decide) ⟨_,e,rfl⟩ (fun s'=>typeIs_int s' k t) noFill_list_mul F.fills_int_mul F.slot_int_rmul repeat_list F.slot_int_index.lookup
  (call_meets F.slot_int_rmul (typeIs_int s k t) F.entry_int_rmul (F.args_int_rmul_2 _ _) (int___rmul___int_list k t l its.toArray n)
   ⟨e,rfl,⟨_,e,rfl⟩,call_meets F.slot_list_mul ⟨_,e,rfl⟩ F.entry_list_mul (F.args_list_mul_2 _ _) (AutoListH.list___mul___list_int_3 l its.toArray n k t hfit hcap hlong) ⟨e,?_⟩⟩)
 rw[hnew]
 exact⟨.ref _,_,I.lnew (t':=s.toks) (r.rep k.toNat) (by rw[len_rep,Nat.mul_comm];exact hz),rfl,q _ I.fresh⟩
end
section
variable {prog:Program}{w:World}{A:Around}{E:Value→Shared→Prop}{s:Shared}
set_option maxRecDepth 100000 in
end
section
variable {X:Cx}
end
end L2
namespace Att
open PySem PySem.W PySem.Calls PyProof.Rows
theorem a5d'{P:Params}{h:Heap}:∀(ns:List Int) (vs:List Value),WellAll P h vs (ns.map WData.int)→IntsAre vs ns:=by
 intro ns
 induction ns with
 |nil=>
  intro vs w
  rw[List.map_nil]at w
  cases w
  exact .nil
 |cons n ns ih=>
  intro vs w
  rw[ZA]at w
  cases w with
  |cons a b=>
   cases a
   exact .cons _ _ (ih _ b)
theorem b2q'{l:OpenLaw}{n:Nat}(hn:l.most=some n){P:Params}{h:Heap}{args:List WData}{vals:List Value}
  (hpre:l.row.toRowW.claim.pre args=true) (hwl:WellAll P h vals args):
  ∃a vs ns,vals=[Value.ref a]∧args=[WData.list (ns.map WData.int)]∧h.get? a=some {cls:=.type "list",data:=.seq vs.toArray}∧IntsAre vs ns∧ns.length≤n:=by
 have hsh:WShape.hasAll [] args [.list .int]=true:=(pre_splitW hpre).1
 have hc:l.pre.holds [] {args:=args}=true:=(pre_splitW hpre).2
 obtain⟨d,r,rfl,h1,h2⟩:=hasAllW_cons hsh
 obtain rfl:=hasAllW_nil h2
 obtain⟨xs,rfl,h3⟩:=hasW_list h1
 obtain⟨ns,rfl⟩:=items_int h3
 have hlen:ns.length≤n:=by
  unfold OpenLaw.pre at hc
  have h4:(WTm.not (.lt (.lit (.int (n:Int))) (.len (.arg 0)))).holds [] {args:=[.list (ns.map .int)]}=true:=by
   have h4:=(holds_andW hc).1
   rw[hn]at h4
   exact h4
  have h5:=condW_of h4 (w_not (w_lt w_lit (w_len_list (w_arg rfl))))
  rw[Zk]at h5
  refine Nat.le_of_not_lt fun q=>?_
  have q':(n:Int)<((ns.length:Nat):Int):=by omega
  first
   | (rw[Zy q']at h5;exact absurd h5 (by decide))
   | (simp at h5;omega)
 cases hwl with
 |cons w1 w2=>
  cases w2
  cases w1 with
  |list ho hall=>exact⟨_,_,ns,rfl,rfl,ho,a5d' ns _ hall,hlen⟩
theorem b2r'(l:OpenLaw)(args:List WData):l.row.toRowW.claim.post args (.bool true) args=true:=
 postW_of (r:=l.row.toRowW) (X:=(true==true))
  (show WShape.has [] (.bool true) .bool=true by first|rfl|decide|simp[WShape.has,WShape.arms,WShape.armsAll])
  (show(WTm.eq .res (.lit (.bool true))).value [] {args:=args,res:=some (.bool true),after:=args}=some (.bool (true==true))from w_eq_bool (w_res rfl) w_lit) rfl
theorem a9z'{l:OpenLaw}{n:Nat}{q:Program}{loose:List Str}{XP:(Str→Option Value)→Heap→Prop}{YP:World→Heap→Prop}{d:DefRec}
  (hn:l.most=some n) (hdf:d.params.defaults=[])
  (call:∀(w:World) (s₀ s₁:Shared) (mg mb:Str→Option Value) (fa:Addr) (o:Obj) (pm cd doc:Value) (a:Addr) (vs:List Value) (ns:List Int),
   Ground q loose [] XP w s₀ mg mb s₁.heap→YP w s₁.heap→
   s₁.heap.get? fa=some o→o.data=.func (docDef d.name d.params d.body d.scope pm cd doc)→s₁.heap.CodeRec cd d.name→mg d.name=some (.ref fa)→
   s₁.heap.get? a=some {cls:=.type "list",data:=.seq vs.toArray}→IntsAre vs ns→ns.length≤n→s₁.gens= #[]→
   codeAny (model l.prog w) callerA (.call (.ref fa) ⟨[.ref a],[]⟩) (fun r s'=>r=.ok (.ret (.bool true))∧OldK s₁.heap s'.heap∧s'.os=s₁.os∧AllBare s'.gens) s₁):
  WalkO q loose XP YP l.row.toRowW d [] (fun f vs=>PySem.call f vs):=by
 intro w s₀ s₁ mg mb G Y fa o pm cd doc dV kV ho hd hcd hD hmg hg args vals as hpre hlay hrd hwl hlo
 obtain rfl:dV=.none:=Dflts.none hD hdf
 obtain rfl:kV=.none:=Dflts.noKw hD
 obtain⟨a,vs,ns,rfl,rfl,hobj,hints,hlen⟩:=b2q' hn hpre hwl
 refine enter_call (codeAny_mono (call w s₀ s₁ mg mb fa o pm cd doc a vs ns G Y ho (fd_plain hd) hcd hmg hobj hints hlen hg) fun r s' hq=>?_)
 obtain⟨rfl,h2,h3,h4⟩:=hq
 exact⟨.inl ⟨.bool true,.bool true,[],rfl,fun _=>rfl,.bool true,b2r' l _,fun _=>⟨List.Pairwise.nil,fun _ hm=>(nomatch hm)⟩⟩,h2,h3,h4⟩
section
variable {prog:Program}{w:World}{A:Around}{E:Value→Shared→Prop}{s:Shared}{K:Frag}
end
end Att
namespace L2
open PySem PySem.Spec PyProof.Rows
theorem a8F':∀{vs:List Value} {ns:List Int},IntsAre vs ns→Vals (ns.map V.int) vs
 |_,_,.nil=>.nil
 |_,_,.cons n t h=>.cons ⟨t,rfl⟩ (a8F' h)
def Only(H:Hp):Prop:=∀b,H b=none∨∃o xs,H b=some (.frz o (.lst xs))
theorem b4u'{P:Program}{w:World}{K:PySem.W.Frag}{mg mb:Str→Option Value}{CX:CXT}{k:Nat}{fa a:Addr}{fd:FuncData}{x:Str}{sp:Sp}{s₁:Shared}{vs:List Value}{ns:List Int}
  (KX:K.In s₁.heap) (hns:s₁.heap.Ns mainGlobals mg) (hb:s₁.heap.Ns builtinsNs mb) (hbb:∀x:Str,x≠"__name__"→mb x=bootBuiltins x) (hlim:s₁.heap.NoLimit) (hg:s₁.gens= #[])
  (ha:s₁.heap.get? a=some {cls:=.type "list",data:=.seq vs.toArray}) (hi:IntsAre vs ns) (hl:ns.length≤sizeLine) (hr:Room k callerA)
  (F:∀base:Heap,K.In base→base.Ns mainGlobals mg→FnOk P w K mg base CX k fa fd [x] sp) (hbind:∀(s:Shared) (u:Value),BindsTo s fd ⟨[u],[]⟩ [(x,u)])
  (hsp:∀H:Hp,Only H→SqL K H a (ns.map V.int)→sp [.ref a] H (fun v _=>v=.bl true) fun _ _ _=>False)
  (hCX:∀H e s',CX [] H s₁ (fun _ _ _=>False) e s'→False):
  codeAny (model P w) callerA (.call (.ref fa) ⟨[.ref a],[]⟩) (fun r s'=>r=.ok (.ret (.bool true))∧OldK s₁.heap s'.heap∧s'.os=s₁.os∧AllBare s'.gens) s₁:=by
 have rv:=a8F' hi
 have lenV:=hi.length
 have core:∀H:Hp,Only H→SqL K H a (ns.map V.int)→HOk P w H s₁.heap→(∀b,H b≠none→b=a)→(H a≠none→K.lookup a=none)→
   codeAny (model P w) callerA (.call (.ref fa) ⟨[.ref a],[]⟩) (fun r s'=>r=.ok (.ret (.bool true))∧OldK s₁.heap s'.heap∧s'.os=s₁.os∧AllBare s'.gens) s₁:=by
  intro H hO hS hok hA hK
  have base_of:∀{b:Addr} {o:Obj},s₁.heap.get? b=some o→H b=none→(hidT s₁.heap H).get? b=some o:=fun e n=>b4f' e n
  have noA:∀{b:Addr} {o:Obj} {es:Array DictEntry} {ep:Nat},s₁.heap.get? b=some o→o.data=.dict es ep→H b=none:=fun{b o es ep} e d=>by
   cases q:H b with
   |none=>rfl
   |some u=>
    have e':b=a:=hA b (by rw[q];simp)
    subst e'
    rw[ha]at e;cases e
    have d':Data.seq vs.toArray _=Data.dict es ep:=d
    cases d'
  have nsK:∀{b:Addr} {m:Str→Option Value},s₁.heap.Ns b m→(hidT s₁.heap H).Ns b m:=fun{b m} ⟨o,es,ep,e,d,r⟩=>⟨o,es,ep,base_of e (noA e d),d,r⟩
  have hKb:K.In (hidT s₁.heap H):=fun b o e=>base_of (KX b o e) (by
   cases q:H b with
   |none=>rfl
   |some u=>
    have e':b=a:=hA b (by rw[q];simp)
    subst e'
    rw[hK (by rw[q];simp)]at e;cases e)
  have hM:Mod K mg (hidT s₁.heap H):=⟨hKb,nsK hns,⟨mb,nsK hb,hbb⟩,let⟨mc,h1,h2⟩:=hlim;⟨mc,nsK h1,h2⟩⟩
  have e0:Env0 P w K mg (hidT s₁.heap H) callerA [] s₁ H:=⟨rfl,hM,fun b o e=>of_hidT e,Nat.le_of_eq (b2h' _ _),trivial,fun b hb=>absurd (show b∈([]:List Addr)from hb) (by simp),hok,.of_eq hg⟩
  refine codeAny_mono ((F _ hKb (nsK hns)).run callerA [] s₁ H ⟨[.ref a],[]⟩ [.ref a] [.ref a] _ _ hr e0 (hbind s₁ (.ref a)) (.cons rfl .nil) (hsp H hO hS)) fun r s' h=>?_
  cases r with
  |error e=>exact(hCX H e s' h).elim
  |ok fl=>
   cases fl with
   |next=>exact False.elim h
   |brk=>exact False.elim h
   |cont=>exact False.elim h
   |ret u=>
    obtain⟨v,H',os,bare,un,hok',r',q⟩:=h
    have q':v=.bl true:=q
    subst q'
    obtain rfl:u=Value.bool true:=r'
    refine⟨rfl,OldK.of_keep fun b o e=>?_,os,bare⟩
    cases q:H b with
    |none=>exact un.keep b o e q (by intro z;exact absurd (show b∈([]:List Addr)from z) (by simp)) (by simp)
    |some u=>
     rcases hO b with z| ⟨ob,xs,z⟩
     ·rw[q]at z;cases z
     ·have z2:=un.frzs b ob _ z
      obtain⟨e1,_⟩:=hok b _ z
      obtain⟨e2,_⟩:=hok' b _ z2
      rw[e]at e1;cases e1
      exact e2
 cases hk:K.lookup a with
 |some o=>
  have e:=KX a o hk
  rw[ha]at e
  cases e
  refine core (fun _=>none) (fun _=>.inl rfl) (.inr ⟨_,vs.toArray,_,hk,rfl,rfl,rfl,by rw[Zg,lenV];exact hl,by simpa using rv⟩) (fun b u z=>by have z':(none:Option HO)=some u:=z;cases z') (fun b z=>absurd rfl z) fun z=>absurd rfl z
 |none=>
  refine core (fun b=>if b=a then some (.frz {cls:=.type "list",data:=.seq vs.toArray} (.lst (ns.map V.int)))else none) (fun b=>?_) (.inl (.inr ⟨{cls:=.type "list",data:=.seq vs.toArray},if_pos rfl⟩)) (fun b u z=>?_) (fun b z=>?_) fun _=>hk
  ·by_cases hb:b=a
   ·exact .inr ⟨_,_,if_pos hb⟩
   ·exact .inl (if_neg hb)
  ·by_cases hb:b=a
   ·have z':=(if_pos hb).symm.trans z
    cases z'
    subst hb
    exact⟨ha,by rw[Zk];exact hl,vs,_,rv,ha⟩
   ·have z':=(if_neg hb).symm.trans z
    cases z'
  ·by_cases hb:b=a
   ·exact hb
   ·exact absurd (if_neg hb) z
end L2
namespace L2
open PySem PySem.Spec PyProof.Rows
theorem walk_of{l:PySem.W.OpenLaw}{n k:Nat}{q:Program}{loose:List Str}{XP:(Str→Option Value)→Heap→Prop}{YP:World→Heap→Prop}{d:DefRec}{K:Params→PySem.W.Frag}{CX:World→CXT}{sp:World→Sp}{x:Str}
  (hn:l.most=some n) (hn2:n≤sizeLine) (hdf:d.params.defaults=[]) (hr:Room k callerA)
  (hY:∀(w:World) (h:Heap),YP w h→(K w.params).In h)
  (F:∀(w:World) (mg:Str→Option Value) (fa:Addr) (h:Heap),(K w.params).In h→h.Ns mainGlobals mg→mg d.name=some (.ref fa)→
   ∃fd:FuncData,(∀(s:Shared) (u:Value),BindsTo s fd ⟨[u],[]⟩ [(x,u)])∧
    ∀base:Heap,(K w.params).In base→base.Ns mainGlobals mg→FnOk l.prog w (K w.params) mg base (CX w) k fa fd [x] (sp w))
  (hsp:∀(w:World) (H:Hp) (a:Addr) (ns:List Int),ns.length≤n→Only H→SqL (K w.params) H a (ns.map V.int)→sp w [.ref a] H (fun v _=>v=.bl true) fun _ _ _=>False)
  (hCX:∀(w:World) (H:Hp) (s:Shared) (e:Value) (s':Shared),CX w [] H s (fun _ _ _=>False) e s'→False):
  PySem.W.WalkO q loose XP YP l.row.toRowW d [] (fun f vs=>PySem.call f vs):=by
 refine Att.a9z' hn hdf fun w s₀ s₁ mg mb fa o pm cd doc a vs ns G Y ho hd hcd hmg hobj hints hlen hg=>?_
 have KX:=hY w _ Y
 obtain⟨fd,hb,hF⟩:=F w mg fa _ KX G.T.g hmg
 exact b4u' KX G.T.g G.T.b G.T.builtins G.T.nolimit hg hobj hints (ZL hlen hn2) hr hF hb (fun H hO hS=>hsp w H a ns hlen hO hS) fun H e s'=>hCX w H s₁ e s'
end L2
namespace L2
open PySem PySem.Spec PyProof.Rows
def a4z'(s:Stmt):Arguments:=match s with
 | .FunctionDef _ a _ _ _ _ _ _ _ _=>a
 |_=>{posonlyargs:=[],args:=[],vararg:=none,kwonlyargs:=[],kw_defaults:=[],kwarg:=none,defaults:=[]}
def a0Y'(s:Stmt):List Stmt:=match s with
 | .FunctionDef _ _ b _ _ _ _ _ _ _=>b
 |_=>[]
def a0v'(s:Stmt):Scope:=match s with
 | .FunctionDef _ _ _ _ _ _ sc _ _ _=>sc
 |_=>{kind:=.function,names:=[],isGenerator:=false,isCoroutine:=false}
abbrev CX0:CXT:=fun _ _ _ _ _ _=>False
abbrev E0:XK:=fun _ _ _=>False
structure Fun (K:PySem.W.Frag)(x qual:Str)(st:Stmt)(f:Addr)(fd:FuncData):Prop where
 ex:∃(oc:Value) (od:Option Addr) (kV doc pm:Value) (an:Option Addr) (cdv ct:Value) (osl:Array (Option Value)),
  fd=PySem.W.fnOf x qual (a4z' st) (a0Y' st) (a0v' st) .none kV doc pm an cdv ct∧K.lookup f=some ⟨oc,od,.func fd,osl⟩∧PySem.W.codeIn K cdv qual=true
 kp:PySem.W.keepIn K (.ref f)=true
section
variable {P:Program}{w:World}{K:PySem.W.Frag}{mg:Str→Option Value}{base:Heap}
theorem Fun.ok{x qual:Str}{st:Stmt}{f:Addr}{fd:FuncData}{N ps:List Str}{k:Nat}{sp:Sp}(F:Fun K x qual st f fd)(S:FnScope N ps (a0v' st))(len:∀vs H Q E,sp vs H Q E→vs.length=ps.length)
  (hbody:∀(cdv:Value) (A:Around) (outer:List Env) (s:Shared) (H:Hp) (vs:List V) (Q:VK) (E:XK),Room k (A.deeper (envOfC qual (a0v' st) s.heap.objs.size f cdv))→sp vs H Q E→
   ∃t,PSs (cxOf CX0 P w K mg base N qual (a0v' st) f cdv A outer s H E).nox (a0Y' st) t∧t {nx:=fun _ H'=>Q .non H',rt:=Q} (start N vs) H):FnOk P w K mg base CX0 (k+1) f fd ps sp:=by
 obtain⟨oc,od,kV,doc,pm,an,cdv,ct,osl,rfl,lk,hcd⟩:=F.ex
 refine fn_of lk hcd S len fun A outer s H vs Q E hr hsp=>?_
 obtain⟨t,h,q⟩:=hbody cdv A outer s H vs Q E hr hsp
 exact⟨t,h.nox,q⟩
theorem Fun.binds{x qual:Str}{st:Stmt}{f:Addr}{fd:FuncData}{ps:List Str}(F:Fun K x qual st f fd)
  (h:∀(kV doc pm:Value) (an:Option Addr) (cdv ct:Value) (us:List Value),us.length=ps.length→bindArgs (PySem.W.fnOf x qual (a4z' st) (a0Y' st) (a0v' st) .none kV doc pm an cdv ct) ⟨us,[]⟩=pure (ps.zip us)):Binds K fd ps []:=by
 obtain⟨oc,od,kV,doc,pm,an,cdv,ct,osl,rfl,lk,hcd⟩:=F.ex
 exact .all (h kV doc pm an cdv ct)
theorem fun_mk{x qual:Str}{st:Stmt}{f:Addr}{oc:Value}{od an:Option Addr}{osl:Array (Option Value)}{kV doc pm cdv ct:Value}(l:K.lookup f=some ⟨oc,od,.func (PySem.W.fnOf x qual (a4z' st) (a0Y' st) (a0v' st) .none kV doc pm an cdv ct),osl⟩)
  (c:PySem.W.codeIn K cdv qual=true) (k:PySem.W.keepIn K (.ref f)=true):Fun K x qual st f (PySem.W.fnOf x qual (a4z' st) (a0Y' st) (a0v' st) .none kV doc pm an cdv ct):=⟨⟨oc,od,kV,doc,pm,an,cdv,ct,osl,rfl,l,c⟩,k⟩
end
section
variable {X:Cx}
end
end L2
end
section
namespace Py
open PySem PySem.Spec PyProof.Rows L2
theorem ex43{C:Prop}{a b c d:Sort _}{p q r:a→b→c→d→Prop}(h:∃x y z w,p x y z w∧q x y z w∧r x y z w)(k:∀x y z w,p x y z w→q x y z w→r x y z w→C):C:=by
 obtain⟨x,y,z,w,h1,h2,h3⟩:=h
 exact k x y z w h1 h2 h3
theorem ex93{C:Prop}{a b c d e f g h i:Sort _}{p q r:a→b→c→d→e→f→g→h→i→Prop}(z:∃x1 x2 x3 x4 x5 x6 x7 x8 x9,p x1 x2 x3 x4 x5 x6 x7 x8 x9∧q x1 x2 x3 x4 x5 x6 x7 x8 x9∧r x1 x2 x3 x4 x5 x6 x7 x8 x9)(k:∀x1 x2 x3 x4 x5 x6 x7 x8 x9,p x1 x2 x3 x4 x5 x6 x7 x8 x9→q x1 x2 x3 x4 x5 x6 x7 x8 x9→r x1 x2 x3 x4 x5 x6 x7 x8 x9→C):C:=by
 obtain⟨x1,x2,x3,x4,x5,x6,x7,x8,x9,h1,h2,h3⟩:=z
 exact k x1 x2 x3 x4 x5 x6 x7 x8 x9 h1 h2 h3
theorem ex34{C:Prop}{a b c:Sort _}{p q r t:a→b→c→Prop}(h:∃x y z,p x y z∧q x y z∧r x y z∧t x y z)(k:∀x y z,p x y z→q x y z→r x y z→t x y z→C):C:=by
 obtain⟨x,y,z,h1,h2,h3,h4⟩:=h
 exact k x y z h1 h2 h3 h4
inductive D where
 |non|bl (b:Bool)|int (i:Int)|str (x:Str)
 |tup (xs:List D)|lst (xs:List D)|ref (n:Nat)|scr (xs:List D)
 |fn (x:Str)|dct|ty (n:String)
 deriving Inhabited
abbrev Store:=List (List D)
structure GS where
 mg:Str→Option Value
 F:List Addr
def Frz(K:PySem.W.Frag)(H:Hp)(a:Addr)(vs:List V):Prop:=(∃o,H a=some (.frz o (.lst vs)))∨
 ∃(o:Obj) (its:Array Value) (n:Nat),K.lookup a=some o∧o.cls=.type "list"∧o.dict=none∧o.data=.seq its n∧its.size≤sizeLine∧Vals vs its.toList
theorem Frz.sq{K:PySem.W.Frag}{H:Hp}{a:Addr}{vs:List V}(h:Frz K H a vs):SqL K H a vs:=by
 rcases h with⟨o,h⟩|h
 ·exact .inl (.inr ⟨o,h⟩)
 ·exact .inr h
section
variable (K:PySem.W.Frag)(mg:GS)(μ:List Addr)(H:Hp)
mutual
def Rep:D→V→Prop
 | .non,v=>v=.non
 | .bl b,v=>v=.bl b
 | .int i,v=>v=.int i
 | .str x,v=>v=.str x
 | .tup ds,v=>∃a vs,v=.ref a∧SqT K H a vs∧RepL ds vs
 | .lst ds,v=>∃a vs,v=.ref a∧H a=some (.lst vs)∧(a∉μ∧a∉mg.F)∧RepL ds vs
 | .scr ds,v=>∃a vs,v=.ref a∧Frz K H a vs∧RepL ds vs
 | .ref n,v=>∃a,v=.ref a∧μ[n]?=some a
 | .fn x,v=>∃a,v=.ref a∧mg.mg x=some (.ref a)
 | .dct,v=>∃a,v=.ref a∧H a=some (.dK [])
 | .ty n,v=>v=.ty n
def RepL:List D→List V→Prop
 | [],vs=>vs=[]
 |d::ds,vs=>∃w ws,vs=w::ws∧Rep d w∧RepL ds ws
end
end
structure SOk (K:PySem.W.Frag)(mg:GS)(μ:List Addr)(S:Store)(H:Hp):Prop where
 live:∀a∈mg.F,∃o,H a=some o
 len:μ.length=S.length
 nd:μ.Nodup
 at_:∀(n:Nat) (a:Addr) (ds:List D),μ[n]?=some a→S[n]?=some ds→∃vs,H a=some (.lst vs)∧RepL K mg μ H ds vs
structure Ext (μ:List Addr)(H:Hp)(μ':List Addr)(H':Hp):Prop where
 pre:∃r,μ'=μ++r
 keep:∀a o,H a=some o→((∀xs,o≠.lst xs)∨a∉μ)→H' a=some o
 there:∀a o,H a=some o→∃o',H' a=some o'
 fresh:∀a∈μ',a∈μ∨H a=none
section
variable {K:PySem.W.Frag}{mg:GS}{μ μ' μ'':List Addr}{H H' H'':Hp}
theorem Ext.refl:Ext μ H μ H:=⟨⟨[],by simp⟩,fun _ _ h _=>h,fun _ o h=>⟨o,h⟩,fun _ h=>.inl h⟩
theorem Ext.trans(a:Ext μ H μ' H')(b:Ext μ' H' μ'' H''):Ext μ H μ'' H'':=by
 obtain⟨r,e⟩:=a.pre
 obtain⟨r',e'⟩:=b.pre
 refine⟨⟨r++r',by rw[e',e,Zu]⟩,fun x o h c=>?_,fun x o h=>?_,fun x h=>?_⟩
 ·have h1:=a.keep x o h c
  refine b.keep x o h1 ?_
  rcases c with c|c
  ·exact .inl c
  ·refine .inr fun z=>?_
   rcases a.fresh x z with z|z
   ·exact c z
   ·rw[h]at z;cases z
 ·obtain⟨o1,h1⟩:=a.there x o h
  exact b.there x o1 h1
 ·rcases b.fresh x h with h|h
  ·exact a.fresh x h
  ·refine .inr ?_
   cases e:H x with
   |none=>rfl
   |some o=>
    obtain⟨o1,h1⟩:=a.there x o e
    rw[h1]at h;cases h
theorem Ext.sqT{a:Addr}{vs:List V}(x:Ext μ H μ' H')(h:SqT K H a vs):SqT K H' a vs:=by
 rcases h with(h| ⟨o,h⟩)|h
 ·exact .inl (.inl (x.keep _ _ h (.inl fun _ z=>by cases z)))
 ·exact .inl (.inr ⟨o,x.keep _ _ h (.inl fun _ z=>by cases z)⟩)
 ·exact .inr h
theorem Ext.frz{a:Addr}{vs:List V}(x:Ext μ H μ' H')(h:Frz K H a vs):Frz K H' a vs:=by
 rcases h with⟨o,h⟩|h
 ·exact .inl ⟨o,x.keep _ _ h (.inl fun _ z=>by cases z)⟩
 ·exact .inr h
theorem Ext.lst{a:Addr}{vs:List V}(x:Ext μ H μ' H')(h:H a=some (.lst vs))(ha:a∉μ):H' a=some (.lst vs)∧a∉μ':=by
 refine⟨x.keep _ _ h (.inr ha),fun z=>?_⟩
 rcases x.fresh a z with z|z
 ·exact ha z
 ·rw[h]at z;cases z
theorem Ext.get{n:Nat}{a:Addr}(x:Ext μ H μ' H')(h:μ[n]?=some a):μ'[n]?=some a:=by
 obtain⟨r,rfl⟩:=x.pre
 rw[Zo (Zh.mp h).1]
 exact h
mutual
theorem Rep.mono(x:Ext μ H μ' H'):∀(d:D) (v:V),Rep K mg μ H d v→Rep K mg μ' H' d v
 | .non,_,h=>h
 | .bl _,_,h=>h
 | .int _,_,h=>h
 | .str _,_,h=>h
 | .tup ds,v,h=>by
  unfold Rep at h⊢
  obtain⟨a,vs,e,q,r⟩:=h
  exact⟨a,vs,e,x.sqT q,RepL.mono x ds vs r⟩
 | .lst ds,v,h=>by
  unfold Rep at h⊢
  obtain⟨a,vs,e,q,n,r⟩:=h
  exact⟨a,vs,e,(x.lst q n.1).1,⟨(x.lst q n.1).2,n.2⟩,RepL.mono x ds vs r⟩
 | .scr ds,v,h=>by
  unfold Rep at h⊢
  obtain⟨a,vs,e,q,r⟩:=h
  exact⟨a,vs,e,x.frz q,RepL.mono x ds vs r⟩
 | .ref n,v,h=>by
  unfold Rep at h⊢
  obtain⟨a,e,q⟩:=h
  exact⟨a,e,x.get q⟩
 | .fn y,v,h=>h
 | .ty y,v,h=>h
 | .dct,v,h=>by
  unfold Rep at h⊢
  obtain⟨a,e,q⟩:=h
  exact⟨a,e,x.keep _ _ q (.inl fun _ z=>by cases z)⟩
theorem RepL.mono(x:Ext μ H μ' H'):∀(ds:List D) (vs:List V),RepL K mg μ H ds vs→RepL K mg μ' H' ds vs
 | [],vs,h=>h
 |d::ds,vs,h=>by
  unfold RepL at h⊢
  obtain⟨w,ws,e,r,q⟩:=h
  exact⟨w,ws,e,Rep.mono x d w r,RepL.mono x ds ws q⟩
end
theorem RepL.length:∀{ds:List D} {vs:List V},RepL K mg μ H ds vs→ds.length=vs.length
 | [],vs,h=>by unfold RepL at h;subst h;rfl
 |d::ds,vs,h=>by
  unfold RepL at h
  obtain⟨w,ws,rfl,r,q⟩:=h
  simp[RepL.length q]
theorem RepL.get:∀{ds:List D} {vs:List V} {i:Nat} {d:D},RepL K mg μ H ds vs→ds[i]?=some d→∃v,vs[i]?=some v∧Rep K mg μ H d v
 | [],vs,i,d,h,e=>by simp at e
 |c::ds,vs,i,d,h,e=>by
  unfold RepL at h
  obtain⟨w,ws,rfl,r,q⟩:=h
  cases i with
  |zero=>simp at e;subst e;exact⟨w,rfl,r⟩
  |succ i=>simpa using RepL.get q (by simpa using e)
theorem RepL.of:∀{ds:List D} {vs:List V},ds.length=vs.length→(∀(i:Nat) d v,ds[i]?=some d→vs[i]?=some v→Rep K mg μ H d v)→RepL K mg μ H ds vs
 | [],[],_,_=>by unfold RepL;rfl
 | [],_::_,h,_=>by simp at h
 |_::_,[],h,_=>by simp at h
 |d::ds,v::vs,h,k=>by
  unfold RepL
  exact⟨v,vs,rfl,k 0 d v rfl rfl,RepL.of (by simpa using h) fun i d' v' h1 h2=>k (i+1) d' v' (by simpa using h1) (by simpa using h2)⟩
theorem RepL.nil:RepL K mg μ H [] []:=by unfold RepL;rfl
theorem RepL.cons{d:D}{v:V}{ds:List D}{vs:List V}(h:Rep K mg μ H d v)(t:RepL K mg μ H ds vs):RepL K mg μ H (d::ds) (v::vs):=by
 unfold RepL;exact⟨v,vs,rfl,h,t⟩
theorem RepL.uncons{d:D}{ds:List D}{vs:List V}(h:RepL K mg μ H (d::ds) vs):∃v ws,vs=v::ws∧Rep K mg μ H d v∧RepL K mg μ H ds ws:=by
 unfold RepL at h;exact h
theorem RepL.append:∀{ds es:List D} {vs ws:List V},RepL K mg μ H ds vs→RepL K mg μ H es ws→RepL K mg μ H (ds++es) (vs++ws)
 | [],es,vs,ws,h,k=>by unfold RepL at h;subst h;exact k
 |d::ds,es,vs,ws,h,k=>by
  obtain⟨v,us,rfl,r,q⟩:=h.uncons
  exact .cons r (RepL.append q k)
theorem RepL.take:∀{ds:List D} {vs:List V} (n:Nat),RepL K mg μ H ds vs→RepL K mg μ H (ds.take n) (vs.take n)
 | [],vs,n,h=>by unfold RepL at h;subst h;simpa using RepL.nil
 |d::ds,vs,0,h=>by simpa using RepL.nil
 |d::ds,vs,n+1,h=>by
  obtain⟨v,us,rfl,r,q⟩:=h.uncons
  exact .cons r (RepL.take n q)
theorem RepL.drop:∀{ds:List D} {vs:List V} (n:Nat),RepL K mg μ H ds vs→RepL K mg μ H (ds.drop n) (vs.drop n)
 | [],vs,n,h=>by unfold RepL at h;subst h;simpa using RepL.nil
 |d::ds,vs,0,h=>h
 |d::ds,vs,n+1,h=>by
  obtain⟨v,us,rfl,r,q⟩:=h.uncons
  exact RepL.drop n q
theorem RepL.set:∀{ds:List D} {vs:List V} (i:Nat) {d:D} {v:V},RepL K mg μ H ds vs→Rep K mg μ H d v→RepL K mg μ H (ds.set i d) (vs.set i v)
 | [],vs,i,_,_,h,_=>by unfold RepL at h;subst h;simpa using RepL.nil
 |d::ds,vs,0,_,_,h,k=>by
  obtain⟨v,us,rfl,r,q⟩:=h.uncons
  exact .cons k q
 |d::ds,vs,i+1,_,_,h,k=>by
  obtain⟨v,us,rfl,r,q⟩:=h.uncons
  exact .cons r (RepL.set i q k)
theorem Ext.laid{p:Addr}{o:HO}(hp:H p=none):Ext μ H μ (upd H p o):=
 ⟨⟨[],by simp⟩,fun a u h _=>by rw[a0E' (a0u' h hp)];exact h,fun a u h=>⟨u,by rw[a0E' (a0u' h hp)];exact h⟩,fun _ h=>.inl h⟩
theorem SOk.notin{S:Store}{p:Addr}(s:SOk K mg μ S H)(hp:H p=none):p∉μ:=fun z=>by
 obtain⟨n,hn,e⟩:=ZV.mp z
 have e1:μ[n]?=some p:=by rw[Ze hn,e]
 have e2:S[n]?=some (S[n]'(by rw[←s.len];exact hn)):=Ze _
 obtain⟨vs,h,_⟩:=s.at_ n p _ e1 e2
 rw[hp]at h;cases h
theorem SOk.notF{S:Store}{p:Addr}(s:SOk K mg μ S H)(hp:H p=none):p∉mg.F:=fun z=>by
 obtain⟨o,h⟩:=s.live p z
 rw[hp]at h;cases h
theorem SOk.laid{S:Store}{p:Addr}{o:HO}(s:SOk K mg μ S H)(hp:H p=none):SOk K mg μ S (upd H p o):=by
 refine⟨fun a h=>(Ext.laid (μ:=μ) hp).there a _ (s.live a h).choose_spec,s.len,s.nd,fun n a ds h1 h2=>?_⟩
 obtain⟨vs,h,r⟩:=s.at_ n a ds h1 h2
 exact⟨vs,by rw[a0E' (a0u' h hp)];exact h,RepL.mono (Ext.laid hp) _ _ r⟩
theorem Ext.boxed{p:Addr}{o:HO}(hp:H p=none):Ext μ H (μ++[p]) (upd H p o):=
 ⟨⟨[p],rfl⟩,fun a u h _=>by rw[a0E' (a0u' h hp)];exact h,fun a u h=>⟨u,by rw[a0E' (a0u' h hp)];exact h⟩,fun a h=>by
  rcases ZB.mp h with h|h
  ·exact .inl h
  ·have:a=p:=by simpa using h
   subst this;exact .inr hp⟩
theorem SOk.boxed{S:Store}{p:Addr}{ds:List D}{vs:List V}(s:SOk K mg μ S H)(hp:H p=none)(r:RepL K mg μ H ds vs):
  SOk K mg (μ++[p]) (S++[ds]) (upd H p (.lst vs)):=by
 have np:=s.notin hp
 refine⟨fun a h=>(Ext.laid (μ:=μ) hp).there a _ (s.live a h).choose_spec,by simp[s.len],?_,fun n a es h1 h2=>?_⟩
 ·rw[ZO]
  exact⟨s.nd,by simp,fun a ha b hb=>by
   have:b=p:=by simpa using hb
   subst this;intro z;subst z;exact np ha⟩
 ·by_cases hn:n<μ.length
  ·rw[Zo hn]at h1
   rw[Zo (by rw[←s.len];exact hn)]at h2
   obtain⟨ws,h,q⟩:=s.at_ n a es h1 h2
   exact⟨ws,by rw[a0E' (a0u' h hp)];exact h,RepL.mono (Ext.boxed hp) _ _ q⟩
  ·have hl:=s.len
   have e1:n=μ.length:=by
    have:=(Zh.mp h1).1
    simp at this;omega
   subst e1
   rw[Zv (Zj _)]at h1
   rw[Zv (by omega)]at h2
   simp[hl]at h1 h2
   subst h1;subst h2
   exact⟨vs,a0N',RepL.mono (Ext.boxed hp) _ _ r⟩
theorem Ext.wrote{a:Addr}{xs:List V}{ys:List V}(ha:a∈μ)(h:H a=some (.lst xs)):Ext μ H μ (upd H a (.lst ys)):=by
 refine⟨⟨[],by simp⟩,fun b o e c=>?_,fun b o e=>?_,fun _ h=>.inl h⟩
 ·have:b≠a:=by
   rintro rfl
   rw[h]at e;cases e
   rcases c with c|c
   ·exact c _ rfl
   ·exact c ha
  rw[a0E' this];exact e
 ·by_cases z:b=a
  ·subst z;exact⟨_,a0N'⟩
  ·exact⟨o,by rw[a0E' z];exact e⟩
theorem SOk.wrote{S:Store}{n:Nat}{a:Addr}{ds:List D}{xs vs:List V}(s:SOk K mg μ S H)(hn:μ[n]?=some a)(h:H a=some (.lst xs))(r:RepL K mg μ H ds vs):
  SOk K mg μ (S.set n ds) (upd H a (.lst vs)):=by
 have ha:a∈μ:=ZD hn
 have hl:=s.len
 have hnl:n<S.length:=by have:=(Zh.mp hn).1;omega
 refine⟨fun b hb=>(Ext.wrote (μ:=μ) (ys:=vs) ha h).there b _ (s.live b hb).choose_spec,by simp[hl],s.nd,fun m b es h1 h2=>?_⟩
 by_cases e:m=n
 ·subst e
  rw[hn]at h1;cases h1
  rw[Z5 hnl]at h2;cases h2
  exact⟨vs,a0N',RepL.mono (Ext.wrote ha h) _ _ r⟩
 ·rw[List.getElem?_set_ne (Ne.symm e)]at h2
  obtain⟨ws,q,r'⟩:=s.at_ m b es h1 h2
  have:b≠a:=by
   rintro rfl
   exact e (L2_nodup s.nd h1 hn)
  exact⟨ws,by rw[a0E' this];exact q,RepL.mono (Ext.wrote ha h) _ _ r'⟩
where
 L2_nodup {l:List Addr} (nd:l.Nodup) {i j:Nat} {x:Addr} (a:l[i]?=some x) (b:l[j]?=some x):i=j:=by
    obtain⟨h1,e1⟩:=Zh.mp a
    obtain⟨h2,e2⟩:=Zh.mp b
    exact(List.getElem_inj nd).mp (e1.trans e2.symm)
end
end Py
end
section
namespace Py
open PySem PySem.Spec PyProof.Rows L2
open PySem.Sem (wp)
open PySem.Builtin
section
variable {X:Cx}
end
end Py
end
section
namespace Py
open PySem PySem.Spec PyProof.Rows L2
structure Exc where
 cls:Str
 fs:List D
inductive Res (α:Type) where
 |ok (a:α) (S:Store)
 |err (x:Exc) (S:Store)
 |fail
abbrev big:Nat:=16777216
theorem a7S':sizeLine=big:=sizeLine_eq
def Want(K:PySem.W.Frag)(mg:GS)(μ:List Addr)(H:Hp)(Q:VK):Res D→Prop
 | .ok d S'=>∀μ' H' v,Ext μ H μ' H'→SOk K mg μ' S' H'→Rep K mg μ' H' d v→Q v H'
 |_=>False
section
variable {K:PySem.W.Frag}{mg:GS}{μ μ':List Addr}{H H':Hp}{Q:VK}{S:Store}
theorem Want.now{d:D}{v:V}(w:Want K mg μ H Q (.ok d S))(s:SOk K mg μ S H)(r:Rep K mg μ H d v):Q v H:=w μ H v .refl s r
theorem Want.tup{ds:List D}{vs:List V}(w:Want K mg μ H Q (.ok (.tup ds) S))(s:SOk K mg μ S H)(r:RepL K mg μ H ds vs)(p:Addr)(hp:H p=none):Q (.ref p) (upd H p (.tup vs)):=
 w μ _ _ (.laid hp) (s.laid hp) (by unfold Rep;exact⟨p,vs,rfl,SqT.of a0N',RepL.mono (.laid hp) _ _ r⟩)
theorem Want.lst{ds:List D}{vs:List V}(w:Want K mg μ H Q (.ok (.lst ds) S))(s:SOk K mg μ S H)(r:RepL K mg μ H ds vs)(p:Addr)(hp:H p=none):Q (.ref p) (upd H p (.lst vs)):=
 w μ _ _ (.laid hp) (s.laid hp) (by unfold Rep;exact⟨p,vs,rfl,a0N',⟨s.notin hp,s.notF hp⟩,RepL.mono (.laid hp) _ _ r⟩)
theorem Want.box{ds:List D}{vs:List V}(w:Want K mg μ H Q (.ok (.ref S.length) (S++[ds])))(s:SOk K mg μ S H)(r:RepL K mg μ H ds vs)(p:Addr)(hp:H p=none):Q (.ref p) (upd H p (.lst vs)):=
 w (μ++[p]) _ _ (.boxed hp) (s.boxed hp r) (by unfold Rep;exact⟨p,rfl,by rw[Zv (by rw[s.len];exact Zj _),s.len];simp⟩)
theorem Want.wrote{n:Nat}{a:Addr}{d:D}{v:V}{ds:List D}{xs vs:List V}(w:Want K mg μ H Q (.ok d (S.set n ds)))(s:SOk K mg μ S H)(hn:μ[n]?=some a)(h:H a=some (.lst xs))(r:RepL K mg μ H ds vs)
  (rd:Rep K mg μ H d v):Q v (upd H a (.lst vs)):=
 w μ _ _ (.wrote (ZD hn) h) (s.wrote hn h r) (Rep.mono (.wrote (ZD hn) h) _ _ rd)
def a3G'(S:Store):D→Option (List D)
 | .lst xs=>some xs
 | .ref n=>S[n]?
 |_=>none
def seqOf(S:Store):D→Option (List D)
 | .lst xs=>some xs
 | .ref n=>S[n]?
 | .tup xs=>some xs
 | .scr xs=>some xs
 |_=>none
theorem a0U'{d:D}{v:V}{xs:List D}(s:SOk K mg μ S H)(r:Rep K mg μ H d v)(e:a3G' S d=some xs):∃a vs,v=.ref a∧H a=some (.lst vs)∧RepL K mg μ H xs vs:=by
 cases d with
 |lst ys=>
  unfold a3G' at e;cases e
  unfold Rep at r
  obtain⟨a,vs,e,h,_,q⟩:=r
  exact⟨a,vs,e,h,q⟩
 |ref n=>
  unfold a3G' at e
  unfold Rep at r
  obtain⟨a,e1,h⟩:=r
  obtain⟨vs,h1,q⟩:=s.at_ n a xs h e
  exact⟨a,vs,e1,h1,q⟩
 |_=>cases e
theorem a4c'{d:D}{v:V}{xs:List D}(s:SOk K mg μ S H)(r:Rep K mg μ H d v)(e:seqOf S d=some xs):∃a vs,v=.ref a∧(SqL K H a vs∨SqT K H a vs)∧RepL K mg μ H xs vs:=by
 cases d with
 |lst ys=>
  obtain⟨a,vs,e1,h,q⟩:=a0U' s r (show a3G' S (.lst ys)=some xs from e)
  exact⟨a,vs,e1,.inl (.of h),q⟩
 |ref n=>
  obtain⟨a,vs,e1,h,q⟩:=a0U' s r (show a3G' S (.ref n)=some xs from e)
  exact⟨a,vs,e1,.inl (.of h),q⟩
 |tup ys=>
  unfold seqOf at e;cases e
  unfold Rep at r
  obtain⟨a,vs,e,h,q⟩:=r
  exact⟨a,vs,e,.inr h,q⟩
 |scr ys=>
  unfold seqOf at e;cases e
  unfold Rep at r
  obtain⟨a,vs,e,h,q⟩:=r
  exact⟨a,vs,e,.inl h.sq,q⟩
 |_=>cases e
theorem a0e'{i:Int}{v:V}(r:Rep K mg μ H (.int i) v):v=.int i:=by unfold Rep at r;exact r
theorem a6G'{i:Bool}{v:V}(r:Rep K mg μ H (.bl i) v):v=.bl i:=by unfold Rep at r;exact r
theorem a4d'{i:Str}{v:V}(r:Rep K mg μ H (.str i) v):v=.str i:=by unfold Rep at r;exact r
theorem a4A'{v:V}(r:Rep K mg μ H .non v):v=.non:=by unfold Rep at r;exact r
theorem a0F'{ds:List D}{v:V}(r:Rep K mg μ H (.tup ds) v):∃a vs,v=.ref a∧SqT K H a vs∧RepL K mg μ H ds vs:=by unfold Rep at r;exact r
theorem a1h'{i:Int}:Rep K mg μ H (.int i) (.int i):=by unfold Rep;rfl
theorem repBl{i:Bool}:Rep K mg μ H (.bl i) (.bl i):=by unfold Rep;rfl
theorem repStr{i:Str}:Rep K mg μ H (.str i) (.str i):=by unfold Rep;rfl
theorem b0v':Rep K mg μ H .non .non:=by unfold Rep;rfl
end
def rD(K:PySem.W.Frag)(mg:Str→Option Value)(g:D→D→Store→Res D):R2:=fun x y H Q=>∃F μ S d e,SOk K ⟨mg,F⟩ μ S H∧Rep K ⟨mg,F⟩ μ H d x∧Rep K ⟨mg,F⟩ μ H e y∧Want K ⟨mg,F⟩ μ H Q (g d e S)
def addD(d e:D)(S:Store):Res D:=match d,e with
 | .int i,.int j=>.ok (.int (i+j)) S
 | .str x,.str y=>if x.length+y.length≤big then .ok (.str (x++y)) S else .fail
 | .tup a,.tup b=>if a.length+b.length≤big then .ok (.tup (a++b)) S else .fail
 |d,e=>match a3G' S d,a3G' S e with
  |some a,some b=>if a.length+b.length≤big then .ok (.lst (a++b)) S else .fail
  |_,_=>.fail
def subD(d e:D)(S:Store):Res D:=match d,e with
 | .int i,.int j=>.ok (.int (i-j)) S
 |_,_=>.fail
def mulD(d e:D)(S:Store):Res D:=match d,e with
 | .int i,.int j=>if(-(2^64)<i∧i<2^64)∨(-(2^64)<j∧j<2^64)then .ok (.int (i*j)) S else if Builtin.Int.intBits i≤100000∧Builtin.Int.intBits j≤100000 then .ok (.int (i*j)) S else .fail
 | .lst a,.int k=>if-(2^63)≤k∧k<2^63∧a.length*k.toNat≤big then .ok (.lst (List.replicate k.toNat a).flatten) S else .fail
 |_,_=>.fail
def fdivD(d e:D)(S:Store):Res D:=match d,e with
 | .int i,.int j=>if 0<j∧j<1073741824 then .ok (.int (i/j)) S else .fail
 |_,_=>.fail
def modD(d e:D)(S:Store):Res D:=match d,e with
 | .int i,.int j=>if 0<j then .ok (.int (i%j)) S else .fail
 |_,_=>.fail
def powD(d e:D)(S:Store):Res D:=match d,e with
 | .int i,.int j=>if 0≤j∧j≤1000000∧i.natAbs<2^64 then .ok (.int (i^j.toNat)) S else .fail
 |_,_=>.fail
def shrD(d e:D)(S:Store):Res D:=match d,e with
 | .int i,.int j=>if 0≤j then .ok (.int (i/2^j.toNat)) S else .fail
 |_,_=>.fail
def andD(d e:D)(S:Store):Res D:=match d,e with
 | .int i,.int j=>.ok (.int (Builtin.bitAnd i j)) S
 |_,_=>.fail
def orD(d e:D)(S:Store):Res D:=match d,e with
 | .int i,.int j=>.ok (.int (Builtin.bitOr i j)) S
 |_,_=>.fail
def opD:Operator→D→D→Store→Res D
 | .Add=>addD| .Sub=>subD| .Mult=>mulD| .FloorDiv=>fdivD| .Mod=>modD| .Pow=>powD| .RShift=>shrD| .LShift=>fun _ _ _=>.fail | .BitAnd=>andD| .BitOr=>orD
 |_=>fun _ _ _=>.fail
section
variable {X:Cx}
theorem b4v'{prog:Program}{w:World}{A:Around}{E:Value→Shared→Prop}{s:Shared}{t b:Addr}{ws:List Value}{Q:Value→Shared→Prop}(ht:IsTup s.heap t #[])(hb:IsTup s.heap b ws.toArray)
  (h1:Q (.ref b) s):wpAny (model prog w) A (binaryOp .Add (.ref t) (.ref b)) Q E s:=by
 obtain⟨⟨cls,dd,data,sl⟩,ho,hc,n,hd⟩:=id ht
 obtain⟨⟨cls2,dd2,data2,sl2⟩,ho2,hc2,n2,hd2⟩:=id hb
 simp only at hc hd hc2 hd2
 subst hc hd hc2 hd2
 exact concat_meets ⟨_,ho,rfl⟩ ⟨_,ho2,rfl⟩ noFill_tuple_add seq_tuple_add PySem.F.slot_tuple_add PySem.F.entry_tuple_add (PySem.F.args_tuple_add_2 _ _)
   (tuple_addW0 t b #[] ws.toArray n n2 dd dd2 sl sl2 rfl) ⟨ho,ho2,h1⟩
theorem b4w':OpR X (binaryOp .Add) (fun x y H Q=>∃a b ys,x=.ref a∧y=.ref b∧SqT X.K H a []∧SqT X.K H b ys∧Q (.ref b) H):=by
 intro pins s σ H x y v u Q I rx ry h
 obtain⟨a,b,ys,rfl,rfl,ha,hb,q⟩:=h
 cases rx
 cases ry
 obtain⟨its,r,pa,_⟩:=I.tuple ha
 obtain⟨its2,r2,pb,_⟩:=I.tuple hb
 have e:=r.zero
 subst e
 exact b4v' pa pb ⟨.ref b,H,I,rfl,q⟩
theorem op_mulG:OpR X (binaryOp .Mult) (rI (fun i j=>Builtin.Int.intBits i≤100000∧Builtin.Int.intBits j≤100000) fun i j=>.int (i*j)):=opI fun _ _ _ _ _ _ _ hc q=>PyProof.Rows.mul_int q (PySem.IntMulOk.of_le hc.1 hc.2 (by decide))
theorem op_D(op:Operator):OpR X (binaryOp op) (rD X.K X.mg (opD op)):=by
 intro pins s σ H x y v u Q I rx ry h
 obtain⟨F,μ,S,d,e,sk,rd,re,w⟩:=h
 have hb:=a7S'
 cases op with
 |Add=>
  replace w:Want X.K ⟨X.mg,F⟩ μ H Q (addD d e S):=w
  unfold addD at w
  split at w
  ·have:=a0e' rd;have:=a0e' re;subst x y
   exact op_add pins s σ H _ _ v u Q I rx ry ⟨_,_,rfl,rfl,w.now sk a1h'⟩
  ·have:=a4d' rd;have:=a4d' re;subst x y
   split at w
   ·exact b0l' pins s σ H _ _ v u Q I rx ry ⟨_,_,rfl,rfl,by omega,w.now sk repStr⟩
   ·exact w.elim
  ·split at w
   ·obtain⟨a,vs,rfl,ha,qa⟩:=a0F' rd
    obtain⟨b,ws,rfl,hb',qb⟩:=a0F' re
    have l1:=qa.length
    have l2:=qb.length
    cases vs with
    |nil=>
     refine b4w' pins s σ H _ _ v u Q I rx ry ⟨a,b,ws,rfl,rfl,ha,hb',?_⟩
     rename_i as bs _
     have:as=[]:=ZH (by simpa using l1)
     subst this
     exact w.now sk re
    |cons v0 vs=>
     refine op_catT pins s σ H _ _ v u Q I rx ry ⟨a,b,v0::vs,ws,rfl,rfl,ha,hb',by simp,by omega,?_,?_⟩
     ·intro hw
      subst hw
      rename_i as bs _
      have:bs=[]:=ZH (by simpa using l2)
      subst this
      rw[List.append_nil]at w
      exact w.now sk rd
     ·intro _ p hp
      exact w.tup sk (qa.append qb) p hp
   ·exact w.elim
  ·split at w
   ·rename_i as bs e1 e2
    split at w
    ·obtain⟨a,vs,rfl,ha,qa⟩:=a0U' sk rd e1
     obtain⟨b,ws,rfl,hb',qb⟩:=a0U' sk re e2
     have l1:=qa.length
     have l2:=qb.length
     exact op_cat pins s σ H _ _ v u Q I rx ry ⟨a,b,vs,ws,rfl,rfl,ha,hb',by omega,fun p hp=>w.lst sk (qa.append qb) p hp⟩
    ·exact w.elim
   ·exact w.elim
 |Sub=>
  replace w:Want X.K ⟨X.mg,F⟩ μ H Q (subD d e S):=w
  unfold subD at w
  split at w
  ·have:=a0e' rd;have:=a0e' re;subst x y
   exact op_sub pins s σ H _ _ v u Q I rx ry ⟨_,_,rfl,rfl,w.now sk a1h'⟩
  ·exact w.elim
 |Mult=>
  replace w:Want X.K ⟨X.mg,F⟩ μ H Q (mulD d e S):=w
  unfold mulD at w
  split at w
  ·have:=a0e' rd;have:=a0e' re;subst x y
   split at w
   ·rename_i hc
    exact op_mul pins s σ H _ _ v u Q I rx ry ⟨_,_,rfl,rfl,hc,w.now sk a1h'⟩
   ·split at w
    ·rename_i hc
     exact op_mulG pins s σ H _ _ v u Q I rx ry ⟨_,_,rfl,rfl,hc,w.now sk a1h'⟩
    ·exact w.elim
  ·split at w
   ·rename_i as k hc
    obtain⟨a,vs,rfl,ha,qa⟩:=a0U' sk rd rfl
    have:=a0e' re;subst y
    have l1:=qa.length
    refine op_rep pins s σ H _ _ v u Q I rx ry ⟨a,k,vs,rfl,rfl,ha,hc.1,hc.2.1,by rw[←l1];omega,fun p hp=>w.lst sk ?_ p hp⟩
    generalize k.toNat=m
    clear hc w
    induction m with
    |zero=>simpa using RepL.nil
    |succ m ih=>rw[List.replicate_succ,List.replicate_succ,List.flatten_cons,List.flatten_cons];exact qa.append ih
   ·exact w.elim
  ·exact w.elim
 |FloorDiv=>
  replace w:Want X.K ⟨X.mg,F⟩ μ H Q (fdivD d e S):=w
  unfold fdivD at w
  split at w
  ·have:=a0e' rd;have:=a0e' re;subst x y
   split at w
   ·rename_i hc
    exact op_fdiv pins s σ H _ _ v u Q I rx ry ⟨_,_,rfl,rfl,hc,w.now sk a1h'⟩
   ·exact w.elim
  ·exact w.elim
 |Mod=>
  replace w:Want X.K ⟨X.mg,F⟩ μ H Q (modD d e S):=w
  unfold modD at w
  split at w
  ·have:=a0e' rd;have:=a0e' re;subst x y
   split at w
   ·rename_i hc
    exact op_mod pins s σ H _ _ v u Q I rx ry ⟨_,_,rfl,rfl,hc,w.now sk a1h'⟩
   ·exact w.elim
  ·exact w.elim
 |Pow=>
  replace w:Want X.K ⟨X.mg,F⟩ μ H Q (powD d e S):=w
  unfold powD at w
  split at w
  ·have:=a0e' rd;have:=a0e' re;subst x y
   split at w
   ·rename_i hc
    exact op_pow pins s σ H _ _ v u Q I rx ry ⟨_,_,rfl,rfl,hc,w.now sk a1h'⟩
   ·exact w.elim
  ·exact w.elim
 |RShift=>
  replace w:Want X.K ⟨X.mg,F⟩ μ H Q (shrD d e S):=w
  unfold shrD at w
  split at w
  ·have:=a0e' rd;have:=a0e' re;subst x y
   split at w
   ·rename_i hc
    exact op_shr pins s σ H _ _ v u Q I rx ry ⟨_,_,rfl,rfl,hc,w.now sk a1h'⟩
   ·exact w.elim
  ·exact w.elim
 |LShift=>exact w.elim
 |BitAnd=>
  replace w:Want X.K ⟨X.mg,F⟩ μ H Q (andD d e S):=w
  unfold andD at w
  split at w
  ·have:=a0e' rd;have:=a0e' re;subst x y
   exact op_and pins s σ H _ _ v u Q I rx ry ⟨_,_,rfl,rfl,w.now sk a1h'⟩
  ·exact w.elim
 |BitOr=>
  replace w:Want X.K ⟨X.mg,F⟩ μ H Q (orD d e S):=w
  unfold orD at w
  split at w
  ·have:=a0e' rd;have:=a0e' re;subst x y
   exact op_or pins s σ H _ _ v u Q I rx ry ⟨_,_,rfl,rfl,w.now sk a1h'⟩
  ·exact w.elim
 |_=>exact w.elim
end
end Py
end
section
namespace Py
open PySem PySem.Spec PyProof.Rows L2
inductive Sh where
 |non|bl (b:Bool)|int (i:Int)|str (x:Str)|tup (xs:List D)|lst (xs:List D)
def sh(S:Store):D→Option Sh
 | .non=>some .non
 | .bl b=>some (.bl b)
 | .int i=>some (.int i)
 | .str x=>some (.str x)
 | .tup xs=>some (.tup xs)
 | .lst xs=>some (.lst xs)
 | .ref n=>(S[n]?).map .lst
 |_=>none
def allO:List (Option Bool)→Option Bool
 | []=>some true
 |o::r=>match o,allO r with
  |some b,some c=>some (b&&c)
  |_,_=>none
def eqS(f:D→D→Option Bool):Sh→Sh→Option Bool
 | .non,.non=>some true
 | .bl a,.bl b=>some (a==b)
 | .int a,.int b=>some (a==b)
 | .str a,.str b=>some (a==b)
 | .bl a,.int b=>some ((if a then 1 else 0)==b)
 | .int a,.bl b=>some (a==(if b then 1 else 0))
 | .tup a,.tup b=>(allO (List.zipWith f a b)).map (· &&a.length==b.length)
 | .lst a,.lst b=>if a.length=b.length then allO (List.zipWith f a b)else some false
 |_,_=>some false
def eqF(S:Store):Nat→D→D→Option Bool
 |0,_,_=>none
 |n+1,d,e=>match sh S d,sh S e with
  |some x,some y=>eqS (eqF S n) x y
  |_,_=>none
def eJ(l:List (Option Bool))(j:Nat):Bool:=match l[j]? with
 |some (some b)=>b
 |_=>true
theorem a4o':∀(l:List (Option Bool)) (k:Bool),allO l=some k→(∀(j:Nat) o,l[j]?=some o→o=some (eJ l j))∧k=(List.range l.length).all (eJ l)
 | [],k,h=>by
  unfold allO at h;cases h
  exact⟨fun j o e=>by simp at e,by simp⟩
 |o::r,k,h=>by
  unfold allO at h
  split at h
  ·rename_i b c e2
   cases h
   obtain⟨h1,h2⟩:=a4o' r c e2
   refine⟨fun j o e=>?_,?_⟩
   ·cases j with
    |zero=>simp at e;subst e;simp[eJ]
    |succ j=>
     have e':r[j]?=some o:=by simpa using e
     rw[h1 j o e']
     simp[eJ]
   ·rw[Zs,List.range_succ_eq_map,List.all_cons,List.all_map,h2]
    rfl
  ·cases h
section
variable {X:Cx}{pins:List (Addr×Obj)}{σ:L2.St}{H:Hp}{s:Shared}{μ:List Addr}{S:Store}{F:List Addr}
def ShIs(K:PySem.W.Frag)(mg:GS)(μ:List Addr)(H:Hp)(s:Shared)(u:Value):Sh→Prop
 | .non=>u=.none
 | .bl b=>u=.bool b
 | .int i=>∃t,u=.int i t
 | .str x=>∃t,u=.str x t
 | .tup ds=>∃a its vs,u=.ref a∧s.heap.IsTuple a its.toArray∧Vals vs its∧RepL K mg μ H ds vs
 | .lst ds=>∃a its vs,u=.ref a∧s.heap.IsList a its.toArray∧Vals vs its∧RepL K mg μ H ds vs
theorem shIs(I:Inv X pins σ H s)(sk:SOk X.K ⟨X.mg,F⟩ μ S H){d:D}{v:V}{u:Value}{x:Sh}(r:Rep X.K ⟨X.mg,F⟩ μ H d v)(q:RelV v u)(e:sh S d=some x):ShIs X.K ⟨X.mg,F⟩ μ H s u x:=by
 cases d with
 |non=>cases e;cases a4A' r;exact q
 |bl b=>cases e;cases a6G' r;exact q
 |int b=>cases e;cases a0e' r;exact q
 |str b=>cases e;cases a4d' r;exact q
 |tup xs=>
  cases e
  obtain⟨a,vs,rfl,h,k⟩:=a0F' r
  cases q
  obtain⟨its,rv,p,_⟩:=I.tuple h
  exact⟨a,its,vs,rfl,p,rv,k⟩
 |lst xs=>
  cases e
  obtain⟨a,vs,rfl,h,k⟩:=a0U' sk r rfl
  cases q
  obtain⟨its,rv,p,_⟩:=I.list (.of h)
  exact⟨a,its,vs,rfl,p.isList,rv,k⟩
 |ref n=>
  replace e:(S[n]?).map Sh.lst=some x:=e
  cases e2:S[n]? with
  |none=>rw[e2]at e;cases e
  |some xs=>
   rw[e2]at e;cases e
   obtain⟨a,vs,rfl,h,k⟩:=a0U' sk r e2
   cases q
   obtain⟨its,rv,p,_⟩:=I.list (.of h)
   exact⟨a,its,vs,rfl,p.isList,rv,k⟩
 |_=>cases e
def Items(A:Around)(s:Shared)(f:D→D→Option Bool)(K:PySem.W.Frag)(mg:GS)(μ:List Addr)(H:Hp):Prop:=
 ∀d e v w u z k,Rep K mg μ H d v→RelV v u→Rep K mg μ H e w→RelV w z→f d e=some k→SeqAt.EqAt A s u z k
theorem b0w'{A:Around}{f:D→D→Option Bool}{K:PySem.W.Frag}{mg:GS}(F:Items A s f K mg μ H){ds es:List D}{vs ws:List V}{us zs:List Value}(r1:RepL K mg μ H ds vs)(q1:Vals vs us)(r2:RepL K mg μ H es ws)(q2:Vals ws zs){k:Bool}
  (h:allO (List.zipWith f ds es)=some k):∀j (h1:j<us.toArray.size) (h2:j<zs.toArray.size),SeqAt.EqAt A s us.toArray[j] zs.toArray[j] (eJ (List.zipWith f ds es) j):=by
 intro j h1 h2
 have l1:=r1.length;have l2:=r2.length;have l3:=q1.length;have l4:=q2.length
 have h1':j<us.length:=by simpa using h1
 have h2':j<zs.length:=by simpa using h2
 have a1:ds[j]?=some (ds[j]'(by omega)):=Ze _
 have a2:es[j]?=some (es[j]'(by omega)):=Ze _
 obtain⟨v,b1,c1⟩:=r1.get a1
 obtain⟨w,b2,c2⟩:=r2.get a2
 obtain⟨u,b3,c3⟩:=q1.get b1
 obtain⟨z,b4,c4⟩:=q2.get b2
 have e1:us.toArray[j]=u:=by
  have:=Zh.mp b3
  obtain⟨_,e⟩:=this
  simpa using e
 have e2:zs.toArray[j]=z:=by
  have:=Zh.mp b4
  obtain⟨_,e⟩:=this
  simpa using e
 rw[e1,e2]
 have hz:(List.zipWith f ds es)[j]?=some (f (ds[j]'(by omega)) (es[j]'(by omega))):=by
  rw[List.getElem?_zipWith,a1,a2]
 exact F _ _ v w u z _ c1 c3 c2 c4 ((a4o' _ _ h).1 j _ hz)
theorem b0x'{f:D→D→Option Bool}{ds es:List D}{k:Bool}(h:allO (List.zipWith f ds es)=some k)(m:Nat)(hm:m=min ds.length es.length):(List.range m).all (eJ (List.zipWith f ds es))=k:=by
 have:=(a4o' _ _ h).2
 rw[this,List.length_zipWith,hm]
open PySem.SeqAt
theorem rcS{A:Around}{K:PySem.W.Frag}{mg:GS}{f:D→D→Option Bool}(F:Items A.in1 s f K mg μ H)(hu:A.units<cLine){u z:Value}:∀{x y:Sh} {k:Bool},ShIs K mg μ H s u x→ShIs K mg μ H s z y→eqS f x y=some k→
  RcAt A s u z k∧RcNeAt A s u z (!k):=by
 intro x y k hx hy h
 cases x with
 |non=>
  cases hx
  cases y with
  |non=>cases hy;cases h;exact⟨RcAt.none_none,RcNeAt.none_none⟩
  |bl b=>cases hy;cases h;exact⟨RcAt.none_bool b,RcNeAt.none_bool b⟩
  |int b=>obtain⟨t,rfl⟩:=hy;cases h;exact⟨RcAt.none_int b t,RcNeAt.none_int b t⟩
  |str b=>obtain⟨t,rfl⟩:=hy;cases h;exact⟨RcAt.none_str b t,RcNeAt.none_str b t⟩
  |tup b=>obtain⟨a,its,vs,rfl,p,_⟩:=hy;cases h;exact⟨RcAt.none_tuple p hu,RcNeAt.none_tuple p hu⟩
  |lst b=>obtain⟨a,its,vs,rfl,p,_⟩:=hy;cases h;exact⟨RcAt.none_list p hu,RcNeAt.none_list p hu⟩
 |bl a=>
  cases hx
  cases y with
  |non=>cases hy;cases h;exact⟨RcAt.bool_none a,RcNeAt.bool_none a⟩
  |bl b=>cases hy;cases h;exact⟨RcAt.bool_bool a b,RcNeAt.bool_bool a b⟩
  |int b=>obtain⟨t,rfl⟩:=hy;cases h;exact⟨RcAt.bool_int a b t,RcNeAt.bool_int a b t⟩
  |str b=>obtain⟨t,rfl⟩:=hy;cases h;exact⟨RcAt.bool_str a b t,RcNeAt.bool_str a b t⟩
  |tup b=>obtain⟨_,its,vs,rfl,p,_⟩:=hy;cases h;exact⟨RcAt.bool_tuple a p hu,RcNeAt.bool_tuple a p hu⟩
  |lst b=>obtain⟨_,its,vs,rfl,p,_⟩:=hy;cases h;exact⟨RcAt.bool_list a p hu,RcNeAt.bool_list a p hu⟩
 |int a=>
  obtain⟨t',rfl⟩:=hx
  cases y with
  |non=>cases hy;cases h;exact⟨RcAt.int_none a t',RcNeAt.int_none a t'⟩
  |bl b=>cases hy;cases h;exact⟨RcAt.int_bool a t' b,RcNeAt.int_bool a t' b⟩
  |int b=>obtain⟨t,rfl⟩:=hy;cases h;exact⟨RcAt.int_int a t' b t,RcNeAt.int_int a t' b t⟩
  |str b=>obtain⟨t,rfl⟩:=hy;cases h;exact⟨RcAt.int_str a t' b t,RcNeAt.int_str a t' b t⟩
  |tup b=>obtain⟨_,its,vs,rfl,p,_⟩:=hy;cases h;exact⟨RcAt.int_tuple a t' p hu,RcNeAt.int_tuple a t' p hu⟩
  |lst b=>obtain⟨_,its,vs,rfl,p,_⟩:=hy;cases h;exact⟨RcAt.int_list a t' p hu,RcNeAt.int_list a t' p hu⟩
 |str a=>
  obtain⟨t',rfl⟩:=hx
  cases y with
  |non=>cases hy;cases h;exact⟨RcAt.str_none a t',RcNeAt.str_none a t'⟩
  |bl b=>cases hy;cases h;exact⟨RcAt.str_bool a t' b,RcNeAt.str_bool a t' b⟩
  |int b=>obtain⟨t,rfl⟩:=hy;cases h;exact⟨RcAt.str_int a t' b t,RcNeAt.str_int a t' b t⟩
  |str b=>obtain⟨t,rfl⟩:=hy;cases h;exact⟨RcAt.str_str a t' b t,RcNeAt.str_str a t' b t⟩
  |tup b=>obtain⟨_,its,vs,rfl,p,_⟩:=hy;cases h;exact⟨RcAt.str_tuple a t' p hu,RcNeAt.str_tuple a t' p hu⟩
  |lst b=>obtain⟨_,its,vs,rfl,p,_⟩:=hy;cases h;exact⟨RcAt.str_list a t' p hu,RcNeAt.str_list a t' p hu⟩
 |tup a=>
  obtain⟨a1,its1,vs1,rfl,p1,q1,r1⟩:=hx
  cases y with
  |non=>cases hy;cases h;exact⟨RcAt.tuple_none p1 hu,RcNeAt.tuple_none p1 hu⟩
  |bl b=>cases hy;cases h;exact⟨RcAt.tuple_bool b p1 hu,RcNeAt.tuple_bool b p1 hu⟩
  |int b=>obtain⟨t,rfl⟩:=hy;cases h;exact⟨RcAt.tuple_int b t p1 hu,RcNeAt.tuple_int b t p1 hu⟩
  |str b=>obtain⟨t,rfl⟩:=hy;cases h;exact⟨RcAt.tuple_str b t p1 hu,RcNeAt.tuple_str b t p1 hu⟩
  |tup b=>
   obtain⟨a2,its2,vs2,rfl,p2,q2,r2⟩:=hy
   replace h:(allO (List.zipWith f a b)).map (· &&a.length==b.length)=some k:=h
   obtain⟨k1,e1,e2⟩:=Yc.mp h
   have hz:=b0w' F r1 q1 r2 q2 e1
   have l1:=r1.length;have l2:=r2.length;have l3:=q1.length;have l4:=q2.length
   have e3:k=((List.range (min its1.toArray.size its2.toArray.size)).all (eJ (List.zipWith f a b))&&its1.toArray.size==its2.toArray.size):=by
    rw[←e2,b0x' e1 _ (by rw[Zg,Zg,←l3,←l4,←l1,←l2]),Zg,Zg,←l3,←l4,←l1,←l2]
   rw[e3]
   exact⟨RcAt.tuples p1 p2 hu hz,RcNeAt.tuples p1 p2 hu hz⟩
  |lst b=>obtain⟨a2,its2,vs2,rfl,p2,_⟩:=hy;cases h;exact⟨RcAt.tuple_list p1 p2 hu,RcNeAt.tuple_list p1 p2 hu⟩
 |lst a=>
  obtain⟨a1,its1,vs1,rfl,p1,q1,r1⟩:=hx
  cases y with
  |non=>cases hy;cases h;exact⟨RcAt.list_none p1 hu,RcNeAt.list_none p1 hu⟩
  |bl b=>cases hy;cases h;exact⟨RcAt.list_bool b p1 hu,RcNeAt.list_bool b p1 hu⟩
  |int b=>obtain⟨t,rfl⟩:=hy;cases h;exact⟨RcAt.list_int b t p1 hu,RcNeAt.list_int b t p1 hu⟩
  |str b=>obtain⟨t,rfl⟩:=hy;cases h;exact⟨RcAt.list_str b t p1 hu,RcNeAt.list_str b t p1 hu⟩
  |tup b=>obtain⟨a2,its2,vs2,rfl,p2,_⟩:=hy;cases h;exact⟨RcAt.list_tuple p1 p2 hu,RcNeAt.list_tuple p1 p2 hu⟩
  |lst b=>
   obtain⟨a2,its2,vs2,rfl,p2,q2,r2⟩:=hy
   have l1:=r1.length;have l2:=r2.length;have l3:=q1.length;have l4:=q2.length
   replace h:(if a.length=b.length then allO (List.zipWith f a b)else some false)=some k:=h
   split at h
   ·rename_i hl
    have hz:=b0w' F r1 q1 r2 q2 h
    have e3:k=(List.range its1.toArray.size).all (eJ (List.zipWith f a b)):=by
     rw[b0x' h _ (by rw[Zg,←l3,←l1];omega)]
    rw[e3]
    have hs:its1.toArray.size=its2.toArray.size:=by rw[Zg,Zg];omega
    exact⟨RcAt.lists p1 p2 hs hu hz,RcNeAt.lists p1 p2 hs hu hz⟩
   ·rename_i hl
    cases h
    have hs:(its1.toArray.size !=its2.toArray.size)=true:=by rw[Zg,Zg];simp;omega
    exact⟨RcAt.lists_lengths p1 p2 hs hu,RcNeAt.lists_lengths p1 p2 hs hu⟩
theorem b3x'(I:Inv X pins σ H s)(sk:SOk X.K ⟨X.mg,F⟩ μ S H):∀(n:Nat) (d e:D) (v:V) (k:Bool),Rep X.K ⟨X.mg,F⟩ μ H d v→Rep X.K ⟨X.mg,F⟩ μ H e v→eqF S n d e=some k→k=true:=by
 intro n
 induction n with
 |zero=>intro d e v k _ _ h;cases h
 |succ n ih=>
  intro d e v k rd re h
  have lists:∀(ds es:List D) (vs:List V) (k:Bool),RepL X.K ⟨X.mg,F⟩ μ H ds vs→RepL X.K ⟨X.mg,F⟩ μ H es vs→allO (List.zipWith (eqF S n) ds es)=some k→k=true:=by
   intro ds
   induction ds with
   |nil=>intro es vs k _ _ h;cases h;rfl
   |cons d ds ihl=>
    intro es vs k r1 r2 h
    obtain⟨v,ws,rfl,a1,b1⟩:=r1.uncons
    cases es with
    |nil=>cases h;rfl
    |cons e es=>
     obtain⟨v',ws',e1,a2,b2⟩:=r2.uncons
     cases e1
     rw[List.zipWith_cons_cons]at h
     unfold allO at h
     split at h
     ·rename_i x y e1 e2
      cases h
      rw[ih d e v x a1 a2 e1,ihl es ws y b1 b2 e2]
      rfl
     ·cases h
  unfold eqF at h
  cases e1:sh S d with
  |none=>rw[e1]at h;cases h
  |some x=>
   cases e2:sh S e with
   |none=>rw[e1,e2]at h;cases h
   |some y=>
    rw[e1,e2]at h
    replace h:eqS (eqF S n) x y=some k:=h
    obtain⟨u,ru⟩:∃u,RelV v u:=by
     cases v with
     |non=>exact⟨_,rfl⟩
     |bl b=>exact⟨_,rfl⟩
     |int i=>exact⟨.int i 0,0,rfl⟩
     |str x=>exact⟨.str x 0,0,rfl⟩
     |byt x=>exact⟨.bytes x 0,0,rfl⟩
     |flt x=>exact⟨.float x 0,0,rfl⟩
     |ref a=>exact⟨_,rfl⟩
     |ty n=>exact⟨_,rfl⟩
    have s1:=shIs I sk rd ru e1
    have s2:=shIs I sk re ru e2
    have len:∀{ds es:List D} {vs ws:List V} {us:List Value},RepL X.K ⟨X.mg,F⟩ μ H ds vs→Vals vs us→RepL X.K ⟨X.mg,F⟩ μ H es ws→Vals ws us→vs=ws∧ds.length=es.length:=fun r1 q1 r2 q2=>by
     have:=q1.inj q2
     subst this
     exact⟨rfl,r1.length.trans r2.length.symm⟩
    cases x with
    |non=>
     cases s1
     cases y with
     |non=>cases h;rfl
     |bl b=>cases s2
     |int b=>obtain⟨t,z⟩:=s2;cases z
     |str b=>obtain⟨t,z⟩:=s2;cases z
     |tup b=>obtain⟨_,_,_,z,_⟩:=s2;cases z
     |lst b=>obtain⟨_,_,_,z,_⟩:=s2;cases z
    |bl a=>
     cases s1
     cases y with
     |non=>cases s2
     |bl b=>cases s2;cases h;simp
     |int b=>obtain⟨t,z⟩:=s2;cases z
     |str b=>obtain⟨t,z⟩:=s2;cases z
     |tup b=>obtain⟨_,_,_,z,_⟩:=s2;cases z
     |lst b=>obtain⟨_,_,_,z,_⟩:=s2;cases z
    |int a=>
     obtain⟨t',rfl⟩:=s1
     cases y with
     |non=>cases s2
     |bl b=>cases s2
     |int b=>obtain⟨t,z⟩:=s2;cases z;cases h;simp
     |str b=>obtain⟨t,z⟩:=s2;cases z
     |tup b=>obtain⟨_,_,_,z,_⟩:=s2;cases z
     |lst b=>obtain⟨_,_,_,z,_⟩:=s2;cases z
    |str a=>
     obtain⟨t',rfl⟩:=s1
     cases y with
     |non=>cases s2
     |bl b=>cases s2
     |int b=>obtain⟨t,z⟩:=s2;cases z
     |str b=>obtain⟨t,z⟩:=s2;cases z;cases h;simp
     |tup b=>obtain⟨_,_,_,z,_⟩:=s2;cases z
     |lst b=>obtain⟨_,_,_,z,_⟩:=s2;cases z
    |tup a=>
     obtain⟨a1,its1,vs1,rfl,p1,q1,r1⟩:=s1
     cases y with
     |non=>cases s2
     |bl b=>cases s2
     |int b=>obtain⟨t,z⟩:=s2;cases z
     |str b=>obtain⟨t,z⟩:=s2;cases z
     |tup b=>
      obtain⟨a2,its2,vs2,z,p2,q2,r2⟩:=s2
      cases z
      have hi:its1=its2:=by
       obtain⟨o,ho,_,n,hd⟩:=p1
       obtain⟨o',ho',_,n',hd'⟩:=p2
       rw[ho]at ho';cases ho'
       rw[hd]at hd';injection hd' with z _
       simpa using congrArg Array.toList z
      subst hi
      obtain⟨rfl,hl⟩:=len r1 q1 r2 q2
      replace h:(allO (List.zipWith (eqF S n) a b)).map (· &&a.length==b.length)=some k:=h
      obtain⟨k1,e3,e4⟩:=Yc.mp h
      rw[←e4,lists a b vs1 k1 r1 r2 e3,hl]
      simp
     |lst b=>
      obtain⟨a2,its2,vs2,z,p2,q2,r2⟩:=s2
      cases z
      obtain⟨o,ho,c,n,hd⟩:=p1
      obtain⟨o',ho',c',n',hd'⟩:=p2
      rw[ho]at ho';cases ho'
      rw[c]at c';exact absurd c' (by decide)
    |lst a=>
     obtain⟨a1,its1,vs1,rfl,p1,q1,r1⟩:=s1
     cases y with
     |non=>cases s2
     |bl b=>cases s2
     |int b=>obtain⟨t,z⟩:=s2;cases z
     |str b=>obtain⟨t,z⟩:=s2;cases z
     |tup b=>
      obtain⟨a2,its2,vs2,z,p2,q2,r2⟩:=s2
      cases z
      obtain⟨o,ho,c,n,hd⟩:=p1
      obtain⟨o',ho',c',n',hd'⟩:=p2
      rw[ho]at ho';cases ho'
      rw[c]at c';exact absurd c' (by decide)
     |lst b=>
      obtain⟨a2,its2,vs2,z,p2,q2,r2⟩:=s2
      cases z
      have hi:its1=its2:=by
       obtain⟨o,ho,_,n,hd⟩:=p1
       obtain⟨o',ho',_,n',hd'⟩:=p2
       rw[ho]at ho';cases ho'
       rw[hd]at hd';injection hd' with z _
       simpa using congrArg Array.toList z
      subst hi
      obtain⟨rfl,hl⟩:=len r1 q1 r2 q2
      replace h:(if a.length=b.length then allO (List.zipWith (eqF S n) a b)else some false)=some k:=h
      rw[if_pos hl]at h
      exact lists a b vs1 k r1 r2 h
theorem rcF(I:Inv X pins σ H s)(sk:SOk X.K ⟨X.mg,F⟩ μ S H):∀(n:Nat) (A:Around),A.units+n<cLine→∀d e v w u z k,Rep X.K ⟨X.mg,F⟩ μ H d v→RelV v u→Rep X.K ⟨X.mg,F⟩ μ H e w→RelV w z→eqF S n d e=some k→
  RcAt A s u z k∧RcNeAt A s u z (!k)∧EqAt A s u z k:=by
 intro n
 induction n with
 |zero=>intro A _ d e v w u z k _ _ _ _ h;cases h
 |succ n ih=>
  intro A hA d e v w u z k rd ru re rz h
  have self:=fun(hv:v=w)=>b3x' I sk (n+1) d e v k rd (hv▸re) h
  unfold eqF at h
  cases e1:sh S d with
  |none=>rw[e1]at h;cases h
  |some x=>
   cases e2:sh S e with
   |none=>rw[e1,e2]at h;cases h
   |some y=>
    rw[e1,e2]at h
    replace h:eqS (eqF S n) x y=some k:=h
    have s1:=shIs I sk rd ru e1
    have s2:=shIs I sk re rz e2
    have hin:A.in1.units=A.units+1:=rfl
    have F:Items A.in1 s (eqF S n) X.K ⟨X.mg,F⟩ μ H:=fun d e v w u z k a b c d' h=>(ih A.in1 (by omega) d e v w u z k a b c d' h).2.2
    obtain⟨c1,c2⟩:=rcS F (by omega) s1 s2 h
    refine⟨c1,c2,?_⟩
    have refs:∀{l b:Addr},u=.ref l→z=.ref b→EqAt A s u z k:=fun{l b} eu ez=>by
     subst eu;subst ez
     by_cases hl:l=b
     ·subst hl
      have hv:v=w:=by
       cases v<;>first| (cases ru;done)|skip
       all_goals first| (obtain⟨_,q⟩:=ru;cases q;done)|skip
       cases w<;>first| (cases rz;done)|skip
       all_goals first| (obtain⟨_,q⟩:=rz;cases q;done)|skip
       cases ru;cases rz;rfl
      rw[self hv]
      exact EqAt.same _
     ·exact .of_refs hl c1
    have hu:A.units<cLine:=by omega
    cases x with
    |non=>
     cases s1
     cases y with
     |non=>cases s2;cases h;exact EqAt.same _
     |bl b=>cases s2;cases h;exact EqAt.none_bool b
     |int b=>obtain⟨t,rfl⟩:=s2;cases h;exact EqAt.none_int b t
     |str b=>obtain⟨t,rfl⟩:=s2;cases h;exact EqAt.none_str b t
     |tup b=>obtain⟨a,its,vs,rfl,p,_⟩:=s2;cases h;exact EqAt.none_tuple p hu
     |lst b=>obtain⟨a,its,vs,rfl,p,_⟩:=s2;cases h;exact EqAt.none_list p hu
    |bl a=>
     cases s1
     cases y with
     |non=>cases s2;cases h;exact EqAt.bool_none a
     |bl b=>cases s2;cases h;exact EqAt.bool_bool a b
     |int b=>obtain⟨t,rfl⟩:=s2;cases h;exact EqAt.bool_int a b t
     |str b=>obtain⟨t,rfl⟩:=s2;cases h;exact EqAt.bool_str a b t
     |tup b=>obtain⟨_,its,vs,rfl,p,_⟩:=s2;cases h;exact EqAt.bool_tuple a p hu
     |lst b=>obtain⟨_,its,vs,rfl,p,_⟩:=s2;cases h;exact EqAt.bool_list a p hu
    |int a=>
     obtain⟨t',rfl⟩:=s1
     cases y with
     |non=>cases s2;cases h;exact EqAt.int_none a t'
     |bl b=>cases s2;cases h;exact EqAt.int_bool a t' b
     |int b=>obtain⟨t,rfl⟩:=s2;cases h;exact EqAt.int_int a t' b t
     |str b=>obtain⟨t,rfl⟩:=s2;cases h;exact EqAt.int_str a t' b t
     |tup b=>obtain⟨_,its,vs,rfl,p,_⟩:=s2;cases h;exact EqAt.int_tuple a t' p hu
     |lst b=>obtain⟨_,its,vs,rfl,p,_⟩:=s2;cases h;exact EqAt.int_list a t' p hu
    |str a=>
     obtain⟨t',rfl⟩:=s1
     cases y with
     |non=>cases s2;cases h;exact EqAt.str_none a t'
     |bl b=>cases s2;cases h;exact EqAt.str_bool a t' b
     |int b=>obtain⟨t,rfl⟩:=s2;cases h;exact EqAt.str_int a t' b t
     |str b=>obtain⟨t,rfl⟩:=s2;cases h;exact EqAt.str_str a t' b t
     |tup b=>obtain⟨_,its,vs,rfl,p,_⟩:=s2;cases h;exact EqAt.str_tuple a t' p hu
     |lst b=>obtain⟨_,its,vs,rfl,p,_⟩:=s2;cases h;exact EqAt.str_list a t' p hu
    |tup a=>
     obtain⟨a1,its1,vs1,rfl,p1,_⟩:=s1
     cases y with
     |non=>cases s2;cases h;exact EqAt.tuple_none p1 hu
     |bl b=>cases s2;cases h;exact EqAt.tuple_bool b p1 hu
     |int b=>obtain⟨t,rfl⟩:=s2;cases h;exact EqAt.tuple_int b t p1 hu
     |str b=>obtain⟨t,rfl⟩:=s2;cases h;exact EqAt.tuple_str b t p1 hu
     |tup b=>obtain⟨_,its,vs,rfl,p,_⟩:=s2;exact refs rfl rfl
     |lst b=>obtain⟨_,its,vs,rfl,p,_⟩:=s2;exact refs rfl rfl
    |lst a=>
     obtain⟨a1,its1,vs1,rfl,p1,_⟩:=s1
     cases y with
     |non=>cases s2;cases h;exact EqAt.list_none p1 hu
     |bl b=>cases s2;cases h;exact EqAt.list_bool b p1 hu
     |int b=>obtain⟨t,rfl⟩:=s2;cases h;exact EqAt.list_int b t p1 hu
     |str b=>obtain⟨t,rfl⟩:=s2;cases h;exact EqAt.list_str b t p1 hu
     |tup b=>obtain⟨_,its,vs,rfl,p,_⟩:=s2;exact refs rfl rfl
     |lst b=>obtain⟨_,its,vs,rfl,p,_⟩:=s2;exact refs rfl rfl
end
end Py
end
section
namespace Py
open PySem PySem.Spec PyProof.Rows L2
def ltL(eq lt:D→D→Option Bool):List D→List D→Option Bool
 | [],[]=>some false
 | [],_::_=>some true
 |_::_,[]=>some false
 |a::as,b::bs=>match eq a b with
  |some true=>ltL eq lt as bs
  |some false=>lt a b
  |none=>none
def ltF(S:Store):Nat→D→D→Option Bool
 |0,_,_=>none
 |n+1,.int a,.int b=>some (decide (a<b))
 |n+1,.tup a,.tup b=>ltL (eqF S n) (ltF S n) a b
 |_,_,_=>none
open PySem.SeqAt
def LtAt(A:Around)(s:Shared)(y x:Value)(b:Bool):Prop:=
 ∀(prog:Program) (w:World) (E:Value→Shared→Prop) (Q:Value→Shared→Prop),Q (.bool b) s→wpAny (model prog w) A (richCompare .Lt y x) Q E s
inductive LexAt (A:Around)(s:Shared):List Value→List Value→Bool→Prop where
 |nn:LexAt A s [] [] false
 |nc {w ws}:LexAt A s [] (w::ws) true
 |cn {v vs}:LexAt A s (v::vs) [] false
 |eq {v w vs ws k}:EqAt A s v w true→LexAt A s vs ws k→LexAt A s (v::vs) (w::ws) k
 |lt {v w vs ws k}:EqAt A s v w false→LtAt A s v w k→LexAt A s (v::vs) (w::ws) k
section
open PySem.AutoSeq1 (wpAny_loadPart')
open PySem.MeetsSeq PySem.MeetsSeq2 PySem.MeetsSeq3
theorem a6H'(l b:Addr)(items items2:Array Value)(n n2:Nat)(dd dd2:Option Addr)(sl sl2:Array (Option Value))(k:Bool):
  Meets (Builtin.«tuple.__lt__» ⟨[.ref l,.ref b],[]⟩)
   (fun A R s=>s.heap.get? l=some {cls:=.type "tuple",dict:=dd,data:=.seq items n,slots:=sl}∧s.heap.get? b=some {cls:=.type "tuple",dict:=dd2,data:=.seq items2 n2,slots:=sl2}∧
    LexAt A.in1 s items.toList items2.toList k∧R (.ok (.ret (.bool k))) s):=
 .of_wp fun prog w A R s h=>by
  obtain⟨hp,g,d,tk,os⟩:=s;obtain⟨hl,hb,hx,h⟩:=h
  have f2:=AutoSeq1.sub_tuple_tuple
  wp_walk using wpAny_loadPart' hl,wpAny_loadPart' hb,wpAny_forIn_list _ (fun rest b s'=>b.1=none∧s'=⟨hp,g,d,tk,os⟩∧∃(vs ws:List Value),rest=vs.zip ws∧
   LexAt A.in1 ⟨hp,g,d,tk,os⟩ vs ws k∧vs.length+items2.size=ws.length+items.size∧R (.ok (.ret (.bool k))) ⟨hp,g,d,tk,os⟩) _
  case turn=>
   rintro⟨y,x⟩ rest b s' ⟨hb',rfl,vs,ws,hz,hvi,hlen,hR⟩
   cases hvi with
   |nn=>rw[List.zip_nil_left]at hz;cases hz
   |nc=>rw[List.zip_nil_left]at hz;cases hz
   |cn=>rw[List.zip_nil_right]at hz;cases hz
   |eq he hr=>
    rw[List.zip_cons_cons]at hz
    injection hz with hyx hrest
    injection hyx with hy hx
    subst hy hx
    simp only[Zs]at hlen
    refine Zc (he prog w _ _ ?_)
    wp_walk
    exact⟨rfl,rfl,_,_,hrest,hr,by omega,hR⟩
   |lt he hr=>
    rw[List.zip_cons_cons]at hz
    injection hz with hyx hrest
    injection hyx with hy hx
    subst hy hx
    refine Zc (he prog w _ _ ?_)
    have hri:=fun(E:Value→Shared→Prop) (Q:Value→Shared→Prop)=>hr prog w E Q
    wp_walk using hri
    exact⟨_,rfl,by simpa using hR⟩
  case fin=>
   rintro⟨b1,b2⟩ s' ⟨hb',rfl,vs,ws,hz,hvi,hlen,hR⟩
   simp only at hb'
   subst hb'
   have hv:k=decide (items.size<items2.size):=by
    cases hvi with
    |nn=>simp only[Z6]at hlen;exact(Zz (by omega)).symm
    |nc=>simp only[Z6,Zs]at hlen;exact(Zy (by omega)).symm
    |cn=>simp only[Z6,Zs]at hlen;exact(Zz (by omega)).symm
    |eq he hr=>rw[List.zip_cons_cons]at hz;cases hz
    |lt he hr=>rw[List.zip_cons_cons]at hz;cases hz
   rw[hv]at hR
   wp_walk
   exact⟨_,rfl,by simpa[Builtin.Tuple.tupleCompareSizes]using hR⟩
  case h=>
   exact⟨rfl,rfl,items.toList,items2.toList,rfl,hx,by simp;omega,h⟩
end
theorem LtAt.tuples{A:Around}{s:Shared}{l b:Addr}{vs ws:List Value}{k:Bool}(hl:s.heap.IsTuple l vs.toArray)(hb:s.heap.IsTuple b ws.toArray)(hu:A.units<cLine)(hx:LexAt A.in1 s vs ws k):LtAt A s (.ref l) (.ref b) k:=fun prog w E Q h=>by
 obtain⟨⟨cls,dd,data,sl⟩,ho,hc,n,hd⟩:=id hl
 obtain⟨⟨cls2,dd2,data2,sl2⟩,ho2,hc2,n2,hd2⟩:=id hb
 simp only at hc hd hc2 hd2
 subst hc hd hc2 hd2
 exact richCompare_meets_room (op:=.Lt) ⟨_,ho,rfl⟩ ⟨_,ho2,rfl⟩ PySem.F.slot_tuple_lt PySem.F.entry_tuple_lt (PySem.F.args_tuple_lt_2 _ _) (a6H' l b vs.toArray ws.toArray n n2 dd dd2 sl sl2 k)
  ⟨ho,ho2,by simpa using hx,show Value.bool k≠Value.notImplemented∧Q (.bool k) s from⟨(fun x=>nomatch x),h⟩⟩ hu
def LeAt(A:Around)(s:Shared)(y x:Value)(b:Bool):Prop:=
 ∀(prog:Program) (w:World) (E:Value→Shared→Prop) (Q:Value→Shared→Prop),Q (.bool b) s→wpAny (model prog w) A (richCompare .LtE y x) Q E s
inductive LexLe (A:Around)(s:Shared):List Value→List Value→Bool→Prop where
 |nl {ws}:LexLe A s [] ws true
 |cn {v vs}:LexLe A s (v::vs) [] false
 |eq {v w vs ws k}:EqAt A s v w true→LexLe A s vs ws k→LexLe A s (v::vs) (w::ws) k
 |le {v w vs ws k}:EqAt A s v w false→LeAt A s v w k→LexLe A s (v::vs) (w::ws) k
section
open PySem.AutoSeq1 (wpAny_loadPart')
open PySem.MeetsSeq PySem.MeetsSeq2 PySem.MeetsSeq3
theorem b0y'(l b:Addr)(xs ys:Array Value)(n n2:Nat)(dd dd2:Option Addr)(sl sl2:Array (Option Value))(k:Bool):
  Meets (Builtin.«tuple.__le__» ⟨[.ref l,.ref b],[]⟩)
   (fun A R s=>s.heap.get? l=some {cls:=.type "tuple",dict:=dd,data:=.seq xs n,slots:=sl}∧s.heap.get? b=some {cls:=.type "tuple",dict:=dd2,data:=.seq ys n2,slots:=sl2}∧
    LexLe A.in1 s xs.toList ys.toList k∧R (.ok (.ret (.bool k))) s):=
 .of_wp fun prog w A R s h=>by
  obtain⟨hp,g,d,tk,os⟩:=s;obtain⟨hl,hb,hx,h⟩:=h
  have f2:=AutoSeq1.sub_tuple_tuple
  wp_walk using wpAny_loadPart' hl,wpAny_loadPart' hb,wpAny_forIn_list _ (fun rest b s'=>b.1=none∧s'=⟨hp,g,d,tk,os⟩∧∃(vs ws:List Value),rest=vs.zip ws∧
   LexLe A.in1 ⟨hp,g,d,tk,os⟩ vs ws k∧vs.length+ys.size=ws.length+xs.size∧R (.ok (.ret (.bool k))) ⟨hp,g,d,tk,os⟩) _
  case turn=>
   rintro⟨y,x⟩ rest b s' ⟨hb',rfl,vs,ws,hz,hvi,hlen,hR⟩
   cases hvi with
   |nl=>rw[List.zip_nil_left]at hz;cases hz
   |cn=>rw[List.zip_nil_right]at hz;cases hz
   |eq he hr=>
    rw[List.zip_cons_cons]at hz
    injection hz with hyx hrest
    injection hyx with hy hx
    subst hy hx
    simp only[Zs]at hlen
    refine Zc (he prog w _ _ ?_)
    wp_walk
    exact⟨rfl,rfl,_,_,hrest,hr,by omega,hR⟩
   |le he hr=>
    rw[List.zip_cons_cons]at hz
    injection hz with hyx hrest
    injection hyx with hy hx
    subst hy hx
    refine Zc (he prog w _ _ ?_)
    have hri:=fun(E:Value→Shared→Prop) (Q:Value→Shared→Prop)=>hr prog w E Q
    wp_walk using hri
    exact⟨_,rfl,by simpa using hR⟩
  case fin=>
   rintro⟨b1,b2⟩ s' ⟨hb',rfl,vs,ws,hz,hvi,hlen,hR⟩
   simp only at hb'
   subst hb'
   have hv:k=decide (xs.size≤ys.size):=by
    cases hvi with
    |nl=>simp only[Z6]at hlen;exact(Zy (by omega)).symm
    |cn=>simp only[Z6,Zs]at hlen;exact(Zz (by omega)).symm
    |eq he hr=>rw[List.zip_cons_cons]at hz;cases hz
    |le he hr=>rw[List.zip_cons_cons]at hz;cases hz
   rw[hv]at hR
   wp_walk
   exact⟨_,rfl,by simpa[Builtin.Tuple.tupleCompareSizes]using hR⟩
  case h=>
   exact⟨rfl,rfl,xs.toList,ys.toList,rfl,hx,by simp;omega,h⟩
end
theorem b2s'{A:Around}{s:Shared}{l b:Addr}{vs ws:List Value}{k:Bool}(hl:s.heap.IsTuple l vs.toArray)(hb:s.heap.IsTuple b ws.toArray)(hu:A.units<cLine)(hx:LexLe A.in1 s vs ws k):LeAt A s (.ref l) (.ref b) k:=fun prog w E Q h=>by
 obtain⟨⟨cls,dd,data,sl⟩,ho,hc,n,hd⟩:=id hl
 obtain⟨⟨cls2,dd2,data2,sl2⟩,ho2,hc2,n2,hd2⟩:=id hb
 simp only at hc hd hc2 hd2
 subst hc hd hc2 hd2
 exact richCompare_meets_room (op:=.LtE) ⟨_,ho,rfl⟩ ⟨_,ho2,rfl⟩ PySem.F.slot_tuple_le PySem.F.entry_tuple_le (PySem.F.args_tuple_le_2 _ _) (b0y' l b vs.toArray ws.toArray n n2 dd dd2 sl sl2 k)
  ⟨ho,ho2,by simpa using hx,show Value.bool k≠Value.notImplemented∧Q (.bool k) s from⟨(fun x=>nomatch x),h⟩⟩ hu
def leI:List D→List D→Option Bool
 | [],_=>some true
 |_::_,[]=>some false
 | .int a::as,.int b::bs=>if a=b then leI as bs else some (decide (a≤b))
 |_::_,_::_=>none
theorem leI_at{K:PySem.W.Frag}{mg:GS}{μ:List Addr}{H:Hp}{A:Around}{s:Shared}:∀(ds es:List D) (vs ws:List V) (us zs:List Value) (k:Bool),RepL K mg μ H ds vs→Vals vs us→RepL K mg μ H es ws→Vals ws zs→leI ds es=some k→LexLe A s us zs k
 | [],es,vs,ws,us,zs,k,r1,q1,r2,q2,h=>by
  unfold RepL at r1;subst r1;have:=q1.zero;subst this
  cases h
  exact .nl
 |d::ds,[],vs,ws,us,zs,k,r1,q1,r2,q2,h=>by
  obtain⟨v,vs,rfl,a1,b1⟩:=r1.uncons
  unfold RepL at r2;subst r2;have:=q2.zero;subst this
  cases q1
  have h':some false=some k:=by cases d<;>exact h
  cases h'
  exact .cn
 |d::ds,e::es,vs,ws,us,zs,k,r1,q1,r2,q2,h=>by
  obtain⟨v,vs,rfl,a1,b1⟩:=r1.uncons
  obtain⟨w,ws,rfl,a2,b2⟩:=r2.uncons
  cases d with
  |int a=>cases e with
   |int b=>
    have:=a0e' a1;have:=a0e' a2;subst v w
    cases q1 with
    |cons c1 d1=>cases q2 with
     |cons c2 d2=>
      obtain⟨t,rfl⟩:=c1;obtain⟨t',rfl⟩:=c2
      have h':(if a=b then leI ds es else some (decide (a≤b)))=some k:=h
      have he:=EqAt.int_int (A:=A) (s:=s) a t b t'
      by_cases hab:a=b
      ·rw[if_pos hab]at h'
       have e1:(a==b)=true:=by simpa using hab
       rw[e1]at he
       exact .eq he (leI_at ds es vs ws _ _ k b1 d1 b2 d2 h')
      ·rw[if_neg hab]at h'
       have e1:(a==b)=false:=by simpa using hab
       rw[e1]at he
       cases h'
       exact .le he fun prog w E Q hq=>(PyProof.Rows.le_int hq:wpAny (model prog w) A (compareOp .LtE (.int _ t) (.int _ t')) Q E s)
   |_=>cases h
  |_=>
   have h':(none:Option Bool)=some k:=by cases e<;>exact h
   cases h'
section
variable {X:Cx}{pins:List (Addr×Obj)}{σ:L2.St}{H:Hp}{s:Shared}{μ:List Addr}{S:Store}{F:List Addr}
theorem ltF_at(I:Inv X pins σ H s)(sk:SOk X.K ⟨X.mg,F⟩ μ S H):∀(n:Nat) (A:Around),A.units+n<cLine→∀d e v w u z k,Rep X.K ⟨X.mg,F⟩ μ H d v→RelV v u→Rep X.K ⟨X.mg,F⟩ μ H e w→RelV w z→ltF S n d e=some k→LtAt A s u z k:=by
 intro n
 induction n with
 |zero=>intro A _ d e v w u z k _ _ _ _ h;cases h
 |succ n ih=>
  intro A hA d e v w u z k rd ru re rz h
  have hin:A.in1.units=A.units+1:=rfl
  have lex:∀(ds es:List D) (vs ws:List V) (us zs:List Value),RepL X.K ⟨X.mg,F⟩ μ H ds vs→Vals vs us→RepL X.K ⟨X.mg,F⟩ μ H es ws→Vals ws zs→ltL (eqF S n) (ltF S n) ds es=some k→LexAt A.in1 s us zs k:=by
   intro ds
   induction ds with
   |nil=>
    intro es vs ws us zs r1 q1 r2 q2 h
    unfold RepL at r1;subst r1;have:=q1.zero;subst this
    cases es with
    |nil=>unfold RepL at r2;subst r2;have:=q2.zero;subst this;cases h;exact .nn
    |cons e es=>obtain⟨w,ws,rfl,_,_⟩:=r2.uncons;cases q2;cases h;exact .nc
   |cons d ds ihl=>
    intro es vs ws us zs r1 q1 r2 q2 h
    obtain⟨v,vs,rfl,a1,b1⟩:=r1.uncons
    cases q1 with
    |cons c1 d1=>
     cases es with
     |nil=>unfold RepL at r2;subst r2;have:=q2.zero;subst this;cases h;exact .cn
     |cons e es=>
      obtain⟨w,ws,rfl,a2,b2⟩:=r2.uncons
      cases q2 with
      |cons c2 d2=>
       unfold ltL at h
       split at h
       ·rename_i he
        exact .eq (rcF I sk n A.in1 (by omega) d e v w _ _ true a1 c1 a2 c2 he).2.2 (ihl es vs ws _ _ b1 d1 b2 d2 h)
       ·rename_i he
        exact .lt (rcF I sk n A.in1 (by omega) d e v w _ _ false a1 c1 a2 c2 he).2.2 (ih A.in1 (by omega) d e v w _ _ k a1 c1 a2 c2 h)
       ·cases h
  unfold ltF at h
  split at h
  ·rename_i h0;cases h0
  ·have:=a0e' rd;have:=a0e' re;subst v w
   obtain⟨t,rfl⟩:=ru;obtain⟨t',rfl⟩:=rz
   cases h
   exact fun prog w E Q hq=>(PyProof.Rows.lt_int hq:wpAny (model prog w) A (compareOp .Lt (.int _ t) (.int _ t')) Q E s)
  ·rename_i n' ds es heq
   cases heq
   obtain⟨a,vs,rfl,h1,r1⟩:=a0F' rd
   obtain⟨b,ws,rfl,h2,r2⟩:=a0F' re
   cases ru;cases rz
   obtain⟨us,q1,p1,_⟩:=I.tuple h1
   obtain⟨zs,q2,p2,_⟩:=I.tuple h2
   exact LtAt.tuples p1 p2 (by omega) (lex ds es vs ws us zs r1 q1 r2 q2 h)
  ·cases h
def deep:Nat:=40
def isNon:D→Bool
 | .non=>true
 |_=>false
def boolR(o:Option Bool)(S:Store):Res D:=match o with
 |some k=>.ok (.bl k) S
 |none=>.fail
def anyO(l:List (Option Bool)):Option Bool:=(allO (l.map fun o=>o.map not)).map not
def inD(d e:D)(S:Store):Option Bool:=match seqOf S e with
 |some xs=>anyO (xs.map fun y=>eqF S deep y d)
 |none=>none
def leD(d e:D)(S:Store):Res D:=match d,e with
 | .int i,.int j=>.ok (.bl (decide (i≤j))) S
 | .tup a,.tup b=>boolR (leI a b) S
 |_,_=>.fail
def gtD(d e:D)(S:Store):Res D:=match d,e with
 | .int i,.int j=>.ok (.bl (decide (j<i))) S
 |_,_=>.fail
def geD(d e:D)(S:Store):Res D:=match d,e with
 | .int i,.int j=>.ok (.bl (decide (j≤i))) S
 |_,_=>.fail
def isD(d e:D)(S:Store):Res D:=match e with
 | .non=>.ok (.bl (isNon d)) S
 |_=>.fail
def b4x'(d e:D)(S:Store):Res D:=match e with
 | .non=>.ok (.bl (!isNon d)) S
 |_=>.fail
def cmpD(op:CmpOp)(d e:D)(S:Store):Res D:=match op with
 | .Eq=>boolR (eqF S deep d e) S
 | .NotEq=>boolR ((eqF S deep d e).map not) S
 | .Lt=>boolR (ltF S deep d e) S
 | .LtE=>leD d e S
 | .Gt=>gtD d e S
 | .GtE=>geD d e S
 | .In=>boolR (inD d e S) S
 | .NotIn=>boolR ((inD d e S).map not) S
 | .Is=>isD d e S
 | .IsNot=>b4x' d e S
theorem b3y'{K:PySem.W.Frag}{mg:GS}{d:D}{v:V}(r:Rep K mg μ H d v):decide (v=.non)=isNon d:=by
 cases d with
 |non=>cases a4A' r;rfl
 |bl b=>cases a6G' r;rfl
 |int b=>cases a0e' r;rfl
 |str b=>cases a4d' r;rfl
 |tup b=>obtain⟨a,vs,rfl,_⟩:=a0F' r;rfl
 |lst b=>unfold Rep at r;obtain⟨a,vs,rfl,_⟩:=r;rfl
 |ref b=>unfold Rep at r;obtain⟨a,rfl,_⟩:=r;rfl
 |scr b=>unfold Rep at r;obtain⟨a,vs,rfl,_⟩:=r;rfl
 |fn b=>unfold Rep at r;obtain⟨a,rfl,_⟩:=r;rfl
 |dct=>unfold Rep at r;obtain⟨a,rfl,_⟩:=r;rfl
 |ty n=>unfold Rep at r;cases r;rfl
theorem a1u'{K:PySem.W.Frag}{mg:GS}{Q:VK}{o:Option Bool}(w:Want K mg μ H Q (boolR o S))(sk:SOk K mg μ S H):∃k,o=some k∧Q (.bl k) H:=by
 cases o with
 |none=>exact w.elim
 |some k=>exact⟨k,rfl,w.now sk repBl⟩
theorem b2t'{l:List (Option Bool)}{k:Bool}(h:anyO l=some k):(∀o∈l,o.isSome=true)∧k=l.any (fun o=>o==some true):=by
 unfold anyO at h
 obtain⟨k1,e1,e2⟩:=Yc.mp h
 subst e2
 clear h
 induction l generalizing k1 with
 |nil=>cases e1;exact⟨by simp,rfl⟩
 |cons o r ih=>
  rw[ZA]at e1
  unfold allO at e1
  split at e1
  ·rename_i b c e3 e4
   cases e1
   obtain⟨h1,h2⟩:=ih c e4
   obtain⟨b',rfl,e5⟩:=Yc.mp e3
   subst e5
   refine⟨fun o ho=>?_,?_⟩
   ·rcases Zn.mp ho with rfl|ho
    ·rfl
    ·exact h1 o ho
   ·rw[List.any_cons,←h2]
    cases b'<;>cases c<;>rfl
  ·cases e1
theorem in_at(I:Inv X pins σ H s)(sk:SOk X.K ⟨X.mg,F⟩ μ S H){A:Around}(hu:A.units+64<cLine){d e:D}{v w:V}{u z:Value}{k:Bool}(rd:Rep X.K ⟨X.mg,F⟩ μ H d v)(ru:RelV v u)(re:Rep X.K ⟨X.mg,F⟩ μ H e w)(rz:RelV w z)
  (h:inD d e S=some k):∃(a:Addr) (its:List Value) (f:Value→Bool),z=.ref a∧(s.heap.IsList a its.toArray∨s.heap.IsTuple a its.toArray)∧(∀y∈its.toArray,EqAt A.in1 s y u (f y))∧its.toArray.any f=k:=by
 unfold inD at h
 split at h
 ·rename_i xs e1
  obtain⟨a,vs,rfl,hq,r⟩:=a4c' sk re e1
  cases rz
  obtain⟨its,q,hp⟩:∃its,Vals vs its∧(s.heap.IsList a its.toArray∨s.heap.IsTuple a its.toArray):=by
   rcases hq with hq|hq
   ·obtain⟨its,q,p,_⟩:=I.list hq;exact⟨its,q,.inl p.isList⟩
   ·obtain⟨its,q,p,_⟩:=I.tuple hq;exact⟨its,q,.inr p⟩
  have hin:A.in1.units=A.units+1:=rfl
  have hd:deep=40:=rfl
  obtain⟨h1,h2⟩:=b2t' h
  classical
  have at_:∀(j:Nat) (x:D) (y:Value),xs[j]?=some x→its[j]?=some y→∀b,eqF S deep x d=some b→EqAt A.in1 s y u b:=fun j x y hx hy b hb=>by
   obtain⟨v',h3,h4⟩:=r.get hx
   obtain⟨y',h5,h6⟩:=q.get h3
   rw[hy]at h5;cases h5
   exact(rcF I sk deep A.in1 (by omega) x d v' v _ u b h4 h6 rd ru hb).2.2
  have len:xs.length=its.length:=r.length.trans q.length
  refine⟨a,its,fun y=>decide (∃(j:Nat) (x:D),its[j]?=some y∧xs[j]?=some x∧eqF S deep x d=some true),rfl,hp,fun y hy=>?_,?_⟩
  ·obtain⟨j,hj,ej⟩:=ZV.mp (show y∈its by simpa using hy)
   have hy':its[j]?=some y:=by rw[Ze hj,ej]
   have hx':xs[j]?=some (xs[j]'(by omega)):=Ze _
   by_cases hc:∃(j:Nat) (x:D),its[j]?=some y∧xs[j]?=some x∧eqF S deep x d=some true
   ·obtain⟨j',x',c1,c2,c3⟩:=id hc
    show EqAt A.in1 s y u (decide (∃(j:Nat) (x:D),its[j]?=some y∧xs[j]?=some x∧eqF S deep x d=some true))
    rw[Zy hc]
    exact at_ j' x' y c2 c1 true c3
   ·show EqAt A.in1 s y u (decide (∃(j:Nat) (x:D),its[j]?=some y∧xs[j]?=some x∧eqF S deep x d=some true))
    rw[Zz hc]
    obtain⟨b,hb⟩:=Option.isSome_iff_exists.mp (h1 (eqF S deep (xs[j]'(by omega)) d) (ZC.mpr ⟨_,ZD hx',rfl⟩))
    cases b with
    |false=>exact at_ j _ y hx' hy' false hb
    |true=>exact absurd ⟨j,_,hy',hx',hb⟩ hc
  ·rw[h2]
   apply Bool.eq_iff_iff.mpr
   rw[List.any_toArray,List.any_eq_true,List.any_eq_true]
   constructor
   ·rintro⟨y,hy,hd⟩
    obtain⟨j,x,c1,c2,c3⟩:=of_decide_eq_true hd
    exact⟨some true,ZC.mpr ⟨x,ZD c2,c3⟩,rfl⟩
   ·rintro⟨o,ho,hd⟩
    obtain⟨x,hx,rfl⟩:=ZC.mp ho
    obtain⟨j,hj,ej⟩:=ZV.mp hx
    have hx':xs[j]?=some x:=by rw[Ze hj,ej]
    have hy':its[j]?=some (its[j]'(by omega)):=Ze _
    exact⟨_,ZD hy',Zy ⟨j,x,hy',hx',by simpa using hd⟩⟩
 ·cases h
theorem cmp_D(op:CmpOp)(hu:X.A.units+64<cLine):OpR X (compareOp op) (rD X.K X.mg (cmpD op)):=by
 intro pins s σ H x y v u Q I rx ry h
 obtain⟨F,μ,S,d,e,sk,rd,re,w⟩:=h
 have hd:deep=40:=rfl
 have fin:∀{k:Bool},Q (.bl k) H→EP X pins σ Q (.bool k) s:=fun{k} q=>⟨.bl k,H,I,rfl,q⟩
 cases op with
 |Eq=>
  obtain⟨k,e1,q⟩:=a1u' (o:=eqF S deep d e) w sk
  exact(rcF I sk deep X.A (by omega) d e x y v u k rd rx re ry e1).1 X.prog X.w _ _ (fin q)
 |NotEq=>
  obtain⟨k,e1,q⟩:=a1u' (o:=(eqF S deep d e).map not) w sk
  obtain⟨k',e2,rfl⟩:=Yc.mp e1
  exact(rcF I sk deep X.A (by omega) d e x y v u k' rd rx re ry e2).2.1 X.prog X.w _ _ (fin q)
 |Lt=>
  obtain⟨k,e1,q⟩:=a1u' (o:=ltF S deep d e) w sk
  exact ltF_at I sk deep X.A (by omega) d e x y v u k rd rx re ry e1 X.prog X.w _ _ (fin q)
 |LtE=>
  replace w:Want X.K ⟨X.mg,F⟩ μ H Q (leD d e S):=w
  unfold leD at w
  split at w
  ·have:=a0e' rd;have:=a0e' re;subst x y
   exact op_le pins s σ H _ _ v u Q I rx ry ⟨_,_,rfl,rfl,w.now sk repBl⟩
  ·rename_i as bs
   obtain⟨k,e1,q⟩:=a1u' (o:=leI as bs) w sk
   obtain⟨a,vs,rfl,h1,r1⟩:=a0F' rd
   obtain⟨b,ws,rfl,h2,r2⟩:=a0F' re
   cases rx;cases ry
   obtain⟨us,q1,p1,_⟩:=I.tuple h1
   obtain⟨zs,q2,p2,_⟩:=I.tuple h2
   exact b2s' p1 p2 (by omega) (leI_at as bs vs ws us zs k r1 q1 r2 q2 e1) X.prog X.w _ _ (fin q)
  ·exact w.elim
 |Gt=>
  replace w:Want X.K ⟨X.mg,F⟩ μ H Q (gtD d e S):=w
  unfold gtD at w
  split at w
  ·have:=a0e' rd;have:=a0e' re;subst x y
   exact op_gt pins s σ H _ _ v u Q I rx ry ⟨_,_,rfl,rfl,w.now sk repBl⟩
  ·exact w.elim
 |GtE=>
  replace w:Want X.K ⟨X.mg,F⟩ μ H Q (geD d e S):=w
  unfold geD at w
  split at w
  ·have:=a0e' rd;have:=a0e' re;subst x y
   exact op_ge pins s σ H _ _ v u Q I rx ry ⟨_,_,rfl,rfl,w.now sk repBl⟩
  ·exact w.elim
 |In=>
  obtain⟨k,e1,q⟩:=a1u' (o:=inD d e S) w sk
  obtain⟨a,its,f,rfl,hp,hf,rfl⟩:=in_at I sk (A:=X.A) hu rd rx re ry e1
  rcases hp with hp|hp
  ·exact in_listAt f hp hf (fin q)
  ·exact in_tupleAt f hp hf (fin q)
 |NotIn=>
  obtain⟨k,e1,q⟩:=a1u' (o:=(inD d e S).map not) w sk
  obtain⟨k',e2,rfl⟩:=Yc.mp e1
  obtain⟨a,its,f,rfl,hp,hf,rfl⟩:=in_at I sk (A:=X.A) hu rd rx re ry e2
  rcases hp with hp|hp
  ·exact notIn_listAt f hp hf (fin q)
  ·exact notIn_tupleAt f hp hf (fin q)
 |Is=>
  replace w:Want X.K ⟨X.mg,F⟩ μ H Q (isD d e S):=w
  unfold isD at w
  split at w
  ·cases a4A' re
   exact op_isN pins s σ H _ _ v u Q I rx ry ⟨rfl,by rw[b3y' rd];exact w.now sk repBl⟩
  ·exact w.elim
 |IsNot=>
  replace w:Want X.K ⟨X.mg,F⟩ μ H Q (b4x' d e S):=w
  unfold b4x' at w
  split at w
  ·cases a4A' re
   exact op_notN pins s σ H _ _ v u Q I rx ry ⟨rfl,by rw[b3y' rd];exact w.now sk repBl⟩
  ·exact w.elim
end
end Py
end
section
namespace Py
open PySem PySem.Spec PyProof.Rows L2
def rC(K:PySem.W.Frag)(mg:Str→Option Value)(g:List D→Store→Res D):List V→Hp→VK→Prop:=fun xs H Q=>∃F μ S ds,SOk K ⟨mg,F⟩ μ S H∧RepL K ⟨mg,F⟩ μ H ds xs∧Want K ⟨mg,F⟩ μ H Q (g ds S)
theorem RepL.one{K:PySem.W.Frag}{mg:GS}{μ:List Addr}{H:Hp}{d:D}{vs:List V}(r:RepL K mg μ H [d] vs):∃v,vs=[v]∧Rep K mg μ H d v:=by
 obtain⟨v,ws,rfl,h,t⟩:=r.uncons
 unfold RepL at t;subst t
 exact⟨v,rfl,h⟩
theorem RepL.two{K:PySem.W.Frag}{mg:GS}{μ:List Addr}{H:Hp}{d e:D}{vs:List V}(r:RepL K mg μ H [d,e] vs):∃v w,vs=[v,w]∧Rep K mg μ H d v∧Rep K mg μ H e w:=by
 obtain⟨v,ws,rfl,h,t⟩:=r.uncons
 obtain⟨w,rfl,h2⟩:=t.one
 exact⟨v,w,rfl,h,h2⟩
theorem atI_rep{K:PySem.W.Frag}{mg:GS}{μ:List Addr}{H:Hp}{ds:List D}{vs:List V}{i:Int}{d:D}(r:RepL K mg μ H ds vs)(h:atI ds i=some d):∃v,atI vs i=some v∧Rep K mg μ H d v:=by
 unfold atI at h⊢
 rw[←r.length]
 cases e:ixN ds.length i with
 |none=>rw[e]at h;cases h
 |some j=>
  rw[e]at h
  exact r.get h
def idxD(d e:D)(S:Store):Res D:=match seqOf S d,e with
 |some xs,.int i=>match atI xs i with
  |some y=>.ok y S
  |none=>.fail
 |_,_=>.fail
section
variable {X:Cx}
theorem ix_D:IxR X (rD X.K X.mg idxD):=by
 intro value slice pins s σ H x y v u Q I rx ry h hsub
 obtain⟨F,μ,S,d,e,sk,rd,re,w⟩:=h
 unfold idxD at w
 split at w
 ·rename_i xs i e1
  split at w
  ·rename_i y' e2
   obtain⟨a,vs,rfl,hq,r⟩:=a4c' sk rd e1
   cases a0e' re
   obtain⟨z,h1,h2⟩:=atI_rep r e2
   rcases hq with hq|hq
   ·exact ix_list value slice pins s σ H _ _ v u Q I rx ry ⟨a,vs,i,z,rfl,rfl,hq,h1,w.now sk h2⟩ hsub
   ·exact ix_tup value slice pins s σ H _ _ v u Q I rx ry ⟨a,vs,i,z,rfl,rfl,hq,h1,w.now sk h2⟩ hsub
  ·exact w.elim
 ·exact w.elim
def lenD(ds:List D)(S:Store):Res D:=match ds with
 | [.str x]=>if x.length≤big then .ok (.int x.length) S else .fail
 | [d]=>match seqOf S d with
  |some xs=>.ok (.int xs.length) S
  |none=>.fail
 |_=>.fail
theorem len_D:CallR X (.builtin "len") (rC X.K X.mg lenD):=by
 intro pins s σ H xs us Q I r h
 obtain⟨F,μ,S,ds,sk,rd,w⟩:=h
 have hb:=a7S'
 unfold lenD at w
 split at w
 ·split at w
  ·obtain⟨v,rfl,hv⟩:=rd.one
   cases a4d' hv
   exact a7Q' pins s σ H _ us Q I r ⟨_,rfl,by omega,w.now sk a1h'⟩
  ·exact w.elim
 ·split at w
  ·rename_i xs' e
   obtain⟨v,rfl,hv⟩:=rd.one
   obtain⟨a,vs,rfl,hq,r2⟩:=a4c' sk hv e
   refine a7P' pins s σ H _ us Q I r ⟨a,vs,rfl,hq,?_⟩
   rw[←r2.length]
   exact w.now sk a1h'
  ·exact w.elim
 ·exact w.elim
def a9A'(ds:List D)(S:Store):Res D:=match ds with
 | [.tup xs]=>.ok (.tup xs) S
 | [d]=>match seqOf S d with
  |some xs=>.ok (.tup xs) S
  |none=>.fail
 |_=>.fail
theorem a7T'{K:PySem.W.Frag}{mg:GS}{μ:List Addr}{H:Hp}{S:Store}{d:D}{v:V}{xs:List D}(s:SOk K mg μ S H)(r:Rep K mg μ H d v)(e:seqOf S d=some xs)(hd:∀ys,d≠.tup ys):∃a vs,v=.ref a∧SqL K H a vs∧RepL K mg μ H xs vs:=by
 cases d with
 |lst ys=>
  obtain⟨a,vs,e1,h,q⟩:=a0U' s r (show a3G' S (.lst ys)=some xs from e)
  exact⟨a,vs,e1,.of h,q⟩
 |ref n=>
  obtain⟨a,vs,e1,h,q⟩:=a0U' s r (show a3G' S (.ref n)=some xs from e)
  exact⟨a,vs,e1,.of h,q⟩
 |tup ys=>exact absurd rfl (hd ys)
 |scr ys=>
  unfold seqOf at e;cases e
  unfold Rep at r
  obtain⟨a,vs,e,h,q⟩:=r
  exact⟨a,vs,e,h.sq,q⟩
 |_=>cases e
theorem tuple_D:CallR X (.type "tuple") (rC X.K X.mg a9A'):=by
 intro pins s σ H xs us Q I r h
 obtain⟨F,μ,S,ds,sk,rd,w⟩:=h
 unfold a9A' at w
 split at w
 ·obtain⟨v,rfl,hv⟩:=rd.one
  obtain⟨a,vs,rfl,hq,r2⟩:=a0F' hv
  exact a4b' pins s σ H _ us Q I r ⟨a,vs,rfl,.inr ⟨hq,w.now sk hv⟩⟩
 ·rename_i d hd
  split at w
  ·rename_i xs' e
   obtain⟨v,rfl,hv⟩:=rd.one
   obtain⟨a,vs,rfl,hq,r2⟩:=a7T' sk hv e (fun ys z=>hd ys (by rw[z]))
   exact a4b' pins s σ H _ us Q I r ⟨a,vs,rfl,.inl ⟨hq,fun p hp=>w.tup sk r2 p hp⟩⟩
  ·exact w.elim
 ·exact w.elim
def listD(box:Bool)(ds:List D)(S:Store):Res D:=match ds with
 | [d]=>match seqOf S d with
  |some xs=>if box then .ok (.ref S.length) (S++[xs])else .ok (.lst xs) S
  |none=>.fail
 |_=>.fail
theorem list_D(box:Bool):CallR X (.type "list") (rC X.K X.mg (listD box)):=by
 intro pins s σ H xs us Q I r h
 obtain⟨F,μ,S,ds,sk,rd,w⟩:=h
 unfold listD at w
 split at w
 ·split at w
  ·rename_i xs' e
   obtain⟨v,rfl,hv⟩:=rd.one
   obtain⟨a,vs,rfl,hq,r2⟩:=a4c' sk hv e
   refine a7R' pins s σ H _ us Q I r ⟨a,vs,rfl,hq,fun p hp=>?_⟩
   split at w
   ·exact w.box sk r2 p hp
   ·exact w.lst sk r2 p hp
  ·exact w.elim
 ·exact w.elim
def intD(ds:List D)(S:Store):Res D:=match ds with
 | [.int i]=>.ok (.int i) S
 | [.bl b]=>.ok (.int (if b then 1 else 0)) S
 |_=>.fail
theorem int_D:CallR X (.type "int") (rC X.K X.mg intD):=by
 intro pins s σ H xs us Q I r h
 obtain⟨F,μ,S,ds,sk,rd,w⟩:=h
 unfold intD at w
 split at w
 ·obtain⟨v,rfl,hv⟩:=rd.one
  cases a0e' hv
  exact a8x' pins s σ H _ us Q I r (.inl ⟨_,rfl,w.now sk a1h'⟩)
 ·obtain⟨v,rfl,hv⟩:=rd.one
  cases a6G' hv
  exact a8x' pins s σ H _ us Q I r (.inr ⟨_,rfl,w.now sk a1h'⟩)
 ·exact w.elim
def minD(ds:List D)(S:Store):Res D:=match ds with
 | [.int i,.int j]=>.ok (.int (if j<i then j else i)) S
 |_=>.fail
def maxD(ds:List D)(S:Store):Res D:=match ds with
 | [.int i,.int j]=>.ok (.int (if j>i then j else i)) S
 |_=>.fail
theorem min_D(hc:X.calm=true):CallR X (.builtin "min") (rC X.K X.mg minD):=by
 intro pins s σ H xs us Q I r h
 obtain⟨F,μ,S,ds,sk,rd,w⟩:=h
 unfold minD at w
 split at w
 ·obtain⟨v,w',rfl,hv,hw⟩:=rd.two
  cases a0e' hv;cases a0e' hw
  exact b2o' hc pins s σ H _ us Q I r ⟨_,_,rfl,w.now sk a1h'⟩
 ·exact w.elim
theorem max_D(hc:X.calm=true):CallR X (.builtin "max") (rC X.K X.mg maxD):=by
 intro pins s σ H xs us Q I r h
 obtain⟨F,μ,S,ds,sk,rd,w⟩:=h
 unfold maxD at w
 split at w
 ·obtain⟨v,w',rfl,hv,hw⟩:=rd.two
  cases a0e' hv;cases a0e' hw
  exact b2n' hc pins s σ H _ us Q I r ⟨_,_,rfl,w.now sk a1h'⟩
 ·exact w.elim
def truD(S:Store):D→Option Bool
 | .non=>some false
 | .bl b=>some b
 | .int i=>some (i !=0)
 | .str x=>if x.length≤big then some ((x.length:Int) !=0)else none
 |d=>(seqOf S d).map fun xs=> !xs.isEmpty
theorem tru_D{K:PySem.W.Frag}{mg:GS}{μ:List Addr}{H:Hp}{S:Store}{d:D}{v:V}{k:Bool}(sk:SOk K mg μ S H)(r:Rep K mg μ H d v)(e:truD S d=some k):TruV K v H k:=by
 have hb:=a7S'
 have seq:∀(xs:List D),seqOf S d=some xs→k= !xs.isEmpty→TruV K v H k:=fun xs e1 e2=>by
  obtain⟨a,vs,rfl,hq,q⟩:=a4c' sk r e1
  have hl:=q.length
  have e3:xs.isEmpty=vs.isEmpty:=by cases xs<;>cases vs<;>simp at hl⊢
  rw[e3]at e2
  rcases hq with hq|hq
  ·exact .inl ⟨vs,hq,e2⟩
  ·exact .inr (.inl ⟨vs,hq,e2⟩)
 have sq2:(seqOf S d).map (fun xs=> !xs.isEmpty)=some k→TruV K v H k:=fun h=>by
  obtain⟨xs,e1,e2⟩:=Yc.mp h
  exact seq xs e1 e2.symm
 cases d with
 |non=>cases a4A' r;cases e;rfl
 |bl b=>cases a6G' r;cases e;rfl
 |int b=>cases a0e' r;cases e;rfl
 |str b=>
  cases a4d' r
  replace e:(if b.length≤big then some ((b.length:Int) !=0)else none)=some k:=e
  split at e
  ·cases e;exact⟨by omega,rfl⟩
  ·cases e
 |tup b=>exact sq2 e
 |lst b=>exact sq2 e
 |ref b=>exact sq2 e
 |scr b=>exact sq2 e
 |fn b=>exact sq2 e
 |dct=>exact sq2 e
 |ty b=>exact sq2 e
def cutL(xs:List D)(lo hi:Option Int):List D:=(xs.drop (HT.sIx xs.length 0 lo)).take (HT.sIx xs.length xs.length hi-HT.sIx xs.length 0 lo)
theorem b0z'{K:PySem.W.Frag}{mg:GS}{μ:List Addr}{H:Hp}{ds:List D}{vs:List V}{lo hi:Option Int}(r:RepL K mg μ H ds vs):RepL K mg μ H (cutL ds lo hi) (cutV vs lo hi):=by
 unfold cutL cutV
 rw[r.length]
 exact(r.drop _).take _
def slD(d:D)(lo hi:Option Int)(S:Store):Res D:=match d with
 | .tup xs=>.ok (.tup (cutL xs lo hi)) S
 |d=>match seqOf S d with
  |some xs=>.ok (.lst (cutL xs lo hi)) S
  |none=>.fail
def rSl(K:PySem.W.Frag)(mg:Str→Option Value):V→Option Int→Option Int→Hp→VK→Prop:=fun x lo hi H Q=>∃F μ S d,SOk K ⟨mg,F⟩ μ S H∧Rep K ⟨mg,F⟩ μ H d x∧Want K ⟨mg,F⟩ μ H Q (slD d lo hi S)
theorem a3q'{prog:Program}{w:World}{A:Around}{E:Value→Shared→Prop}{s:Shared}{t sl:Addr}{items:Array Value}{vl vu:Value}{lo hi:Option Int}{Q:Value→Shared→Prop}(ht:IsTup s.heap t items)(hs:s.heap.IsSliceOf sl vl vu .none)(pl:IsPart vl lo)(pu:IsPart vu hi)
  (hw:HT.sIx items.size 0 lo=0∧HT.sIx items.size items.size hi=items.size) (h:Q (.ref t) s):wpAny (model prog w) A (getItem (.ref t) (.ref sl)) Q E s:=by
 obtain⟨os,hos,hcs,hds⟩:=id hs
 have hTs:s.TypeIs (.ref sl) "slice":=⟨os,hos,hcs⟩
 unfold getItem
 try with_reducible refine wpAny_holding ?_
 first|refine Zc (Zl ?_)|skip
 refine Zc (wpAny_sequenceKey ht.typeIs (by decide) ?_)
 refine Zc (wpAny_callSpecial?_slot (name:=Str.ofString "__getitem__") ht.typeIs PyProof.Rows.slot_tuple_getitem
  (wpAny_call_entry PyProof.Rows.slot_tuple_getitem ht.typeIs entry_tuple_getitem ?_ (args_tuple_getitem _ _)))
 show wpAny _ _ (Builtin.Tuple.tupleItemsOf (.ref t)>>=_) _ _ s
 refine Zc (tupleItemsOf_ ht ?_)
 refine Zc (wpAny_typeOf hTs ?_)
 rw[if_pos (by decide)]
 refine Zc (HT.a2d' hs pl pu ?_)
 have hyes:((((HT.sIx items.size 0 lo:Nat):Int)==0&&(1:Int)==1&&(HT.sIx items.size items.size hi-HT.sIx items.size 0 lo)==items.size)=true):=by
  rw[hw.1,hw.2];simp
 show wpAny _ _ (if(((HT.sIx items.size 0 lo:Nat):Int)==0&&(1:Int)==1&&(HT.sIx items.size items.size hi-HT.sIx items.size 0 lo)==items.size)=true then _ else _) _ _ s
 rw[if_pos hyes]
 refine Zc (m:=Builtin.Tuple.tupleIsExact (.ref t)) ?_
 unfold Builtin.Tuple.tupleIsExact
 refine Zc (wpAny_typeOf ht.typeIs (Zl ?_))
 rw[if_pos (by decide)]
 exact Zc (wpAny_rule (Zl ⟨_,rfl,Zl h⟩))
theorem sl_D:SlR X (rSl X.K X.mg):=by
 intro pins s σ H x v vl vu lo hi sl Q I rx hs pl pu h
 obtain⟨F,μ,S,d,sk,rd,w⟩:=h
 unfold slD at w
 split at w
 ·rename_i xs
  obtain⟨a,vs,rfl,hq,r⟩:=a0F' rd
  have hl:=r.length
  by_cases hc:HT.sIx vs.length 0 lo=0∧HT.sIx vs.length vs.length hi=vs.length
  ·cases rx
   obtain⟨its,rv,ht,hz⟩:=I.tuple hq
   have hlen:its.toArray.size=vs.length:=by rw[Zg];exact rv.length.symm
   refine⟨"tuple",_,PyProof.Rows.slot_tuple_getitem.lookup,ht.typeIs,?_⟩
   refine a3q' ht hs pl pu (by rw[hlen];exact hc) ⟨.ref a,H,I,rfl,?_⟩
   have e:cutL xs lo hi=xs:=by
    unfold cutL
    rw[hl,hc.1,hc.2]
    simp[←hl]
   rw[e]at w
   exact w.now sk rd
  ·exact sl_tup pins s σ H _ v vl vu lo hi sl Q I rx hs pl pu ⟨a,vs,rfl,hq,hc,fun p hp=>w.tup sk (b0z' r) p hp⟩
 ·rename_i d hd
  split at w
  ·rename_i xs e
   obtain⟨a,vs,rfl,hq,r⟩:=a7T' sk rd e (fun ys z=>hd ys z)
   exact sl_list pins s σ H _ v vl vu lo hi sl Q I rx hs pl pu ⟨a,vs,rfl,hq,fun p hp=>w.lst sk (b0z' r) p hp⟩
  ·exact w.elim
def b4y'(S:Store):D→Option String
 | .non=>some "NoneType"
 | .bl _=>some "bool"
 | .int _=>some "int"
 | .str _=>some "str"
 | .tup _=>some "tuple"
 | .lst _=>some "list"
 | .ref n=>(S[n]?).map fun _=>"list"
 | .scr _=>some "list"
 | .dct=>some "dict"
 |_=>none
def subTy(t c:String):Option Bool:=
 if ["NoneType","bool","int","str","tuple","list","dict"].contains t&&["bool","int","str","tuple","list","dict"].contains c then some (t==c||(t=="bool"&&c=="int"))else none
theorem kit_sub{K:PySem.W.Frag}{t c:String}{b:Bool}(h:subTy t c=some b):PySem.W.kitOne K (.type t) (.type c)=some b:=by
 unfold subTy at h
 split at h
 ·rename_i hc
  rw[Zr]at hc
  simp at hc
  cases h
  obtain⟨h1,h2⟩:=hc
  rcases h1 with rfl|rfl|rfl|rfl|rfl|rfl|rfl<;>rcases h2 with rfl|rfl|rfl|rfl|rfl|rfl<;>first|rfl|decide+kernel
 ·cases h
def a0t'(ds:List D)(S:Store):Res D:=match ds with
 | [d,.ty c]=>match b4y' S d with
  |some t=>boolR (subTy t c) S
  |none=>.fail
 |_=>.fail
theorem b4z':CallR X (.builtin "isinstance") (rC X.K X.mg a0t'):=by
 intro pins s σ H xs us Q I r h
 obtain⟨F,μ,S,ds,sk,rd,w⟩:=h
 unfold a0t' at w
 split at w
 ·rename_i d c
  split at w
  ·rename_i t et
   obtain⟨b,eb,q⟩:=a1u' w sk
   obtain⟨v,z,rfl,hv,hz⟩:=rd.two
   have hz':z=.ty c:=by unfold Rep at hz;exact hz
   subst hz'
   obtain⟨u,y,rfl,ru,ry⟩:=r.two
   cases ry
   have e:=kit_sub (K:=X.K) eb
   have fin:∀tk,EP X pins σ Q (.bool b) {s with toks:=tk}:=fun tk=>⟨.bl b,H,I.tok _,rfl,q⟩
   have lst:∀a vs,v=.ref a→SqL X.K H a vs→t="list"→wpAny (model X.prog X.w) X.A (call (.builtin "isinstance") [u,.type c]) (EP X pins σ Q) X.xe s:=fun a vs ev hq et=>by
    subst ev;subst et;cases ru
    obtain⟨its,rv,pl,_⟩:=I.list hq
    obtain⟨o,h1,h2,_⟩:=pl.isList
    exact PySem.W.kia_one PySem.W.kitx_list I.kIn ⟨o,h1,h2⟩ e (fun z=>nomatch z) fin
   cases d with
   |non=>cases a4A' hv;cases ru;cases et;exact PySem.W.kia_one PySem.W.kitx_none I.kIn True.intro e (fun z=>nomatch z) fin
   |bl b=>cases a6G' hv;cases ru;cases et;exact PySem.W.kia_one PySem.W.kitx_bool I.kIn True.intro e (fun z=>nomatch z) fin
   |int b=>cases a0e' hv;obtain⟨t,rfl⟩:=ru;cases et;exact PySem.W.kia_one PySem.W.kitx_int I.kIn True.intro e (fun z=>nomatch z) fin
   |str b=>cases a4d' hv;obtain⟨t,rfl⟩:=ru;cases et;exact PySem.W.kia_one PySem.W.kitx_str I.kIn True.intro e (fun z=>nomatch z) fin
   |tup b=>
    obtain⟨a,vs,rfl,hq,_⟩:=a0F' hv
    cases ru;cases et
    obtain⟨its,rv,p,_⟩:=I.tuple hq
    obtain⟨o,h1,h2,_⟩:=p
    exact PySem.W.kia_one PySem.W.kitx_tuple I.kIn ⟨o,h1,h2⟩ e (fun z=>nomatch z) fin
   |lst b=>
    obtain⟨a,vs,rfl,hq,_⟩:=a0U' sk hv rfl
    cases et
    exact lst a vs rfl (.of hq) rfl
   |ref n=>
    replace et:(S[n]?).map (fun _=>"list")=some t:=et
    obtain⟨xs,e1,e2⟩:=Yc.mp et
    obtain⟨a,vs,rfl,hq,_⟩:=a0U' sk hv e1
    exact lst a vs rfl (.of hq) e2.symm
   |scr b=>
    unfold Rep at hv
    obtain⟨a,vs,rfl,hq,_⟩:=hv
    cases et
    exact lst a vs rfl hq.sq rfl
   |dct=>
    unfold Rep at hv
    obtain⟨a,rfl,ea⟩:=hv
    cases ru;cases et
    obtain⟨_,_,vs,_,p⟩:=(show ObjOk X.prog X.w H s.heap a (.dK [])from I.hok a _ ea)
    obtain⟨o,es,ep,h1,h2,_⟩:=p
    exact PySem.W.kia_one PySem.W.kitx_dict I.kIn ⟨o,h1,h2.1⟩ e (fun z=>nomatch z) fin
   |fn b=>cases et
   |ty b=>cases et
  ·exact w.elim
 ·exact w.elim
end
end Py
end
section
namespace Py
open PySem PySem.Spec PyProof.Rows L2
def asB:D→Option Bool
 | .bl b=>some b
 |_=>none
def allD(ds:List D)(S:Store):Res D:=match ds with
 | [d]=>match seqOf S d with
  |some xs=>boolR (allO (xs.map asB)) S
  |none=>.fail
 |_=>.fail
section
variable {X:Cx}
theorem b0A'{K:PySem.W.Frag}{mg:GS}{μ:List Addr}{H:Hp}{xs:List D}{vs:List V}{its:List Value}(r:RepL K mg μ H xs vs)(q:Vals vs its)(h:∀(j:Nat) o,(xs.map asB)[j]?=some o→o=some (eJ (xs.map asB) j)):
  ∀(i:Nat) v,its.toArray[i]?=some v→v=.bool (eJ (xs.map asB) i):=fun i v hv=>by
 have l1:=r.length;have l2:=q.length
 have hv':its[i]?=some v:=by simpa using hv
 have hi:i<its.length:=(Zh.mp hv').1
 have hx:xs[i]?=some (xs[i]'(by omega)):=Ze _
 obtain⟨w,h1,h2⟩:=r.get hx
 obtain⟨u,h3,h4⟩:=q.get h1
 rw[hv']at h3;cases h3
 have h5:=h i (asB (xs[i]'(by omega))) (by rw[ZN,hx];rfl)
 revert h2 h5
 generalize xs[i]'(by omega)=d
 intro h2 h5
 cases d with
 |bl b=>
  cases a6G' h2
  have:b=eJ (xs.map asB) i:=by simpa[asB]using h5
  rw[←this];exact h4
 |_=>cases h5
theorem allany{pins:List (Addr×Obj)}{σ:L2.St}{H:Hp}{s:Shared}(hc:X.calm=true)(I:Inv X pins σ H s){μ:List Addr}{S:Store}{F:List Addr}(sk:SOk X.K ⟨X.mg,F⟩ μ S H){d:D}{v:V}{u:Value}{xs:List D}(rd:Rep X.K ⟨X.mg,F⟩ μ H d v)(ru:RelV v u)(e:seqOf S d=some xs)
  (h:∀(j:Nat) o,(xs.map asB)[j]?=some o→o=some (eJ (xs.map asB) j)) (b:Bool→Bool) {Q:VK} {fb:Nat→Bool} (q:Q (.bl (fb xs.length)) H):
  wpAny (model X.prog X.w) X.A.in1 (pyIter u) (fun it s₂=>∃I fp wr n P St,it=.ref I∧Walks X.prog X.w X.A.in1 I fp wr n P St∧St 0 s₂.heap∧TruthOf X.prog X.w X.A.in1 P (eJ (xs.map asB))∧
   ∀h' tk,(∀b o,b∉wr→s₂.heap.get? b=some o→h'.get? b=some o)→EP X pins σ Q (.bool (fb n)) {s₂ with heap:=h',toks:=tk}) X.xe s:=by
 obtain⟨a,vs,rfl,hq,r⟩:=a4c' sk rd e
 cases ru
 have hh:X.A.in1.handled=none:=I.ok.hd hc
 rcases hq with hq|hq
 ·obtain⟨its,rv,p,hz⟩:=I.list hq
  have ba:=b0A' r rv h
  refine wpAny_pyIter_list p.isList ?_
  have hne:a≠s.heap.objs.size:=by obtain⟨o,ho,_⟩:=p.isList;exact ZQ (Zq ho)
  refine⟨_,_,_,_,_,_,rfl,Walks.list hh s.heap.objs.size a hne its.toArray,⟨⟨_,Zt _ rfl,rfl,rfl⟩,Heap.IsList.push p.isList _⟩,?_,fun h' tk kp=>?_⟩
  ·intro i v s' Q' E' hv hq'
   rw[ba i v hv]
   exact Yd hq'
  ·have hl:its.toArray.size=xs.length:=by rw[Zg,←rv.length,←r.length]
   rw[hl]
   refine⟨.bl _,H,I.kept (h':=h') (t':=tk) fun b o ho=>kp b o ?_ (Zd _ ho),rfl,q⟩
   intro z
   have z':b=s.heap.objs.size:=by simpa using z
   exact absurd (Zq ho) (by rw[z'];exact Nat.lt_irrefl _)
 ·obtain⟨its,rv,p,hz⟩:=I.tuple hq
  have ba:=b0A' r rv h
  refine wpAny_pyIter_tuple (show s.heap.IsTuple a its.toArray from p) ?_
  have hne:a≠s.heap.objs.size:=by obtain⟨o,ho,_⟩:=p;exact ZQ (Zq ho)
  refine⟨_,_,_,_,_,_,rfl,Walks.tuple hh s.heap.objs.size a hne its.toArray,⟨⟨_,Zt _ rfl,rfl,rfl⟩,by obtain⟨o,ho,r⟩:=p;exact⟨o,Zd _ ho,r⟩⟩,?_,fun h' tk kp=>?_⟩
  ·intro i v s' Q' E' hv hq'
   rw[ba i v hv]
   exact Yd hq'
  ·have hl:its.toArray.size=xs.length:=by rw[Zg,←rv.length,←r.length]
   rw[hl]
   refine⟨.bl _,H,I.kept (h':=h') (t':=tk) fun b o ho=>kp b o ?_ (Zd _ ho),rfl,q⟩
   intro z
   have z':b=s.heap.objs.size:=by simpa using z
   exact absurd (Zq ho) (by rw[z'];exact Nat.lt_irrefl _)
theorem all_D(hc:X.calm=true):CallR X (.builtin "all") (rC X.K X.mg allD):=by
 intro pins s σ H xs us Q I r h
 obtain⟨F,μ,S,ds,sk,rd,w⟩:=h
 unfold allD at w
 split at w
 ·split at w
  ·rename_i d ys e
   obtain⟨k,e1,q⟩:=a1u' w sk
   obtain⟨v,rfl,hv⟩:=rd.one
   obtain⟨u,rfl,ru⟩:=r.one
   obtain⟨h1,h2⟩:=a4o' _ _ e1
   have hw:=allany hc I sk hv ru e h1 id (Q:=Q) (fb:=fun n=>(List.range n).all (eJ (ys.map asB))) (by rw[Zk]at h2;rw[←h2];exact q)
   exact call_all_walk (wpAny_mono hw (fun it s₂ ⟨I0,fp,wr,n,P,Sx,a1,a2,a3,a4,a5⟩=>⟨I0,fp,wr,n,P,Sx,_,a1,a2,a3,a4,a5⟩) fun _ _ z=>z)
  ·exact w.elim
 ·exact w.elim
def rM(K:PySem.W.Frag)(mg:Str→Option Value)(g:D→List D→Store→Res D):V→List V→Hp→VK→Prop:=fun x xs H Q=>∃F μ S d ds,SOk K ⟨mg,F⟩ μ S H∧Rep K ⟨mg,F⟩ μ H d x∧RepL K ⟨mg,F⟩ μ H ds xs∧Want K ⟨mg,F⟩ μ H Q (g d ds S)
theorem a5p'{K:PySem.W.Frag}{mg:GS}{μ:List Addr}{H:Hp}{S:Store}{n:Nat}{v:V}{xs:List D}(s:SOk K mg μ S H)(r:Rep K mg μ H (.ref n) v)(e:S[n]?=some xs):∃a vs,v=.ref a∧μ[n]?=some a∧H a=some (.lst vs)∧RepL K mg μ H xs vs:=by
 unfold Rep at r
 obtain⟨a,rfl,h⟩:=r
 obtain⟨vs,h1,q⟩:=s.at_ n a xs h e
 exact⟨a,vs,rfl,h,h1,q⟩
def a4B'(d:D)(ds:List D)(S:Store):Res D:=match d,ds with
 | .ref n,[y]=>match S[n]? with
  |some xs=>if xs.length<big then .ok .non (S.set n (xs++[y]))else .fail
  |none=>.fail
 |_,_=>.fail
theorem b4A':MtR X "list.append" (rM X.K X.mg a4B'):=by
 intro pins s σ H x xs v us Q I rx rs h
 obtain⟨F,μ,S,d,ds,sk,rd,rds,w⟩:=h
 have hb:=a7S'
 unfold a4B' at w
 split at w
 ·split at w
  ·rename_i n y ys e
   split at w
   ·obtain⟨a,vs,rfl,hn,ha,r⟩:=a5p' sk rd e
    obtain⟨z,rfl,hz⟩:=rds.one
    have hl:=r.length
    exact a8E' pins s σ H _ _ v us Q I rx rs ⟨a,vs,z,rfl,rfl,ha,by omega,w.wrote sk hn ha (r.append (.cons hz .nil)) b0v'⟩
   ·exact w.elim
  ·exact w.elim
 ·exact w.elim
theorem RepL.dropLast{K:PySem.W.Frag}{mg:GS}{μ:List Addr}{H:Hp}{ds:List D}{vs:List V}(r:RepL K mg μ H ds vs):RepL K mg μ H ds.dropLast vs.dropLast:=by
 rw[List.dropLast_eq_take,List.dropLast_eq_take,r.length]
 exact r.take _
def popD(d:D)(ds:List D)(S:Store):Res D:=match d,ds with
 | .ref n,[]=>match S[n]? with
  |some xs=>match xs[xs.length-1]? with
   |some y=>.ok y (S.set n xs.dropLast)
   |none=>.fail
  |none=>.fail
 |_,_=>.fail
theorem pop_D:MtR X "list.pop" (rM X.K X.mg popD):=by
 intro pins s σ H x xs v us Q I rx rs h
 obtain⟨F,μ,S,d,ds,sk,rd,rds,w⟩:=h
 unfold popD at w
 split at w
 ·split at w
  ·rename_i n ys e
   split at w
   ·rename_i y e2
    obtain⟨a,vs,rfl,hn,ha,r⟩:=a5p' sk rd e
    unfold RepL at rds
    subst rds
    obtain⟨z,h1,h2⟩:=r.get e2
    rw[r.length]at h1
    exact mt_pop pins s σ H _ _ v us Q I rx rs ⟨a,vs,z,rfl,rfl,ha,h1,w.wrote sk hn ha r.dropLast h2⟩
   ·exact w.elim
  ·exact w.elim
 ·exact w.elim
def setD(d e f:D)(S:Store):Option Store:=match d,e with
 | .ref n,.int i=>match S[n]? with
  |some xs=>match ixN xs.length i with
   |some j=>some (S.set n (xs.set j f))
   |none=>none
  |none=>none
 |_,_=>none
def rSet(K:PySem.W.Frag)(mg:Str→Option Value):TSet:=fun o i v H Q=>∃F μ S d e f,SOk K ⟨mg,F⟩ μ S H∧Rep K ⟨mg,F⟩ μ H d o∧Rep K ⟨mg,F⟩ μ H e i∧Rep K ⟨mg,F⟩ μ H f v∧
 ∃S',setD d e f S=some S'∧∀μ' H',Ext μ H μ' H'→SOk K ⟨mg,F⟩ μ' S' H'→Q H'
theorem set_D:PSet X (rSet X.K X.mg):=by
 intro pins s σ H o i v ov iv u Q I ro ri rv h
 obtain⟨F,μ,S,d,e,f,sk,rd,re,rf,S',e1,w⟩:=h
 unfold setD at e1
 split at e1
 ·split at e1
  ·rename_i n k _ ys e2
   split at e1
   ·rename_i j e3
    cases e1
    obtain⟨a,vs,rfl,hn,ha,r⟩:=a5p' sk rd e2
    cases a0e' re
    rw[r.length]at e3
    exact b4s' pins s σ H _ _ v ov iv u Q I ro ri rv ⟨a,vs,k,j,rfl,rfl,ha,e3,w μ _ (.wrote (ZD hn) ha) (sk.wrote hn ha (r.set j rf))⟩
   ·cases e1
  ·cases e1
 ·cases e1
end
end Py
end
section
namespace Py
open PySem PySem.Spec PyProof.Rows L2
def clOf(env:Env):List (Str×NameKind)→List (Str×Addr)→List (Str×Addr)
 | [],cs=>cs
 | (n,k)::r,cs=>clOf env r (if k== .free then(match env.cells.lookup n with|some c=>(n,c)::cs|none=>cs)else cs)
theorem a6I'{scope:Scope}{env:Env}(h:∀x∈scope.names,x.2=.free→∃c,env.cells.lookup x.1=some c):closureFor scope env=pure (clOf env scope.names []):=by
 unfold closureFor
 have key:∀(l:List (Str×NameKind)) (cs:List (Str×Addr)),(∀x∈l,x.2=.free→∃c,env.cells.lookup x.1=some c)→
   (forIn l cs fun x r=>(if(x.2==NameKind.free)=true then do let c ←cellOf env x.1;pure (ForInStep.yield ((x.1,c)::r))else pure (ForInStep.yield r):Sem _))=pure (clOf env l cs):=by
  intro l
  induction l with
  |nil=>intro cs _;rfl
  |cons x l ih=>
   intro cs hl
   obtain⟨n,k⟩:=x
   rw[List.forIn_cons]
   unfold clOf
   by_cases hk:k=.free
   ·subst hk
    obtain⟨c,hc⟩:=hl (n,.free) (by simp) rfl
    have hc':cellOf env n=pure c:=by unfold cellOf;rw[hc]
    simp only[beq_self_eq_true,if_true,hc',hc]
    simp only[pure_bind]
    exact ih _ fun y hy=>hl y (Za _ hy)
   ·have hb:(k==NameKind.free)=false:=by simpa using hk
    simp only[hb,Zx,Z4,pure_bind]
    exact ih _ fun y hy=>hl y (Za _ hy)
 have:=key scope.names [] h
 first
  | (rw[←this];rfl)
  | (simp only[bind_pure];exact this)
  | (show(do let r ←_;pure r)=_;rw[bind_pure];exact this)
theorem a7U'{env:Env}:∀(l:List (Str×NameKind)) (cs:List (Str×Addr)),(∀p∈cs,env.cells.lookup p.1=some p.2)→∀p∈clOf env l cs,env.cells.lookup p.1=some p.2
 | [],cs,h,p,hp=>h p hp
 | (n,k)::r,cs,h,p,hp=>by
  unfold clOf at hp
  refine a7U' r _ (fun q hq=>?_) p hp
  split at hq
  ·split at hq
   ·rename_i c hc
    rcases Zn.mp hq with rfl|hq
    ·exact hc
    ·exact h q hq
   ·exact h q hq
  ·exact h q hq
theorem b0B'{env:Env}:∀(l:List (Str×NameKind)) (cs:List (Str×Addr)),∀p∈cs,p∈clOf env l cs
 | [],cs,p,hp=>hp
 | (n,k)::r,cs,p,hp=>by
  unfold clOf
  refine b0B' r _ p ?_
  split
  ·split
   ·exact Za _ hp
   ·exact hp
  ·exact hp
theorem b0C'{env:Env}{x:Str}{c:Addr}(hc:env.cells.lookup x=some c):∀(l:List (Str×NameKind)) (cs:List (Str×Addr)),(x,NameKind.free)∈l→(x,c)∈clOf env l cs
 | [],cs,h=>by cases h
 | (n,k)::r,cs,h=>by
  unfold clOf
  rcases Zn.mp h with e|h
  ·cases e
   refine b0B' r _ _ ?_
   simp only[beq_self_eq_true,if_true,hc]
   exact Zb
  ·exact b0C' hc r _ h
theorem a4e'{α:Type}{x:Str}{c:α}:∀{l:List (Str×α)},(x,c)∈l→∃d,l.lookup x=some d
 | [],h=>by cases h
 | (n,d)::r,h=>by
  rw[List.lookup_cons]
  cases e:x==n with
  |true=>exact⟨d,rfl⟩
  |false=>
   rcases Zn.mp h with e2|h
   ·cases e2;simp at e
   ·exact a4e' h
theorem a3r'{env:Env}:∀{names:List (Str×NameKind)} {x:Str} {k:NameKind},(names.map fun(n,k)=>if(k==NameKind.free&&env.scope.kind== .function&&env.kindOf n==some .cell)then(n,NameKind.cell)else(n,k)).lookup x=some k→
  ∃k',names.lookup x=some k'∧(k=k'∨(k'=.free∧k=.cell))
 | [],_,_,h=>by simp at h
 | (n,k0)::r,x,k,h=>by
  have ih:= @a3r' env r x k
  rw[ZA]at h
  rw[List.lookup_cons]
  by_cases hc:(k0==NameKind.free&&env.scope.kind== .function&&env.kindOf n==some .cell)=true
  ·simp only[hc,if_true,List.lookup_cons]at h
   cases e:x==n with
   |true=>
    rw[e]at h
    cases h
    refine⟨k0,rfl,.inr ⟨?_,rfl⟩⟩
    rw[Zr,Zr]at hc
    exact eq_of_beq hc.1.1
   |false=>rw[e]at h;exact ih h
  ·simp only[hc,Zx,Z4,List.lookup_cons]at h
   cases e:x==n with
   |true=>rw[e]at h;cases h;exact⟨k0,rfl,.inl rfl⟩
   |false=>rw[e]at h;exact ih h
theorem a1v'{env:Env}:∀{names:List (Str×NameKind)} {x:Str},names.lookup x=some .free→
  let m:=(names.map fun(n,k)=>if(k==NameKind.free&&env.scope.kind== .function&&env.kindOf n==some .cell)then(n,NameKind.cell)else(n,k))
  m.lookup x=some .cell∨m.lookup x=some .free
 | [],_,h=>by simp at h
 | (n,k0)::r,x,h=>by
  have ih:= @a1v' env r x
  rw[List.lookup_cons]at h
  dsimp only
  rw[ZA]
  by_cases hc:(k0==NameKind.free&&env.scope.kind== .function&&env.kindOf n==some .cell)=true
  ·simp only[hc,if_true,List.lookup_cons]
   cases e:x==n with
   |true=>exact .inl rfl
   |false=>rw[e]at h;exact ih h
  ·simp only[hc,Zx,Z4,List.lookup_cons]
   cases e:x==n with
   |true=>rw[e]at h;cases h;exact .inr rfl
   |false=>rw[e]at h;exact ih h
theorem a3s':∀(names:List (Str×NameKind)) (n:Nat) (a b:List (Str×Addr)),cellsFrom n names (a++b)=cellsFrom n names a++b
 | [],_,_,_=>rfl
 | (x,k)::r,n,a,b=>by
  show(if(k==NameKind.cell)=true then cellsFrom (n+1) r ((x,n)::(a++b))else cellsFrom n r (a++b))=(if(k==NameKind.cell)=true then cellsFrom (n+1) r ((x,n)::a)else cellsFrom n r a)++b
  split
  ·exact a3s' r (n+1) ((x,n)::a) b
  ·exact a3s' r n a b
theorem a5X'{x:Str}{c:Addr}:∀(names:List (Str×NameKind)) (n:Nat) (a:List (Str×Addr)),(x,c)∈cellsFrom n names a→(x,c)∈a∨(x,NameKind.cell)∈names
 | [],_,_,h=>.inl h
 | (y,k)::r,n,a,h=>by
  replace h:(x,c)∈(if(k==NameKind.cell)=true then cellsFrom (n+1) r ((y,n)::a)else cellsFrom n r a):=h
  split at h
  ·rename_i hk
   rcases a5X' r (n+1) _ h with h|h
   ·rcases Zn.mp h with h|h
    ·injection h with h _
     subst h
     have:k=.cell:=by simpa using hk
     subst this
     exact .inr Zb
    ·exact .inl h
   ·exact .inr (Za _ h)
  ·rcases a5X' r n _ h with h|h
   ·exact .inl h
   ·exact .inr (Za _ h)
theorem a7V'{M:Model}{A:Around}{E:Value→Shared→Prop}:∀(names:List (Str×NameKind)) (cs:List (Str×Addr)) (s:Shared) (Q:List (Str×Addr)→Shared→Prop),Q (cellsFrom s.heap.objs.size names cs) {s with heap:=pushCells s.heap names}→
  wpAny M A (forIn names cs fun x r=>match x with
   | (name,kind)=>if(kind==NameKind.cell)=true then do
     let c ←alloc {cls:=Value.type "cell",data:=Data.cell none}
     pure (ForInStep.yield ((name,c)::r))
    else pure (ForInStep.yield r)) Q E s
 | [],cs,s,Q,h=>by
  rw[List.forIn_nil]
  exact Zl h
 | (x,k)::r,cs,s,Q,h=>by
  rw[List.forIn_cons]
  have h:Q (if(k==NameKind.cell)=true then cellsFrom (s.heap.objs.size+1) r ((x,s.heap.objs.size)::cs)else cellsFrom s.heap.objs.size r cs) {s with heap:=if(k==NameKind.cell)=true then pushCells (s.heap.push {cls:=.type "cell",data:=.cell none}) r else pushCells s.heap r}:=h
  cases hk:(k==NameKind.cell)with
  |true=>
   rw[hk,if_pos rfl,if_pos rfl]at h
   refine Zc ?_
   show wpAny M A (if(k==NameKind.cell)=true then _ else _) _ _ _
   rw[hk,if_pos rfl]
   refine Zc (wpAny_alloc (Zl ?_))
   refine a7V' r _ {s with heap:=s.heap.push {cls:=.type "cell",data:=.cell none}} Q ?_
   show Q (cellsFrom (s.heap.push {cls:=.type "cell",data:=.cell none}).objs.size r _) _
   rw[Heap.size_push]
   exact h
  |false=>
   rw[hk,if_neg (by decide),if_neg (by decide)]at h
   refine Zc ?_
   show wpAny M A (if(k==NameKind.cell)=true then _ else _) _ _ _
   rw[hk,if_neg (by decide)]
   refine Zl ?_
   exact a7V' r _ s Q h
theorem b2u'{M:Model}{A:Around}{E:Value→Shared→Prop}{s:Shared}{scope:Scope}{g:Addr}{cl:List (Str×Addr)}{q:Str}{out:Env}{bl:Addr}{Q:Env→Shared→Prop}
  (h:Q ⟨scope,s.heap.objs.size,g,cellsFrom (s.heap.objs.size+1) scope.names cl,q,none,out.code,out.frame,out.builtins⟩ {s with heap:=pushCells (s.heap.push {cls:=.type "dict",data:=.dict #[]}) scope.names}):
  wpAny M A (newFunctionEnv scope g cl [] q none .none (some out) bl) Q E s:=by
 unfold newFunctionEnv
 refine Zc (wpAny_alloc (Zc (a7V' scope.names cl _ _ ?_)))
 show wpAny M A (forIn ([]:List (Str×Value)) PUnit.unit _>>=fun _=>pure _) _ _ _
 rw[List.forIn_nil]
 refine Zc (Zl (Zl ?_))
 have e:(s.heap.push {cls:=Value.type (if(some out).isSome=true then "dict" else "frame"),data:=Data.dict #[]}).objs.size=s.heap.objs.size+1:=Heap.size_push ..
 show Q ⟨scope,s.heap.objs.size,g,cellsFrom (s.heap.push {cls:=Value.type (if(some out).isSome=true then "dict" else "frame"),data:=Data.dict #[]}).objs.size scope.names cl,q,none,out.code,out.frame,out.builtins⟩ _
 rw[e]
 exact h
def cxC(X:Cx)(scope:Scope)(N:List Str)(C:Addr)(s0:Shared)(H0:Hp)(fp:List Addr):Cx:=
 {X with N:=N,s₀:=s0,H₀:=H0,env:=compEnvC scope (cellsFrom (C+1) scope.names (clOf X.env scope.names [])) C X.env,outer:=X.stack,stack:=X.stack,ex:=fp,fn:=fun x=>scope.names.lookup x==some .cell,pn:=[],xe:=fun _ _=>False}
structure CScope (X:Cx)(scope:Scope):Prop where
 kind:scope.kind=.function
 cel:∀y∈scope.names,y.2=.cell→scope.names.lookup y.1=some .cell
 loc:∀y∈scope.names,y.2=.local→scope.names.lookup y.1=some .local
 free:∀y∈scope.names,y.2=.free→X.env.kindOf y.1=some .cell∨X.env.kindOf y.1=some .free
section
variable {X:Cx}{pins:List (Addr×Obj)}{σ:L2.St}{H:Hp}{s:Shared}{scope:Scope}{N:List Str}{fp:List Addr}
theorem fs_of(I:Inv X pins σ H s){b:Addr}(h1:b≠X.env.locals)(h2:b∉X.fs):b∉frs X.stack:=fun z=>(Zn.mp (I.stkSub b z)).elim h1 h2
theorem a0V'{n:Nat}{x:Str}{c:Addr}(h:(cellsFrom n scope.names (clOf X.env scope.names [])).lookup x=some c):(cellsFrom n scope.names []).lookup x=some c∨((cellsFrom n scope.names []).lookup x=none∧(clOf X.env scope.names []).lookup x=some c):=by
 have e:=a3s' scope.names n [] (clOf X.env scope.names [])
 rw[List.nil_append]at e
 rw[e,List.lookup_append]at h
 cases z:(cellsFrom n scope.names []).lookup x with
 |some d=>rw[z]at h;exact .inl h
 |none=>rw[z]at h;exact .inr ⟨rfl,h⟩
theorem b2v'{n:Nat}{x:Str}{c:Addr}(h:(cellsFrom n scope.names []).lookup x=some c):(cellsFrom n scope.names (clOf X.env scope.names [])).lookup x=some c:=by
 have e:=a3s' scope.names n [] (clOf X.env scope.names [])
 rw[List.nil_append]at e
 rw[e,List.lookup_append,h]
 rfl
theorem b0D'{n:Nat}{x:Str}{c:Addr}(h:(cellsFrom n scope.names []).lookup x=none)(h2:(clOf X.env scope.names []).lookup x=some c):(cellsFrom n scope.names (clOf X.env scope.names [])).lookup x=some c:=by
 have e:=a3s' scope.names n [] (clOf X.env scope.names [])
 rw[List.nil_append]at e
 rw[e,List.lookup_append,h]
 exact h2
theorem b4B'{h1:Heap}{m:Str→Option Value}{tk:Nat}{σ':L2.St}(hc:X.calm=true)(I:Inv X pins σ H s)(sc:CScope X scope)(hf:∀b∈fp,FpOk X pins H b)(hfo:∀b∈fp,∃o,s.heap.get? b=some o)
  (hn:h1.Ns s.heap.objs.size m) (old:∀b o,s.heap.get? b=some o→h1.get? b=some o) (hcl:CellsOk h1 (s.heap.objs.size+1) (cellsFrom (s.heap.objs.size+1) scope.names [])) (hl:σ'.length=N.length)
  (hσ:∀(i:Nat) (v:V) (x:Str),N[i]?=some x→σ'[i]?=some (some v)→scope.names.lookup x=some .free∧∃j:Nat,X.N[j]?=some x∧σ[j]?=some (some v)):
  Inv (cxC X scope N s.heap.objs.size s H fp) (X.pn++pins) σ' H {s with heap:=h1,toks:=tk}:=by
 have lt:∀{b:Addr} {o:Obj},s.heap.get? b=some o→b≠s.heap.objs.size:=fun e=>ZQ (Zq e)
 have cl1:∀x c,(clOf X.env scope.names []).lookup x=some c→X.env.cells.lookup x=some c:=fun x c h=>a7U' scope.names [] (fun _ z=>nomatch z) (x,c) (ZM h)
 have cellLt:∀x c,X.env.cells.lookup x=some c→c<s.heap.objs.size:=fun x c h=>by obtain⟨v,q⟩:=I.cell x c h;exact q.lt
 have ownC:∀x c,(cellsFrom (s.heap.objs.size+1) scope.names []).lookup x=some c→h1.IsCell c none∧s.heap.objs.size+1≤c:=fun x c h=>hcl.empty x c (ZM h)
 have ownK:∀x c,(cellsFrom (s.heap.objs.size+1) scope.names []).lookup x=some c→scope.names.lookup x=some .cell:=fun x c h=>by
  rcases a5X' scope.names _ _ (ZM h)with z|z
  ·cases z
  ·exact sc.cel _ z rfl
 have has:∀x,scope.names.lookup x=some .free→(cellsFrom (s.heap.objs.size+1) scope.names []).lookup x=none∧∃c,(clOf X.env scope.names []).lookup x=some c:=fun x h=>by
  refine⟨?_,?_⟩
  ·cases z:(cellsFrom (s.heap.objs.size+1) scope.names []).lookup x with
   |none=>rfl
   |some c=>have:=ownK x c z;rw[h]at this;cases this
  ·have hm:=ZM h
   obtain⟨c,hcc⟩:=I.ok.has x (sc.free _ hm rfl)
   exact a4e' (b0C' hcc scope.names [] hm)
 have kindC:∀x,((cxC X scope N s.heap.objs.size s H fp).env.kindOf x=some .cell∨(cxC X scope N s.heap.objs.size s H fp).env.kindOf x=some .free)→scope.names.lookup x=some .free∨scope.names.lookup x=some .cell:=fun x h=>by
  have go:∀k,(k=NameKind.cell∨k=.free)→(relabel scope X.env).names.lookup x=some k→scope.names.lookup x=some .free∨scope.names.lookup x=some .cell:=fun k hk h=>by
   obtain⟨k',h1,h2⟩:=a3r' h
   rcases h2 with rfl| ⟨rfl,_⟩
   ·rcases hk with rfl|rfl
    ·exact .inr h1
    ·exact .inl h1
   ·exact .inl h1
  rcases h with h|h
  ·exact go _ (.inl rfl) h
  ·exact go _ (.inr rfl) h
 have apart:∀x y c,(cellsFrom (s.heap.objs.size+1) scope.names []).lookup x=some c→(cellsFrom (s.heap.objs.size+1) scope.names []).lookup y=some c→x=y:=fun x y c h1 h2=>by
  have m1:=ZM h1
  have m2:=ZM h2
  have ap:=hcl.apart
  generalize cellsFrom (s.heap.objs.size+1) scope.names []=l at m1 m2 ap
  induction l with
  |nil=>cases m1
  |cons p l ih=>
   obtain⟨a1,a2⟩:=ZW.mp ap
   rcases Zn.mp m1 with rfl|n1
   ·rcases Zn.mp m2 with z|n2
    ·injection z with z _;exact z.symm
    ·exact(a1 (y,c) n2 rfl).elim
   ·rcases Zn.mp m2 with rfl|n2
    ·exact(a1 (x,c) n1 rfl).elim
    ·exact ih n1 n2 a2
 refine⟨⟨I.ok.mod,?_,I.ok.glob,I.ok.blt,Zj _,fun x y c h1 h2=>?_,fun x h=>?_,fun x c h h2=>?_,I.ok.hd,I.ok.frames,.inl rfl,fun b hb=>?_,I.bs,ZL I.ok.bsz I.sz,fun b o e hb=>?_,fun b hb=>?_,I.stack,I.stkFree⟩,
  rfl,I.bare,Un.kept old,⟨m,hn,fun i x v e1 e2 e3=>?_⟩,fun x c h=>?_,I.hok.fresh (Zj _),fun x c h=>?_,fun p hp=>?_,I.hok.kept old,hl⟩
 ·show(relabel scope X.env).kind=.function
  unfold relabel;exact sc.kind
 ·rcases a0V' h1 with z| ⟨_,z⟩<;>rcases a0V' h2 with y'| ⟨_,y'⟩
  ·exact apart x y c z y'
  ·exact absurd (cellLt _ _ (cl1 _ _ y')) (Nat.not_lt.mpr (Nat.le_of_succ_le (ownC _ _ z).2))
  ·exact absurd (cellLt _ _ (cl1 _ _ z)) (Nat.not_lt.mpr (Nat.le_of_succ_le (ownC _ _ y').2))
  ·exact I.ok.inj x y c (cl1 x c z) (cl1 y c y')
 ·rcases kindC x h with h|h
  ·obtain⟨z,c,hc2⟩:=has x h
   exact⟨c,b0D' z hc2⟩
  ·have:=PySem.W.cellsFrom_some (x:=x) scope.names (s.heap.objs.size+1) [] (.inl h)
   obtain⟨c,hc2⟩:=Option.isSome_iff_exists.mp this
   exact⟨c,b2v' hc2⟩
 ·have hk:scope.names.lookup x=some .cell:=by simpa[cxC]using h
  rcases a0V' h2 with z| ⟨z,_⟩
  ·exact Nat.le_of_succ_le (ownC _ _ z).2
  ·have:=PySem.W.cellsFrom_some (x:=x) scope.names (s.heap.objs.size+1) [] (.inl hk)
   rw[z]at this;cases this
 ·obtain⟨f0,f1,f2,f3,f4,f5⟩:=hf b hb
  obtain⟨o,ho⟩:=hfo b hb
  refine⟨lt ho,fun x c h=>?_⟩
  rcases a0V' h with z| ⟨_,z⟩
  ·exact fun q=>absurd (Zq ho) (Nat.not_lt.mpr (q▸Nat.le_of_succ_le (ownC _ _ z).2))
  ·exact f4 x c (cl1 x c z)
 ·obtain⟨f0,f1,f2,f3,f4,f5⟩:=hf b hb
  rcases f3 with f3|f3
  ·exact I.ok.noex b o e f3
  ·exact absurd (Zq (I.ok.bs b o e).1) (Nat.not_lt.mpr f3)
 ·obtain⟨f0,f1,f2,f3,f4,f5⟩:=hf b hb
  exact fs_of I f1 f2
 ·obtain⟨g1,j,g2,g3⟩:=hσ i v x e1 e2
  obtain⟨m0,_,l0⟩:=I.loc
  have hv:Vis X.env.scope x:=by
   rcases sc.free _ (ZM g1) rfl with q|q
   ·exact .inr (.inl q)
   ·exact .inr (.inr q)
  obtain⟨u,r,q⟩:=l0 j x v g2 g3 hv
  refine⟨u,r,.inr ⟨a1v' g1,?_⟩⟩
  obtain⟨z,c,hcl⟩:=has x g1
  have hcc:=cl1 x c hcl
  refine⟨c,b0D' z hcl,?_⟩
  have kx:=sc.free _ (ZM g1) rfl
  rcases q with⟨q,_⟩| ⟨_,c',q1,q2⟩
  ·rcases kx with kx|kx
   ·rw[q]at kx;cases kx
   ·rw[q]at kx;cases kx
  ·rw[hcc]at q1;cases q1
   obtain⟨o,ho,hd⟩:=q2
   exact⟨o,old _ _ ho,hd⟩
 ·rcases a0V' h with z| ⟨_,z⟩
  ·exact⟨none,(ownC _ _ z).1⟩
  ·obtain⟨v,o,ho,hd⟩:=I.cell x c (cl1 x c z)
   exact⟨v,o,old _ _ ho,hd⟩
 ·rcases a0V' h with z| ⟨_,z⟩
  ·exact I.hok.fresh (Nat.le_of_succ_le (ownC _ _ z).2)
  ·exact I.freeC x c (cl1 x c z)
 ·have hp':p∈X.pn++pins:=by simpa[cxC]using hp
  obtain⟨e,n,ne,nf,d⟩:=I.pin p hp'
  exact⟨old _ _ e,n,lt e,fs_of I ne nf,d⟩
theorem b4C'{C:Addr}{s':Shared}{σ':L2.St}{H':Hp}{h':Heap}(I:Inv X pins σ H s)(hf:∀b∈fp,FpOk X pins H b)(hC:C=s.heap.objs.size){pins':List (Addr×Obj)}(J:Inv (cxC X scope N C s H fp) pins' σ' H' s')(hs:Heap.SameBut C s'.heap h'):
  Inv X pins σ H' {s' with heap:=h'}:=by
 have ne:∀{b:Addr} {o:Obj},s.heap.get? b=some o→b≠C:=fun e=>by rw[hC];exact ZQ (Zq e)
 have B:Un (frs X.stack) fp H H' s.heap s'.heap:=J.base
 have u:Un (frs X.stack) fp H H' s.heap h':=
  ⟨fun b o e n hb he=>(hs.2 b (ne e)).trans (B.keep b o e n hb he),fun b o e n hb he=>by obtain⟨sl,q⟩:=B.slot b o e n hb he;exact⟨sl,(hs.2 b (ne e)).trans q⟩,B.free,
   fun b o e he=>by obtain⟨o',q⟩:=B.there b o e he;exact⟨o',(hs.2 b (ne e)).trans q⟩,B.tups,B.frzs,B.tbls⟩
 have hfree:H' C=none:=J.free
 have hok:HOk X.prog X.w H' h':=fun b ob e=>by
  refine(J.hok b ob e).stay (fun c w' hc q=>(hs.2 c ?_).trans q) (fun _ q=>q) fun _ _ q=>q
  rintro rfl
  rcases hc with rfl|hc
  ·rw[hfree]at e;cases e
  ·rw[hfree]at hc;cases hc
 exact I.call' (s':={s' with heap:=h'}) (ch:=fp) J.os u hok J.bare fun b hb=>by
  obtain⟨f0,f1,f2,f3,f4,f5⟩:=hf b hb
  exact⟨f3,f1,f4,f5⟩
end
def PB(X:Cx)(body:Sem Unit)(t:L2.St→Hp→(L2.St→Hp→Prop)→Prop):Prop:=
 ∀(pins:List (Addr×Obj)) (s:Shared) (σ:L2.St) (H:Hp) (Q:L2.St→Hp→Prop),Inv X pins σ H s→t σ H Q→wpAny (model X.prog X.w) X.A body (fun _ s'=>∃σ' H',Inv X pins σ' H' s'∧Q σ' H') X.xe s
section
variable {X:Cx}
theorem noteF{M:Model}{A:Around}{E:Value→Shared→Prop}{α:Type}{m:Sem α}{Q:α→Shared→Prop}{s:Shared}(hx:X.xe=fun _ _=>False)(h:wpAny M A m Q X.xe s):wpAny M A m Q E s:=by
 rw[hx]at h
 exact wpAny_mono h (fun _ _ q=>q) fun _ _ z=>z.elim
theorem a8G'{elt:Expr}{gens:List Comprehension}{scope:Scope}{epos:Pos}{d:Nat}{tg:Expr}{it:Addr}{acc:Value}{p:Pos}{body:Sem Unit}{J:It}{fp:List Addr}{tn:Nat→Heap→Prop}{g:TG}{tb:L2.St→Hp→(L2.St→Hp→Prop)→Prop}{R:Result→Shared→Prop}{pins:List (Addr×Obj)}{s:Shared}{σ:L2.St}{H:Hp}{Fin:L2.St→Hp→Prop}
  (hx:X.xe=fun _ _=>False) (hc:X.calm=true)
  (heq:compTurn (.ListComp elt gens scope epos) d (.ref it) acc X.env=(standAt p>>=fun _=>pyNext (.ref it)>>=fun r=>match r with
   |none=>pure (.done .next)
   |some v=>letOwnedTupleGo tg (.ref it) v>>=fun _=>assign tg X.env v>>=fun _=>body>>=fun _=>again (.compLoop (.ListComp elt gens scope epos) d (.ref it) acc X.env)))
  (T:Turn X.prog X.w X.K tg J fp it tn) (hg:PG X tg g) (hb:PB X body tb) (I:Inv X pins σ H s) (st:tn 0 s.heap) (hf:∀b∈fp,FpOk X pins H b)
  (W:∃W:Nat→Nat→L2.St→Hp→Prop,(∃m,W 0 m σ H)∧∀i m σ H,W i m σ H→
   (J.stop i H∧Fin σ H)∨(J.go i H∧∃Nx:L2.St→Hp→Prop,(∀σ' H',Nx σ' H'→∃m',m'<m∧W (i+1) m' σ' H')∧∀x H',J.yld i H x H'→g x σ H' fun σ2 H2=>tb σ2 H2 Nx))
  (hR:∀s' σ' H',Inv X pins σ' H' s'→(∀b∈fp,H' b=none)→Fin σ' H'→R (.ok .next) s'):codeAny (model X.prog X.w) X.A (.compLoop (.ListComp elt gens scope epos) d (.ref it) acc X.env) R s:=by
 obtain⟨W,⟨m0,w0⟩,turn⟩:=W
 have stat:∀{H':Hp},(∀b∈fp,H' b=none)→∀b∈fp,FpOk X pins H' b:=fun hn b hb=>⟨hn b hb,(hf b hb).2⟩
 refine codeAny_loop rfl (fun n s'=>∃i σ' H',Inv X pins σ' H' s'∧tn i s'.heap∧(∀b∈fp,H' b=none)∧W i n σ' H') ?_ m0 ⟨0,σ,H,I,st,fun b hb=>(hf b hb).1,w0⟩
 rintro n s3 ⟨i,σ3,H3,I3,st3,fr3,w3⟩
 show wpAny _ X.A ((compTurn (.ListComp elt gens scope epos) d (.ref it) acc X.env).onRaise (fun x=>do noteFrame x X.env;theTreesLotGoes x)) _ _ s3
 refine wpAny_noted ?_
 rw[heq]
 refine Zc (wpAny_standAt ?_)
 rcases turn i n σ3 H3 w3 with⟨stop,qn⟩| ⟨go,Nx,hN,step⟩
 ·refine Zc (noteF hx (thn (T.done X rfl rfl rfl hc i pins s3 σ3 H3 X.xe I3 (stat fr3) st3 stop) fun r s4 ⟨hr,I4⟩=>?_))
  subst hr
  exact Zl (hR s4 σ3 H3 I4 fr3 qn)
 ·refine Zc (noteF hx (thn (T.item X rfl rfl rfl hc i pins s3 σ3 H3 X.xe I3 (stat fr3) st3 go) fun r s4 ⟨u,hr,h4⟩=>?_))
  subst hr
  refine Zc (noteF hx (thn h4 fun _ s5 ⟨x,H5,I5,r5,y5,st5,fr5⟩=>?_))
  have I5':=I5.pinned (stat fr5) (T.obj _ _ st5)
  refine Zc (noteF hx (thn (hg _ s5 σ3 H5 x u _ I5' r5 (step x H5 y5)) fun _ s6 ⟨σ6,H6,I6,q6⟩=>?_))
  refine Zc (noteF hx (thn (hb _ s6 σ6 H6 _ I6 q6) fun _ s7 ⟨σ7,H7,I7,n7⟩=>?_))
  refine Zl ?_
  obtain⟨m',hm,w7⟩:=hN σ7 H7 n7
  refine⟨rfl,m',hm,i+1,σ7,H7,I7.unpinned,T.keep _ _ _ st5 fun b hb o e=>(I7.pin (b,o) (ZE _ (ZE _ (a3p' hb e)))).1,fun b hb=>?_,w7⟩
  obtain⟨o,e,d⟩:=T.obj _ _ st5 b hb
  exact(I7.pin (b,o) (ZE _ (ZE _ (a3p' hb e)))).2.1
end
end Py
end
section
namespace Py
open PySem PySem.Spec PyProof.Rows L2
abbrev TU:=L2.St→Hp→(L2.St→Hp→Prop)→Prop
section
variable {X:Cx}
def b2w':List TT→(L2.St→Hp→(Bool→Hp→Prop)→Prop)
 | []=>fun _ H Q=>Q true H
 |t::r=>fun σ H Q=>t σ H fun b H1=>if b=true then b2w' r σ H1 Q else Q false H1
def PTs(X:Cx):List Expr→List TT→Prop
 | [],[]=>True
 |e::es,t::ts=>PT X e t∧PTs X es ts
 |_,_=>False
theorem a5q'{M:Model}{A:Around}{E:Value→Shared→Prop}{env:Env}{Q:Bool→Shared→Prop}{s:Shared}:∀(ifs:List Expr),Q false s→
  wpAny M A (forIn ifs false fun c r=>if r=true then do let ok ←isTrue c env (eval c env);pure (ForInStep.yield ok)else pure (ForInStep.yield r)) Q E s
 | [],h=>Zl h
 |c::r,h=>by
  rw[List.forIn_cons]
  simp only[Zx,Z4]
  exact Zc (Zl (a5q' r h))
theorem b0E':∀(ifs:List Expr) (ts:List TT),PTs X ifs ts→∀(pins:List (Addr×Obj)) (s:Shared) (σ:L2.St) (H:Hp) (Q:Bool→Hp→Prop),Inv X pins σ H s→b2w' ts σ H Q→
  wpAny (model X.prog X.w) X.A (forIn ifs true fun c r=>if r=true then do let ok ←isTrue c X.env (eval c X.env);pure (ForInStep.yield ok)else pure (ForInStep.yield r)) (TP X pins σ Q) X.xe s
 | [],[],_,pins,s,σ,H,Q,I,h=>Zl ⟨H,I,h⟩
 |e::es,t::ts,p,pins,s,σ,H,Q,I,h=>by
  rw[List.forIn_cons]
  simp only[if_true]
  refine Zc (Zc (thn (p.1 pins s σ H _ I h) fun b s1 ⟨H1,I1,q1⟩=>Zl ?_))
  cases b with
  |true=>
   rw[if_pos rfl]at q1
   exact b0E' es ts p.2 pins s1 σ H1 Q I1 q1
  |false=>
   rw[if_neg (by decide)]at q1
   exact a5q' es ⟨H1,I1,q1⟩
 | [],_::_,p,_,_,_,_,_,_,_=>p.elim
 |_::_,[],p,_,_,_,_,_,_,_=>p.elim
def tEmit(acc:Addr)(te:TE):TU:=fun σ H Q=>te σ H fun v H1=>∃ys,H1 acc=some (.lst ys)∧ys.length<sizeLine∧Q σ (upd H1 acc (.lst (ys++[v])))
def tWhen(ts:List TT)(t:TU):TU:=fun σ H Q=>b2w' ts σ H fun b H1=>if b=true then t σ H1 Q else Q σ H1
def tInner(wi:TI)(g:TG)(tb:TU):TU:=fun σ H Q=>wi σ H fun J H1=>∃W:Nat→Nat→L2.St→Hp→Prop,(∃m,W 0 m σ H1)∧∀i m σ H,W i m σ H→
   (J.stop i H∧Q σ H)∨(J.go i H∧∃Nx:L2.St→Hp→Prop,(∀σ' H',Nx σ' H'→∃m',m'<m∧W (i+1) m' σ' H')∧∀x H',J.yld i H x H'→g x σ H' fun σ2 H2=>tb σ2 H2 Nx)
def tComp(cs:L2.St→L2.St)(wi:TI)(g:TG)(tb:Addr→TU):TE:=fun σ H Q=>wi σ H fun J H1=>∀acc,H1 acc=none→
 ∃W:Nat→Nat→L2.St→Hp→Prop,(∃m,W 0 m (cs σ) (upd H1 acc (.lst [])))∧∀i m σ H,W i m σ H→
   (J.stop i H∧Q (.ref acc) H)∨(J.go i H∧∃Nx:L2.St→Hp→Prop,(∀σ' H',Nx σ' H'→∃m',m'<m∧W (i+1) m' σ' H')∧∀x H',J.yld i H x H'→g x σ H' fun σ2 H2=>tb acc σ2 H2 Nx)
def CsOk(X:Cx)(scope:Scope)(N:List Str)(cs:L2.St→L2.St):Prop:=∀σ:L2.St,σ.length=X.N.length→(cs σ).length=N.length∧
 ∀(i:Nat) (v:V) (x:Str),N[i]?=some x→(cs σ)[i]?=some (some v)→scope.names.lookup x=some .free∧∃j:Nat,X.N[j]?=some x∧σ[j]?=some (some v)
theorem b3z'{pins:List (Addr×Obj)}{σ:L2.St}{H:Hp}{s:Shared}{scope:Scope}(I:Inv X pins σ H s)(sc:CScope X scope):closureFor scope X.env=pure (clOf X.env scope.names []):=
 a6I' fun x hx hk=>I.ok.has x.1 (sc.free x hx hk)
theorem b2x'(h3:Heap)(d:Obj)(names:List (Str×NameKind)):CellsOk (pushCells (h3.push d) names) (h3.objs.size+1) (cellsFrom (h3.objs.size+1) names []):=by
 have e:(h3.push d).objs.size=h3.objs.size+1:=Heap.size_push ..
 have:=cellsFrom_ok names (h3.push d) (h3.objs.size+1) [] ⟨(fun _ _ h=>by cases h),.nil⟩ (by rw[e];exact Zj _)
 rw[e]at this
 exact this
theorem a8H'{elt tg iter:Expr}{ifs:List Expr}{rest:List Comprehension}{scope:Scope}{pos:Pos}{N:List Str}{cs:L2.St→L2.St}{J:It}{g:TG}{tb:Addr→TU}{R:Value→Addr→Result→Shared→Prop}{Fin:V→Hp→Prop}
  {pins:List (Addr×Obj)} {σ:L2.St} {H:Hp} {s:Shared} {it:Addr} {fp:List Addr} {tn:Nat→Heap→Prop} {E:Value→Shared→Prop} (hc:X.calm=true) (sc:CScope X scope) (hcs:CsOk X scope N cs) (I:Inv X pins σ H s) (T:Turn X.prog X.w X.K tg J fp it tn) (st:tn 0 s.heap) (hf:∀b∈fp,FpOk X pins H b)
  (body:Addr→Env→Sem Unit)
  (heq:∀(acc:Addr) (env:Env),compTurn (.ListComp elt (⟨tg,iter,ifs,0⟩::rest) scope pos) 0 (.ref it) (.ref acc) env=(standAt iter.pos>>=fun _=>pyNext (.ref it)>>=fun r=>match r with
   |none=>pure (.done .next)
   |some v=>letOwnedTupleGo tg (.ref it) v>>=fun _=>assign tg env v>>=fun _=>body acc env>>=fun _=>again (.compLoop (.ListComp elt (⟨tg,iter,ifs,0⟩::rest) scope pos) 0 (.ref it) (.ref acc) env)))
  (hin:∀(C:Addr) (s0:Shared) (H0:Hp) (fp:List Addr) (acc:Addr),PG (cxC X scope N C s0 H0 fp) tg g∧PB (cxC X scope N C s0 H0 fp) (body acc (cxC X scope N C s0 H0 fp).env) (tb acc))
  (W:∀acc,H acc=none→∃W:Nat→Nat→L2.St→Hp→Prop,(∃m,W 0 m (cs σ) (upd H acc (.lst [])))∧∀i m σ H,W i m σ H→
   (J.stop i H∧Fin (.ref acc) H)∨(J.go i H∧∃Nx:L2.St→Hp→Prop,(∀σ' H',Nx σ' H'→∃m',m'<m∧W (i+1) m' σ' H')∧∀x H',J.yld i H x H'→g x σ H' fun σ2 H2=>tb acc σ2 H2 Nx))
  (hR:∀(acc C:Addr) (s':Shared) (H':Hp) (m:Str→Option Value),s'.heap.Ns C m→C≠X.env.locals→(∀x c,X.env.cells.lookup x=some c→c≠C)→H' C=none→X.s₀.heap.objs.size≤C→(∀p∈X.pn++pins,p.1≠C)→(∀h',Heap.SameBut C s'.heap h'→Inv X pins σ H' {s' with heap:=h'})→Fin (.ref acc) H'→R (.ref acc) C (.ok .next) s'):
  wpAny (model X.prog X.w) X.A (newList []) (fun acc s₃=>wpAny (model X.prog X.w) X.A (newFunctionEnv scope X.env.globals (clOf X.env scope.names []) [] X.env.qual none .none (some X.env)) (fun cenv s₄=>
   codeAny (model X.prog X.w) X.A (.compStart (.ListComp elt (⟨tg,iter,ifs,0⟩::rest) scope pos) 0 (.ref it) acc {cenv with scope:=relabel scope X.env}) (R acc cenv.locals) s₄) E s₃) E s:=by
 refine wpAny_newObj_type (b2u' ?_)
 have hfr:H s.heap.objs.size=none:=I.hok.fresh (Zj _)
 have I3:Inv X pins σ (upd H s.heap.objs.size (.lst [])) {s with heap:=s.heap.push {cls:=.type "list",data:=.seq ([]:List Value).toArray},toks:=s.toks}:=I.lnew (its:=[]) (ys:=[]) .nil (Nat.zero_le _)
 have fpl:∀b∈fp,∃o,s.heap.get? b=some o:=fun b hb=>by obtain⟨o,e,_⟩:=T.obj _ _ st b hb;exact⟨o,e⟩
 have hf3:∀b∈fp,FpOk X pins (upd H s.heap.objs.size (.lst [])) b:=fun b hb=>by
  obtain⟨f0,f1⟩:=hf b hb
  obtain⟨o,ho⟩:=fpl b hb
  exact⟨by rw[a0E' (ZQ (Zq ho))];exact f0,f1⟩
 have fpl3:∀b∈fp,∃o,(s.heap.push {cls:=.type "list",data:=.seq ([]:List Value).toArray}).get? b=some o:=fun b hb=>by obtain⟨o,ho⟩:=fpl b hb;exact⟨o,Zd _ ho⟩
 obtain⟨k1,k2⟩:=hcs σ I.len
 obtain⟨h₁,eh⟩:∃h₁,h₁=pushCells ((s.heap.push {cls:=.type "list",data:=.seq ([]:List Value).toArray}).push {cls:=.type "dict",data:=.dict #[]}) scope.names:=⟨_,rfl⟩
 have old3:∀b o,(s.heap.push {cls:=.type "list",data:=.seq ([]:List Value).toArray}).get? b=some o→h₁.get? b=some o:=fun b o e=>by rw[eh];exact pushCells_keeps _ _ _ _ (Zd _ e)
 have hns₁:h₁.Ns (s.heap.push {cls:=.type "list",data:=.seq ([]:List Value).toArray}).objs.size fun _=>none:=by
  rw[eh]
  exact⟨_,_,_,pushCells_keeps _ _ _ _ (Zt _ rfl),rfl,(fun x h=>by simp at h),fun _=>rfl⟩
 have hcl:CellsOk h₁ ((s.heap.push {cls:=.type "list",data:=.seq ([]:List Value).toArray}).objs.size+1) (cellsFrom ((s.heap.push {cls:=.type "list",data:=.seq ([]:List Value).toArray}).objs.size+1) scope.names []):=by
  rw[eh]
  exact b2x' _ _ _
 rw[←eh]
 have J0:=b4B' (tk:=s.toks) (N:=N) (scope:=scope) (σ':=cs σ) hc I3 sc hf3 fpl3 hns₁ old3 hcl k1 k2
 have old:∀b o,s.heap.get? b=some o→h₁.get? b=some o:=fun b o e=>old3 b o (Zd _ e)
 have st1:tn 0 h₁:=T.keep _ _ _ st fun b _ o e=>old b o e
 have hlt:X.env.locals<(s.heap.push {cls:=.type "list",data:=.seq ([]:List Value).toArray}).objs.size:=I3.lt
 have loop:codeAny (model X.prog X.w) X.A (.compLoop (.ListComp elt (⟨tg,iter,ifs,0⟩::rest) scope pos) 0 (.ref it) (.ref s.heap.objs.size) (cxC X scope N (s.heap.push {cls:=.type "list",data:=.seq ([]:List Value).toArray}).objs.size {s with heap:=s.heap.push {cls:=.type "list",data:=.seq ([]:List Value).toArray},toks:=s.toks} (upd H s.heap.objs.size (.lst [])) fp).env)
   (R (.ref s.heap.objs.size) (s.heap.push {cls:=.type "list",data:=.seq ([]:List Value).toArray}).objs.size) {s with heap:=h₁,toks:=s.toks}:=by
  obtain⟨p1,p2⟩:=hin (s.heap.push {cls:=.type "list",data:=.seq ([]:List Value).toArray}).objs.size {s with heap:=s.heap.push {cls:=.type "list",data:=.seq ([]:List Value).toArray},toks:=s.toks} (upd H s.heap.objs.size (.lst [])) fp s.heap.objs.size
  refine a8G' (X:=cxC X scope N _ _ _ fp) (Fin:=fun _ H'=>Fin (.ref s.heap.objs.size) H') rfl hc (heq _ _) T p1 p2 J0 st1 (fun b hb=>?_) ?_ ?_
  ·obtain⟨f0,f1,f2,f3,f4,f5⟩:=hf3 b hb
   obtain⟨o,ho⟩:=fpl3 b hb
   refine⟨f0,ZQ (Zq ho),fs_of I3 f1 f2,.inl hb,fun x c h=>?_,fun p hp=>f5 p (by simpa[cxC]using hp)⟩
   rcases a0V' h with z| ⟨_,z⟩
   ·exact fun q=>absurd (Zq ho) (Nat.not_lt.mpr (q▸Nat.le_of_succ_le (hcl.empty x c (ZM z)).2))
   ·exact f4 x c (a7U' scope.names [] (fun _ z=>nomatch z) (x,c) (ZM z))
  ·exact W _ hfr
  ·intro s' σ' H' J1 _ fin
   obtain⟨m,hm,_⟩:=id J1.loc
   refine hR _ _ s' H' m hm (Nat.ne_of_gt hlt) (fun x c h z=>?_) J1.free I3.sz (fun p hp z=>?_) (fun h' hs'=>?_) fin
   ·obtain⟨v,q⟩:=I3.cell x c h
    exact absurd q.lt (by rw[z];exact Nat.lt_irrefl _)
   ·exact absurd (Zq (I3.pin p hp).1) (by rw[z];exact Nat.lt_irrefl _)
   ·exact b4C' I3 hf3 rfl J1 hs'
 exact codeAny_compStart_list loop (T.self _ 0 _ _ _ st1 loop)
theorem pe_comp{elt tg iter:Expr}{ifs:List Expr}{rest:List Comprehension}{scope:Scope}{pos:Pos}{N:List Str}{cs:L2.St→L2.St}{wi:TI}{g:TG}{tb:Addr→TU}(hc:X.calm=true)(sc:CScope X scope)(hcs:CsOk X scope N cs)(hi:PI X tg iter wi)(body:Addr→Env→Sem Unit)
  (heq:∀(it acc:Addr) (env:Env),compTurn (.ListComp elt (⟨tg,iter,ifs,0⟩::rest) scope pos) 0 (.ref it) (.ref acc) env=(standAt iter.pos>>=fun _=>pyNext (.ref it)>>=fun r=>match r with
   |none=>pure (.done .next)
   |some v=>letOwnedTupleGo tg (.ref it) v>>=fun _=>assign tg env v>>=fun _=>body acc env>>=fun _=>again (.compLoop (.ListComp elt (⟨tg,iter,ifs,0⟩::rest) scope pos) 0 (.ref it) (.ref acc) env)))
  (hin:∀(C:Addr) (s0:Shared) (H0:Hp) (fp:List Addr) (acc:Addr),PG (cxC X scope N C s0 H0 fp) tg g∧PB (cxC X scope N C s0 H0 fp) (body acc (cxC X scope N C s0 H0 fp).env) (tb acc))
  (hs:∀x,foldedSetIterable iter X.env x=pure x:=by intro _;rfl):PE X (.ListComp elt (⟨tg,iter,ifs,0⟩::rest) scope pos) (tComp cs wi g tb):=by
 intro pins s σ H Q I h
 rw[eval_ListComp]
 refine wpAny_comprehension_free (use:=none) rfl hs (b3z' I sc) sc.kind sc.loc (wpAny_mono (hi pins s σ H _ I h) (fun v s1 h1=>wpAny_mono h1 (fun itv s2 h2=>?_) fun _ _ e=>e) fun _ _ e=>e)
 obtain⟨it,fp,tn,J,H2,e,I2,T,st2,f2,W⟩:=h2
 subst e
 refine a8H' (R:=fun acc C=>compPost (model X.prog X.w) X.A X.xe none (EP X pins σ Q) acc C) (Fin:=Q) hc sc hcs I2 T st2 f2 body (heq it) hin W ?_
 intro acc C s' H' m hm _ _ _ _ _ hI fin
 exact⟨m,hm,fun h' hs'=>⟨.ref acc,H',hI h' hs',rfl,fin⟩⟩
theorem ps_comp{elt tg iter:Expr}{ifs:List Expr}{rest:List Comprehension}{scope:Scope}{pos spos px:Pos}{N:List Str}{cs:L2.St→L2.St}{wi:TI}{g:TG}{tb:Addr→TU}{x:Str}{j:Nat}(hc:X.calm=true)(hN:X.N.Nodup)(hj:X.N[j]?=some x)(hx:X.env.scope.names.lookup x=some .local)
  (hsw:swapsWith (.ListComp elt (⟨tg,iter,ifs,0⟩::rest) scope pos) (some (.Name x px)) spos.line X.env=pure true)
  (sc:CScope X scope) (hcs:CsOk X scope N cs) (hi:PI X tg iter wi) (body:Addr→Env→Sem Unit)
  (heq:∀(it acc:Addr) (env:Env),compTurn (.ListComp elt (⟨tg,iter,ifs,0⟩::rest) scope pos) 0 (.ref it) (.ref acc) env=(standAt iter.pos>>=fun _=>pyNext (.ref it)>>=fun r=>match r with
   |none=>pure (.done .next)
   |some v=>letOwnedTupleGo tg (.ref it) v>>=fun _=>assign tg env v>>=fun _=>body acc env>>=fun _=>again (.compLoop (.ListComp elt (⟨tg,iter,ifs,0⟩::rest) scope pos) 0 (.ref it) (.ref acc) env)))
  (hin:∀(C:Addr) (s0:Shared) (H0:Hp) (fp:List Addr) (acc:Addr),PG (cxC X scope N C s0 H0 fp) tg g∧PB (cxC X scope N C s0 H0 fp) (body acc (cxC X scope N C s0 H0 fp).env) (tb acc))
  (hs:∀x,foldedSetIterable iter X.env x=pure x:=by intro _;rfl):PS X (.Assign [.Name x px] (.ListComp elt (⟨tg,iter,ifs,0⟩::rest) scope pos) spos) (tAsg (tComp cs wi g tb) (gName j)):=by
 intro pins s σ H D I h
 rw[exec_Assign_Name_used _ _ _ _ hsw]
 refine Zc (wpAny_standAt (Zc ?_))
 show wpAny _ X.A (do let _ ←comprehension (.ListComp elt (⟨tg,iter,ifs,0⟩::rest) scope pos) scope X.env _ (newList []) false (eval iter X.env) (some (assign (.Name x px) X.env))) _ _ s
 refine Zc (wpAny_mono (wpAny_comprehension_free (use:=some (assign (.Name x px) X.env)) (Q:=fun _ s'=>SP X pins D .next s') rfl hs (b3z' I sc) sc.kind sc.loc
  (wpAny_mono (hi pins s σ H _ I h) (fun v s1 h1=>wpAny_mono h1 (fun itv s2 h2=>?_) fun _ _ e=>e) fun _ _ e=>e)) (fun _ s' hq=>Zl (Zl hq)) fun _ _ e=>e)
 obtain⟨it,fp,tn,J,H2,e,I2,T,st2,f2,W⟩:=h2
 subst e
 refine a8H' (R:=fun acc C=>compPost (model X.prog X.w) X.A X.xe (some (assign (.Name x px) X.env)) (fun _ s'=>SP X pins D .next s') acc C) (Fin:=fun v H'=>gName j v σ H' D.nx) hc sc hcs I2 T st2 f2 body (heq it) hin W ?_
 intro acc C s' H' m hm hCL hCc hC1 hC2 hC3 hI fin
 show wpAny _ X.A (assign (.Name x px) X.env (.ref acc)) _ _ s'
 have I4:Inv X pins σ H' s':=by
  have:=hI s'.heap (.refl ..)
  simpa using this
 refine wpAny_assign_Name (a8w' I4 hN hj (.inl hx) (v:=.ref acc) rfl (fun s'' I5 hch=>?_) (.inr hx))
 obtain⟨a,hsb,ha⟩:=hch
 have hCa:C≠a:=by
  rcases ha with rfl|ha
  ·exact hCL
  ·exact fun z=>hCc x a ha z.symm
 refine⟨m,hm.sameBut hsb hCa,fun h' hs'=>?_⟩
 exact⟨_,H',I5.turned (h':=h') (t':=s''.toks) (it:=C) (fun b o hb e=>(hs'.2 b hb).trans e) hC1 hCL (.inr hC2) hCc hC3,fin⟩
end
end Py
end
section
namespace Py
open PySem PySem.Spec PyProof.Rows L2
section
variable {X:Cx}
theorem RepL.eraseIdx{K:PySem.W.Frag}{mg:GS}{μ:List Addr}{H:Hp}:∀{ds:List D} {vs:List V} (i:Nat),RepL K mg μ H ds vs→RepL K mg μ H (ds.eraseIdx i) (vs.eraseIdx i)
 | [],vs,i,h=>by unfold RepL at h;subst h;simpa using RepL.nil
 |d::ds,vs,0,h=>by
  obtain⟨v,us,rfl,r,q⟩:=h.uncons
  exact q
 |d::ds,vs,i+1,h=>by
  obtain⟨v,us,rfl,r,q⟩:=h.uncons
  exact .cons r (RepL.eraseIdx i q)
def b0F'(d:D)(ds:List D)(S:Store):Res D:=match d,ds with
 | .ref n,[.int i]=>match S[n]? with
  |some xs=>match ixN xs.length i with
   |some k=>match xs[k]? with
    |some y=>if xs.length≤big then .ok y (S.set n (xs.eraseIdx k))else .fail
    |none=>.fail
   |none=>.fail
  |none=>.fail
 |_,_=>.fail
theorem popAt_D:MtR X "list.pop" (rM X.K X.mg b0F'):=by
 intro pins s σ H x xs v us Q I rx rs h
 obtain⟨F,μ,S,d,ds,sk,rd,rds,w⟩:=h
 unfold b0F' at w
 split at w
 ·split at w
  ·rename_i n i _ ys e
   split at w
   ·rename_i k ek
    split at w
    ·rename_i y e2
     split at w
     ·rename_i hz
      obtain⟨a,vs,rfl,hn,ha,r⟩:=a5p' sk rd e
      obtain⟨vi,rfl,ri⟩:=rds.one
      cases a0e' ri
      obtain⟨z,h1,h2⟩:=r.get e2
      obtain⟨q1,q2,q3,q4⟩:=b0r' ek
      rw[r.length]at q1
      exact b4t' pins s σ H _ _ v us Q I rx rs ⟨a,vs,i,k,z,rfl,rfl,ha,by have:=Nat.pow_pos (n:=63) (show 0<2 by decide);unfold big at hz;omega,by unfold big at hz;omega,q1,h1,w.wrote sk hn ha (r.eraseIdx k) h2⟩
     ·exact w.elim
    ·exact w.elim
   ·exact w.elim
  ·exact w.elim
 ·exact w.elim
def intsD:List D→Option (List Int)
 | []=>some []
 | .int i::r=>(intsD r).map (i:: ·)
 |_=>none
def sumD(ds:List D)(S:Store):Res D:=match ds with
 | [d]=>match seqOf S d with
  |some xs=>match intsD xs with
   |some ns=>.ok (.int ns.sum) S
   |none=>.fail
  |none=>.fail
 |_=>.fail
theorem a8I':∀{xs:List D} {ns:List Int},intsD xs=some ns→xs=ns.map D.int
 | [],ns,h=>by cases h;rfl
 |x::xs,ns,h=>by
  cases x with
  |int i=>
   unfold intsD at h
   cases e:intsD xs with
   |none=>rw[e]at h;cases h
   |some ms=>
    rw[e]at h
    cases h
    rw[a8I' e];rfl
  |_=>cases h
theorem a6J'(ns:List Int):∀n,n≤ns.length→preSum (fun i=>ns.getD i 0) n=(ns.take n).sum:=by
 intro n
 induction n with
 |zero=>intro _;simp[preSum]
 |succ n ih=>
  intro h
  have e:ns.take (n+1)=ns.take n++[ns[n]]:=by rw[List.take_succ,Ze (by omega)];rfl
  rw[e,List.sum_append]
  unfold preSum
  rw[ih (by omega)]
  simp[List.getD,Ze (show n<ns.length by omega)]
theorem sum_D(hc:X.calm=true):CallR X (.builtin "sum") (rC X.K X.mg sumD):=by
 intro pins s σ H xs us Q I r h
 obtain⟨F,μ,S,ds,sk,rl,w⟩:=h
 unfold sumD at w
 split at w
 ·rename_i d
  obtain⟨v,rfl,rd⟩:=rl.one
  obtain⟨u,rfl,ru⟩:=vals1 r
  split at w
  ·rename_i ys e
   split at w
   ·rename_i ns en
    have hys:=a8I' en
    subst hys
    obtain⟨a,vs,rfl,hq,rr⟩:=a4c' sk rd e
    cases ru
    have hvs:∀(ns:List Int) (vs:List V),RepL X.K ⟨X.mg,F⟩ μ H (ns.map D.int) vs→vs=ns.map V.int:=by
     intro ns
     induction ns with
     |nil=>intro vs r;unfold RepL at r;exact r
     |cons n ns ih=>
      intro vs r
      obtain⟨v,ws,rfl,r1,r2⟩:=r.uncons
      cases a0e' r1
      rw[ih ws r2];rfl
    have hv:=hvs ns vs rr
    subst hv
    have hh:X.A.in1.handled=none:=I.ok.hd hc
    have val:∀(its:List Value),Vals (ns.map V.int) its→∀i v,its.toArray[i]?=some v→∃t,v=Value.int (ns.getD i 0) t:=fun its rv i v hv=>by
     have hl:=rv.length
     simp only[Zk]at hl
     have hv':its[i]?=some v:=by simpa using hv
     have hi:i<ns.length:=by rw[hl];exact(Zh.mp hv').1
     have e1:(ns.map V.int)[i]?=some (.int ns[i]):=by rw[ZN,Ze hi];rfl
     obtain⟨u,e2,ru⟩:=rv.get e1
     rw[hv']at e2;cases e2
     obtain⟨t,rfl⟩:=ru
     exact⟨t,by simp[List.getD,Ze hi]⟩
    rcases hq with hq|hq
    ·obtain⟨its,rv,p,hz⟩:=I.list hq
     refine call_sum_walkG (wpAny_pyIter_list p.isList ?_)
     have hlt:a<s.heap.objs.size:=by obtain⟨o,ho,_⟩:=p.isList;exact Zq ho
     have hne:a≠s.heap.objs.size:=ZQ hlt
     refine⟨_,_,_,_,_,_,fun i=>ns.getD i 0,rfl,Walks.list hh s.heap.objs.size a hne its.toArray,⟨⟨_,Zt _ rfl,rfl,rfl⟩,Heap.IsList.push p.isList _⟩,?_,val its rv,fun h' tk t' kp=>?_⟩
     ·intro b hb
      have hz2:∀o,(s.heap.push o).objs.size=s.heap.objs.size+1:=fun o=>by simp[Heap.push]
      have hb':b=s.heap.objs.size∨b=a:=by simpa using hb
      refine Nat.lt_of_lt_of_eq ?_ (hz2 _).symm
      rcases hb' with h|h
      ·rw[h];exact Nat.lt_succ_self _
      ·rw[h];exact Nat.lt_succ_of_lt hlt
     ·have hl:its.toArray.size=ns.length:=by rw[Zg,←rv.length,Zk]
      rw[hl,a6J' ns _ (Zj _),List.take_length]
      refine⟨.int ns.sum,H,I.kept (h':=h') (t':=tk) fun b o ho=>kp b o ?_ (Zd _ ho),⟨t',rfl⟩,w μ H _ .refl sk a1h'⟩
      intro z
      have z':b=s.heap.objs.size:=by simpa using z
      exact absurd (Zq ho) (by rw[z'];exact Nat.lt_irrefl _)
    ·obtain⟨its,rv,p,hz⟩:=I.tuple hq
     refine call_sum_walkG (wpAny_pyIter_tuple (show s.heap.IsTuple a its.toArray from p) ?_)
     have hlt:a<s.heap.objs.size:=by obtain⟨o,ho,_⟩:=p;exact Zq ho
     have hne:a≠s.heap.objs.size:=ZQ hlt
     refine⟨_,_,_,_,_,_,fun i=>ns.getD i 0,rfl,Walks.tuple hh s.heap.objs.size a hne its.toArray,⟨⟨_,Zt _ rfl,rfl,rfl⟩,by obtain⟨o,ho,r⟩:=p;exact⟨o,Zd _ ho,r⟩⟩,?_,val its rv,fun h' tk t' kp=>?_⟩
     ·intro b hb
      have hz2:∀o,(s.heap.push o).objs.size=s.heap.objs.size+1:=fun o=>by simp[Heap.push]
      have hb':b=s.heap.objs.size∨b=a:=by simpa using hb
      refine Nat.lt_of_lt_of_eq ?_ (hz2 _).symm
      rcases hb' with h|h
      ·rw[h];exact Nat.lt_succ_self _
      ·rw[h];exact Nat.lt_succ_of_lt hlt
     ·have hl:its.toArray.size=ns.length:=by rw[Zg,←rv.length,Zk]
      rw[hl,a6J' ns _ (Zj _),List.take_length]
      refine⟨.int ns.sum,H,I.kept (h':=h') (t':=tk) fun b o ho=>kp b o ?_ (Zd _ ho),⟨t',rfl⟩,w μ H _ .refl sk a1h'⟩
      intro z
      have z':b=s.heap.objs.size:=by simpa using z
      exact absurd (Zq ho) (by rw[z'];exact Nat.lt_irrefl _)
   ·exact w.elim
  ·exact w.elim
 ·exact w.elim
end
end Py
end
section
namespace Py
open PySem PySem.Spec PyProof.Rows L2
def a8J'(ds:List D)(S:Store):Res D:=maxD ds S
section
variable {X:Cx}
theorem max_any(hc:X.calm=true):CallR X (.builtin "max") (rC X.K X.mg a8J'):=max_D hc
end
end Py
end
section
namespace Py
open PySem PySem.Spec PyProof.Rows L2
section
variable {X:Cx}
def a5Y'(ds:List D)(S:Store):Res D:=minD ds S
theorem b4D'(hc:X.calm=true)(hu:1=1):CallR X (.builtin "min") (rC X.K X.mg a5Y'):=min_D hc
end
end Py
end
section
namespace Py
open PySem PySem.Spec PyProof.Rows L2
mutual
def toPy:D→Option PyData
 | .non=>some .none
 | .bl b=>some (.bool b)
 | .int i=>some (.int i)
 | .str x=>some (.str x)
 | .tup ds=>(toPyL ds).map .tuple
 | .lst ds=>(toPyL ds).map .list
 |_=>none
def toPyL:List D→Option (List PyData)
 | []=>some []
 |d::ds=>match toPy d,toPyL ds with
  |some p,some ps=>some (p::ps)
  |_,_=>none
end
section
variable {X:Cx}{pins:List (Addr×Obj)}{σ:L2.St}{H:Hp}{s:Shared}{μ:List Addr}{F:List Addr}
mutual
theorem b4E'(I:Inv X pins σ H s):∀(d:D) (v:V) (u:Value) (p:PyData),Rep X.K ⟨X.mg,F⟩ μ H d v→RelV v u→toPy d=some p→p.hasDict=false∧∃as,Reads s.heap u p as
 | .non,v,u,p,r,q,h=>by
  cases a4A' r
  have q:u=.none:=q
  subst q;cases h
  exact⟨rfl,_,.none⟩
 | .bl b,v,u,p,r,q,h=>by
  cases a6G' r
  have q:u=.bool b:=q
  subst q;cases h
  exact⟨rfl,_,.bool b⟩
 | .int i,v,u,p,r,q,h=>by
  cases a0e' r
  obtain⟨t,rfl⟩:=q
  cases h
  exact⟨rfl,_,.int i t⟩
 | .str x,v,u,p,r,q,h=>by
  cases a4d' r
  obtain⟨t,rfl⟩:=q
  cases h
  exact⟨rfl,_,.str x t⟩
 | .tup ds,v,u,p,r,q,h=>by
  obtain⟨a,vs,rfl,ha,rr⟩:=a0F' r
  have q:u=.ref a:=q
  subst q
  obtain⟨its,rv,⟨o,h1,h2,n,h3⟩,_⟩:=I.tuple ha
  have h:(toPyL ds).map PyData.tuple=some p:=h
  cases e:toPyL ds with
  |none=>rw[e]at h;cases h
  |some ps=>
   rw[e]at h
   cases h
   obtain⟨k1,as,k2⟩:=a5Z' I ds vs its ps rr rv e
   exact⟨k1,as,.tuple h1 h2 h3 (by simpa using k2)⟩
 | .lst ds,v,u,p,r,q,h=>by
  unfold Rep at r
  obtain⟨a,vs,rfl,ha,_,rr⟩:=r
  have q:u=.ref a:=q
  subst q
  obtain⟨its,rv,pl,_⟩:=I.list (.of ha)
  obtain⟨o,h1,h2,n,h3⟩:=pl.isList
  have h:(toPyL ds).map PyData.list=some p:=h
  cases e:toPyL ds with
  |none=>rw[e]at h;cases h
  |some ps=>
   rw[e]at h
   cases h
   obtain⟨k1,as,k2⟩:=a5Z' I ds vs its ps rr rv e
   exact⟨k1,_,.list h1 h2 h3 (by simpa using k2)⟩
 | .ref _,v,u,p,r,q,h=>by cases h
 | .scr _,v,u,p,r,q,h=>by cases h
 | .fn _,v,u,p,r,q,h=>by cases h
 | .dct,v,u,p,r,q,h=>by cases h
 | .ty _,v,u,p,r,q,h=>by cases h
theorem a5Z'(I:Inv X pins σ H s):∀(ds:List D) (vs:List V) (us:List Value) (ps:List PyData),RepL X.K ⟨X.mg,F⟩ μ H ds vs→Vals vs us→toPyL ds=some ps→PyData.hasDictAll ps=false∧∃as,ReadsAll s.heap us ps as
 | [],vs,us,ps,r,q,h=>by
  unfold RepL at r
  subst r
  cases q.zero
  cases h
  exact⟨rfl,_,.nil⟩
 |d::ds,vs,us,ps,r,q,h=>by
  obtain⟨w,ws,rfl,r1,r2⟩:=r.uncons
  obtain⟨u,us',rfl,q1,q2⟩:=q.un
  unfold toPyL at h
  split at h
  ·rename_i p ps' e1 e2
   cases h
   obtain⟨k1,as,k2⟩:=b4E' I d w u p r1 q1 e1
   obtain⟨k3,bs,k4⟩:=a5Z' I ds ws us' ps' r2 q2 e2
   exact⟨by show(PyData.hasDict p||PyData.hasDictAll ps')=false;rw[k1,k3];rfl,_,.cons k2 k4⟩
  ·cases h
end
end
section
variable {X:Cx}
end
section
variable {X:Cx}
end
end Py
end
section
namespace Py
open PySem PySem.Spec PyProof.Rows L2
section
variable {X:Cx}
end
end Py
end
section
namespace Py
open PySem PySem.Spec PyProof.Rows L2
open PySem.SeqAt PySem.MeetsSeq PySem.MeetsSeq2 PySem.MeetsSeq3
open PySem.AutoSeq1 (wpAny_loadPart')
section
variable {X:Cx}
end
end Py
end
section
namespace Py
open PySem PySem.Spec PyProof.Rows L2
theorem b0G'{α β:Type}{f g:α→Option β}:∀{l:List α},(∀x∈l,f x=g x)→l.filterMap f=l.filterMap g
 | [],_=>rfl
 |x::l,h=>by
  have t:=b0G' (l:=l) fun y hy=>h y (Za _ hy)
  rw[List.filterMap_cons,List.filterMap_cons,h x Zb,t]
end Py
end
section
namespace Py
open PySem PySem.Spec PyProof.Rows L2
section
variable {X:Cx}
def a6K'(d:D)(ds:List D)(S:Store):Res D:=match d,ds with
 | .ref n,[.int i,y]=>match S[n]? with
  |some xs=>if 0≤i∧i≤xs.length∧xs.length<big then .ok .non (S.set n (xs.take i.toNat++y::xs.drop i.toNat))else .fail
  |none=>.fail
 |_,_=>.fail
theorem b4F':MtR X "list.insert" (rM X.K X.mg a6K'):=by
 intro pins s σ H x xs v us Q I rx rs h
 obtain⟨F,μ,S,d,ds,sk,rd,rds,w⟩:=h
 have hb:=a7S'
 unfold a6K' at w
 split at w
 ·split at w
  ·rename_i n i y _ ys e
   split at w
   ·rename_i hz
    obtain⟨a,vs,rfl,hn,ha,r⟩:=a5p' sk rd e
    obtain⟨v1,ws1,rfl,h1,rds⟩:=rds.uncons
    obtain⟨v2,rfl,h2⟩:=rds.one
    cases a0e' h1
    cases rx
    cases rs with
    |cons p q=>
     obtain⟨u2,rfl,p2⟩:=(show Vals [v2] _ from q).one
     obtain⟨t,rfl⟩:=p
     obtain⟨z,its,n',rv,hl,e'⟩:=I.lstM ha
     have hlr:=r.length
     have hp:=Nat.pow_pos (n:=63) (show 0<2 by decide)
     have hfi:Builtin.List.listFitsIndex i=true:=fitsIndex_both (by unfold big at hz;omega) (by unfold big at hz;omega)
     refine call_meets PySem.F.slot_list_insert ⟨_,e',rfl⟩ PySem.F.entry_list_insert (PySem.F.args_list_insert_3 _ _ _) (PySem.AutoSeq1.list_insert_list_int_val_1 a its.toArray n' i t u2 (by simp[hfi]) (by rw[Zg];omega)) ⟨e',?_⟩
     refine⟨.non,_,I.lset (its':=its.take i.toNat++u2::its.drop i.toNat) ha e' ?_ ((rv.take i.toNat).append (.cons p2 (rv.drop i.toNat))) ?_,rfl,w.wrote sk hn ha ((r.take i.toNat).append (.cons h2 (r.drop i.toNat))) b0v'⟩
     ·have hk:(if i<0 then(i+(its.toArray.size:Int)).toNat else min i.toNat its.toArray.size)=i.toNat:=by
       rw[if_neg (by omega),Zg]
       omega
      show(its.toArray.extract 0 (if i<0 then(i+(its.toArray.size:Int)).toNat else min i.toNat its.toArray.size)).push u2++its.toArray.extract (if i<0 then(i+(its.toArray.size:Int)).toNat else min i.toNat its.toArray.size)=_
      rw[hk]
      simp
      exact List.take_of_length_le (by simp)
     ·simp
      omega
   ·exact w.elim
  ·exact w.elim
 ·exact w.elim
def oddL{α:Type}:List α→List α
 |_::y::r=>y::oddL r
 |_=>[]
theorem b0H'{α:Type}:∀(l:List α),(List.range (l.length/2)).filterMap (fun k=>l[1+2*k]?)=oddL l
 | []=>by simp[oddL]
 | [_]=>by simp[oddL]
 |x::y::r=>by
  have e:(x::y::r).length/2=r.length/2+1:=by simp only[Zs];omega
  rw[e,List.range_succ_eq_map,List.filterMap_cons]
  show y::_=y::oddL r
  rw[←b0H' r,List.filterMap_map]
  rfl
theorem b4G'(its:List Value):slicePick its.toArray (some 1) none (some 2)=(oddL its).toArray:=by
 unfold slicePick
 have e:sliceBounds (some 1) none (some 2) its.toArray.size=(max 0 (min 1 (its.length:Int)),(its.length:Int),2):=rfl
 rw[e,←b0H']
 show((sliceRange (max 0 (min 1 (its.length:Int))) (its.length:Int) 2).filterMap fun k=>its.toArray[k]?).toArray=_
 unfold sliceRange
 rw[List.filterMap_map]
 have hc:(if(2:Int)>0 then(if max 0 (min 1 (its.length:Int))<(its.length:Int)then((its.length:Int)-max 0 (min 1 (its.length:Int))+2-1)/2 else 0)
   else(if max 0 (min 1 (its.length:Int))>(its.length:Int)then(max 0 (min 1 (its.length:Int))-(its.length:Int)-2-1)/(-2)else 0)).toNat=its.length/2:=by
  rw[if_pos (by decide)]
  split<;>omega
 simp only[hc]
 congr 1
 refine b0G' fun m hm=>?_
 have hm':=Ya.1 hm
 show its.toArray[(max 0 (min 1 (its.length:Int))+2*(m:Int)).toNat]?=its[1+2*m]?
 have e2:(max 0 (min 1 (its.length:Int))+2*(m:Int)).toNat=1+2*m:=by omega
 rw[e2]
 simp
theorem RepL.odd{K:PySem.W.Frag}{mg:GS}{μ:List Addr}{H:Hp}:∀{ds:List D} {vs:List V},RepL K mg μ H ds vs→RepL K mg μ H (oddL ds) (oddL vs)
 | [],vs,h=>by unfold RepL at h;subst h;exact .nil
 | [_],vs,h=>by
  obtain⟨v,rfl,_⟩:=h.one
  exact .nil
 |_::_::_,vs,h=>by
  obtain⟨v,ws,rfl,_,q⟩:=h.uncons
  obtain⟨v2,ws2,rfl,r2,q2⟩:=q.uncons
  exact .cons r2 (RepL.odd q2)
theorem Vals.odd:∀{vs:List V} {us:List Value},Vals vs us→Vals (oddL vs) (oddL us)
 | [],_,h=>by cases h;exact .nil
 | [_],_,h=>by
  obtain⟨u,rfl,_⟩:=h.one
  exact .nil
 |_::_::_,_,h=>by
  cases h with
  |cons p q=>cases q with
   |cons p2 q2=>exact .cons p2 (Vals.odd q2)
theorem b0I'{α:Type}:∀(l:List α),(oddL l).length≤l.length
 | []=>Zj _
 | [_]=>Nat.zero_le _
 |_::_::r=>by
  show(oddL r).length+1≤r.length+1+1
  have:=b0I' r
  omega
def oddD(d a b:D)(S:Store):Res D:=match a,b with
 | .int i,.int j=>if i=1∧j=2 then(match a3G' S d with
  |some xs=>.ok (.lst (oddL xs)) S
  |none=>.fail)else .fail
 |_,_=>.fail
def rOdd(K:PySem.W.Frag)(mg:Str→Option Value):V→V→V→Hp→VK→Prop:=fun x y z H Q=>∃F μ S d a b,SOk K ⟨mg,F⟩ μ S H∧Rep K ⟨mg,F⟩ μ H d x∧Rep K ⟨mg,F⟩ μ H a y∧Rep K ⟨mg,F⟩ μ H b z∧Want K ⟨mg,F⟩ μ H Q (oddD d a b S)
theorem pe_odd{e lo st:Expr}{te tl ts:TE}{p2 pos:Pos}(he:PE X e te)(hl:PE X lo tl)(hs:PE X st ts):PE X (.Subscript e (.Slice (some lo) none (some st) p2) pos) (fun σ H Q=>te σ H fun x H1=>tl σ H1 fun y H2=>ts σ H2 fun z H3=>rOdd X.K X.mg x y z H3 Q):=by
 intro pins s σ H Q I h
 refine Subscript_ (thn (he pins s σ H _ I h) fun v s1 ⟨x,H1,I1,r1,q1⟩=>?_)
 refine wpAny_Slice ?_
 rw[evalPart_none,evalPart_some,evalPart_some]
 refine thn (hl pins s1 σ H1 _ I1 q1) fun vl s2 ⟨y,H2,I2,r2,q2⟩=>Zl (thn (hs pins s2 σ H2 _ I2 q2) fun vs s3 ⟨z,H3,I3,r3,q3⟩=>?_)
 obtain⟨F,μ,S,d,a,b,sk,rd,ra,rb,w⟩:=q3
 unfold oddD at w
 split at w
 ·rename_i i j
  split at w
  ·rename_i hi
   obtain⟨rfl,rfl⟩:=hi
   split at w
   ·rename_i xs e1
    have ey:=a0e' ra
    subst ey
    have ez:=a0e' rb
    subst ez
    obtain⟨t,rfl⟩:=r2
    obtain⟨t',rfl⟩:=r3
    obtain⟨l,ws,rfl,hq,r⟩:=a0U' sk rd e1
    cases r1
    have I4:Inv X pins σ H3 {s3 with heap:=s3.heap.push {cls:=.type "slice",data:=.fields #[.int 1 t,.none,.int 2 t']}}:=I3.kept (t':=s3.toks) fun b ob q=>Zd _ q
    obtain⟨its,rv,ht,hz⟩:=I4.list (.of hq)
    have hlen:its.toArray.size=ws.length:=by rw[Zg];exact rv.length.symm
    show wpAny (model X.prog X.w) X.A (subscriptTail e (.Slice (some lo) none (some st) p2) (.ref l) (.ref s3.heap.objs.size)) (EP X pins σ Q) X.xe {s3 with heap:=s3.heap.push {cls:=.type "slice",data:=.fields #[.int 1 t,.none,.int 2 t']}}
    refine tail_any (ops:=[.ref l,.ref s3.heap.objs.size]) ht.isList.typeIs slot_list_getitem.lookup (wpAny_getItem_list_slice ht.isList (Heap.IsSliceOf.new ..) (.int 1 t) .none (.int 2 t') (by simp) ?_ (by rw[hlen];exact hz)) (by with_unfolding_all rfl)
    rw[b4G']
    refine⟨.ref _,_,I4.laid (t':=s3.toks) (o:=.lst (oddL ws)) (fun b ob q=>Zd _ q) (Zj _) ?_,rfl,w.lst sk r.odd _ (I4.hok.fresh (Zj _))⟩
    exact⟨ZL (b0I' ws) hz,_,0,Vals.odd rv,Zt _ rfl⟩
   ·exact w.elim
  ·exact w.elim
 ·exact w.elim
end
end Py
end
section
namespace Py
open PySem PySem.Spec PyProof.Rows L2
section
open PySem.AutoSeq1 (wpAny_loadPart')
open PySem.MeetsSeq PySem.MeetsSeq2 PySem.MeetsSeq3
open PySem.AutoSeq1
theorem b2y'(l:Addr)(items:Array Value)(n:Nat)(b:Addr)(items2:Array Value)(n2:Nat)(hc0:¬(!items.isEmpty&&Builtin.List.listTooLong (items.size+items2.size))=true)(hc1:items.size≤sizeLine)(hs2:items.size+items2.size≤sizeLine+1):
  Meets (Builtin.«list.__iadd__» ⟨[.ref l,.ref b],[]⟩) (fun _ R s=>s.heap.get? l=some {cls:=.type "list",dict:=none,data:=.seq items n,slots:= #[]}∧s.heap.get? b=some {cls:=.type "list",dict:=none,data:=.seq items2 n2,slots:= #[]}∧R (.ok (.ret (.ref l))) {s with heap:=s.heap.update l (Obj.mapSeq fun x=>x++items2),toks:=s.toks}):=
 .of_wp fun prog w A R s h=>by
  obtain⟨hp,g,d,tk,os⟩:=s;obtain⟨hl,hb,h⟩:=h;have f1:=idx_int;have g2:=PyProof.Rows.sub_tuple_tuple;have g3:=PyProof.Rows.sub_list_list;have g4:=PyProof.Rows.sub_tuple_list;have g5:=PyProof.Rows.sub_list_tuple
  have hz':(items++items2).size≤sizeLine+1:=by rw[Array.size_append];exact hs2
  wp_walk using(wpAny_updateSeq hl rfl (hz:=hc1) (_hz':=hz')),wpAny_loadPart' hl,wpAny_loadPart' hb
  exact⟨_,rfl,h⟩
end
theorem a7W'{M:Model}{A:Around}{E:Value→Shared→Prop}{s:Shared}{a b:Value}{T id:String}{Q:Value→Shared→Prop}(ha:s.TypeIs a T)(hb:s.TypeIs b T)(hi:typeLookup (.type T) (dunderI "add")=pure (some (.builtin id)))(hsq:isSeqSlot (some (.builtin id))=true)
  (hfill:fillsNumberSlot (.type T) "add"=pure false) (hc:wpAny M A (call (.builtin id) [a,b]) Q E s):wpAny M A (inplaceOp .Add a b) Q E s:=by
 unfold inplaceOp
 refine wpAny_holding ?_
 have hfi:fillsInplaceSlot (.type T) "add" (Operator.Add== .Add)=pure false:=by
  unfold fillsInplaceSlot
  show(typeLookup (.type T) (dunderI "add")>>=fun fi=>pure (fi.isSome&& !isSeqSlot fi))=pure false
  rw[hi,pure_bind,hsq];rfl
 have hsi:seqSlot? (.type T) (dunderI "add")=pure (some (.builtin id)):=PySem.seqSlot_of hi hsq
 refine Zc (wpAny_typeOf ha (Zc (wpAny_of_eq hfi ?_)))
 show wpAny M A (if false=true then _ else _) Q E s
 rw[if_neg Z1]
 refine Zc (wpAny_binaryOp1_none (nm:="add") ha hb hfill ?_)
 refine Zc (wpAny_of_eq hsi ?_)
 exact Zc (wpAny_rule hc)
section
variable {X:Cx}
def augD(d e:D)(S:Store):Res D:=match d with
 | .ref n=>match S[n]?,a3G' S e with
  |some xs,some ys=>if xs.length+ys.length≤big then .ok (.ref n) (S.set n (xs++ys))else .fail
  |_,_=>.fail
 |_=>.fail
def rAug(K:PySem.W.Frag)(mg:Str→Option Value):TIp:=fun x y H Q=>∃F μ S d e,SOk K ⟨mg,F⟩ μ S H∧Rep K ⟨mg,F⟩ μ H d x∧Rep K ⟨mg,F⟩ μ H e y∧Want K ⟨mg,F⟩ μ H Q (augD d e S)
theorem aug_D:PIp X .Add (rAug X.K X.mg):=by
 intro pins s σ H x y v u Q I rx ry h
 obtain⟨F,μ,S,d,e,sk,rd,re,w⟩:=h
 have hb:=a7S'
 unfold augD at w
 split at w
 ·split at w
  ·rename_i n _ _ xs ys e1 e2
   split at w
   ·rename_i hz
    obtain⟨a,vs,rfl,hn,ha,r⟩:=a5p' sk rd e1
    obtain⟨b,ws,rfl,hB,r2⟩:=a0U' sk re e2
    cases rx
    cases ry
    have hl1:=r.length
    have hl2:=r2.length
    obtain⟨z,its,n',rv,hl,e'⟩:=I.lstM ha
    obtain⟨z2,its2,n2,rv2,hl2',e2'⟩:=I.lstM hB
    have hsz:its.toArray.size+its2.toArray.size≤sizeLine:=by rw[Zg,Zg];omega
    have hlong:¬(!its.toArray.isEmpty&&Builtin.List.listTooLong (its.toArray.size+its2.toArray.size))=true:=by
     rw[b0u' hsz,Bool.and_false]
     exact Z1
    refine a7W' (T:="list") (id:="list.__iadd__") ⟨_,e',rfl⟩ ⟨_,e2',rfl⟩ PySem.F.slot_list_iadd.lookup (by decide+kernel) noFill_list_add ?_
    refine call_meets PySem.F.slot_list_iadd ⟨_,e',rfl⟩ PySem.F.entry_list_iadd (PySem.F.args_list_iadd_2 _ _) (b2y' a its.toArray n' b its2.toArray n2 hlong (by rw[Zg];omega) (by omega)) ⟨e',e2',?_⟩
    refine⟨.ref a,_,I.lset (its':=its++its2) ha e' (by simp) (rv.append rv2) ?_,rfl,w.wrote sk hn ha (r.append r2) ?_⟩
    ·rw[Zm]
     omega
    ·unfold Rep
     exact⟨a,rfl,hn⟩
   ·exact w.elim
  ·exact w.elim
 ·exact w.elim
end
end Py
end
section
namespace Py
open PySem PySem.Spec PyProof.Rows L2
inductive KTy where
 |int|seq (t:KTy)
 deriving DecidableEq
inductive Blt where
 |len|tuple|list (box:Bool)|int|min|max|isinst|all|any|sum|repr|abs|sorted (box:Bool) (t:KTy)
 deriving DecidableEq
inductive Mth where
 |append|extend|pop|count|insert
 deriving DecidableEq
inductive CT where
 |var (i:Nat)
 |tup (ts:List CT)
inductive CE where
 |var (i:Nat)
 |lit (d:D)
 |glob (x:Str)
 |ty (n:String)
 |bin (op:Operator) (a b:CE)
 |binB (a b:CE)
 |neg (a:CE)
 |cmp (op:CmpOp) (a b:CE)
 |chain (op op':CmpOp) (a b c:CE)
 |band (a b:CE)
 |bor (a b:CE)
 |bnot (a:CE)
 |ite (c a b:CE)
 |tup (es:List CE)
 |lst (box:Bool) (es:List CE)
 |idx (a b:CE)
 |sl (a:CE) (lo hi:List CE)
 |call (f:Str) (es:List CE)
 |blt (b:Blt) (es:List CE)
 |meth (m:Mth) (o:CE) (es:List CE)
 |tix (o:CE) (es:List CE)
 |lenset (a:CE)
 |rng (tup box:Bool) (es:List CE)
 |comp (box:Bool) (N:List Str) (fr:List (Option Nat)) (tg:CT) (it:CE) (ifs:List CE) (body:CE)
 |emit (e:CE)
 |inner (tg:CT) (it:CE) (ifs:List CE) (body:CE)
 |seq (e:CE)
 |range (es:List CE)
 |zip (es:List CE)
 |down (es:List CE)
 |dct
 |rev (a b:CE)
 |odd (a b c:CE)
 |enum (es:List CE)
 |revl (es:List CE)
inductive CS where
 |asg (i:Nat) (e:CE)
 |asgT (t:CT) (e:CE)
 |par (is:List Nat) (es:List CE)
 |aug (i:Nat) (e:CE)
 |set (o i v:CE)
 |set2 (o i o' i' v:CE)
 |expr (e:CE)
 |ret (e:CE)
 |retN
 |pass
 |brk
 |cont
 |ite (c:CE) (a b:List CS)
 |for_ (t:CT) (it:CE) (body:List CS)
 |while_ (n:Nat) (c:CE) (body:List CS)
 |never
abbrev Rho:=List (Option D)
abbrev FT:=Str→Option (List D→Store→Res D)
def Res.bind{α β:Type}(r:Res α)(f:α→Store→Res β):Res β:=match r with
 | .ok a S=>f a S
 | .err x S=>.err x S
 | .fail=>.fail
def Res.noErr{α:Type}:Res α→Res α
 | .ok a S=>.ok a S
 |_=>.fail
def onBl{α:Type}(d:D)(f:Bool→Res α):Res α:=match d with
 | .bl k=>f k
 |_=>.fail
def asgVs:List CT→List D→Rho→Option Rho
 | [],ds,ρ=>if ds.isEmpty=true then some ρ else none
 |t::ts,ds,ρ=>match t,ds with
  | .var i,d::ds=>asgVs ts ds (ρ.set i (some d))
  |_,_=>none
def asgCT:CT→D→Rho→Option Rho
 | .var i,d,ρ=>some (ρ.set i (some d))
 | .tup ts,d,ρ=>match d with
  | .tup ds=>asgVs ts ds ρ
  |_=>none
def a2e':List CT→List Nat
 | []=>[]
 |t::ts=>match t with
  | .var i=>i::a2e' ts
  | .tup _=>a2e' ts
def slots:CT→List Nat
 | .var i=>[i]
 | .tup ts=>a2e' ts
def isNew:Rho→List Nat→Bool
 |ρ,is=>is.all fun i=>match ρ[i]? with
  |some none=>true
  |_=>false
def a0p'(t:CT)(d:D)(ρ:Rho):Option Rho:=if isNew ρ (slots t)=true then asgCT t d ρ else none
inductive Its where
 |items (xs:List D)|live (f:Nat) (get:Store→Nat→Option (Option D))
def compD(step:D→List D→Store→Res (List D)):List D→List D→Store→Res (List D)
 | [],acc,S=>.ok acc S
 |x::xs,acc,S=>(step x acc S).bind fun acc' S'=>compD step xs acc' S'
def compB(step:D→List D→Store→Res (List D))(get:Store→Nat→Option (Option D)):Nat→Nat→List D→Store→Res (List D)
 |0,_,_,_=>.fail
 |f+1,i,acc,S=>match get S i with
  |none=>.fail
  |some none=>.ok acc S
  |some (some x)=>(step x acc S).bind fun acc' S'=>compB step get f (i+1) acc' S'
def compI(step:D→List D→Store→Res (List D))(its:Its)(acc:List D)(S:Store):Res (List D):=match its with
 | .items xs=>compD step xs acc S
 | .live f get=>compB step get f 0 acc S
def a1D'(n:Nat):Store→Nat→Option (Option D):=fun S i=>(S[n]?).map fun xs=>xs[i]?
def a1f'(S:Store):D→Option Its
 | .tup xs=>some (.items xs)
 | .lst xs=>some (.items xs)
 | .scr xs=>some (.items xs)
 | .ref n=>some (.live (((S[n]?).getD []).length+1) (a1D' n))
 |_=>none
def b0J':D→Option (List D)
 | .tup xs=>some xs
 | .lst xs=>some xs
 | .scr xs=>some xs
 |_=>none
def a6a'(d e:D):Store→Nat→Option (Option D):=fun S i=>match seqOf S d,seqOf S e with
 |some xs,some ys=>some (match xs[i]?,ys[i]? with
  |some x,some y=>some (.tup [x,y])
  |_,_=>none)
 |_,_=>none
def isLst:D→Bool
 | .tup _=>false
 |_=>true
def zipOf(S:Store)(d e:D):Option Its:=match b0J' d,b0J' e with
  |some xs,some ys=>some (.items (List.zipWith (fun x y=>.tup [x,y]) xs ys))
  |_,_=>match seqOf S d,seqOf S e with
   |some xs,some ys=>some (.live (min xs.length ys.length+1) (a6a' d e))
   |_,_=>none
def a1A'(lo:Int):Nat→List D
 |0=>[]
 |n+1=>.int lo::a1A' (lo+1) n
def toOpt:List D→Option (Option Int)
 | []=>some none
 | [.int i]=>some (some i)
 |_=>none
def optL(ds:List D)(S:Store):Res (Option Int):=match toOpt ds with
 |some o=>.ok o S
 |none=>.fail
def hasTy:KTy→D→Bool
 | .int,.int _=>true
 | .seq t,.tup xs=>xs.all (hasTy t)
 |_,_=>false
def lexB(f:D→D→Bool):List D→List D→Bool
 | [],[]=>false
 | [],_::_=>true
 |_::_,[]=>false
 |x::xs,y::ys=>if f x y=true then true else if f y x=true then false else lexB f xs ys
def ltK:KTy→D→D→Bool
 | .int,.int i,.int j=>decide (i<j)
 | .seq t,.tup xs,.tup ys=>lexB (ltK t) xs ys
 |_,_,_=>false
def insB(f:D→D→Bool)(x:D):List D→List D
 | []=>[x]
 |y::ys=>if f x y=true then x::y::ys else y::insB f x ys
def a2Z'(f:D→D→Bool)(xs:List D):List D:=xs.foldl (fun acc x=>insB f x acc) []
def noStr:KTy→Bool
 | .int=>true
 | .seq t=>noStr t
def isNil:D→Bool
 | .tup []=>true
 |_=>false
def a3H':KTy→List D→Bool
 | .int,_=>true
 | .seq t,xs=>noStr t&&((xs.all fun d=> !isNil d)||isNil (xs.headD .non))
def a2Y'(box:Bool)(t:KTy)(ds:List D)(S:Store):Res D:=match ds with
 | [d]=>match seqOf S d with
  |some xs=>if xs.all (hasTy t)=true∧xs.length<65536∧a3H' t xs=true then(if box=true then .ok (.ref S.length) (S++[a2Z' (ltK t) xs])else .ok (.lst (a2Z' (ltK t) xs)) S)else .fail
  |none=>.fail
 |_=>.fail
def asInt:D→Option Int
 | .int i=>some i
 |_=>none
def dedI(ns:List Int):List Int:=ns.foldl step_dedup []
def a6L'(d:D)(S:Store):Res D:=match seqOf S d with
  |some xs=>if xs.all (hasTy .int)=true∧xs.length<1000 then .ok (.int ((dedI (xs.filterMap asInt)).length:Nat)) S else .fail
  |none=>.fail
def depth:KTy→Nat
 | .int=>1
 | .seq t=>depth t+1
def bltB:Blt→Bool
 | .sorted _ t=>decide (depth t≤40)
 | .any=>false
 | .repr=>false
 | .abs=>false
 |_=>true
def bltD:Blt→List D→Store→Res D
 | .len=>lenD| .tuple=>a9A'| .list b=>listD b| .int=>intD| .min=>a5Y'| .max=>a8J'| .isinst=>a0t'| .all=>allD| .any=>fun _ _=>.fail | .sum=>sumD| .repr=>fun _ _=>.fail | .abs=>fun _ _=>.fail
 | .sorted b t=>a2Y' b t
def b3A'(d:D)(ds:List D)(S:Store):Res D:=match ds with
 | []=>popD d [] S
 |ds=>b0F' d ds S
def methD:Mth→D→List D→Store→Res D
 | .append=>a4B'| .extend=>fun _ _ _=>.fail | .pop=>b3A'| .count=>fun _ _ _=>.fail | .insert=>a6K'
section
variable (Φ:FT)(Γ:Str→Option D)
mutual
def den:CE→Rho→Store→Res D
 | .var i,ρ,S=>match ρ[i]? with
  |some (some d)=>.ok d S
  |_=>.fail
 | .dct,ρ,S=>.ok .dct S
 | .lit d,ρ,S=>.ok d S
 | .glob x,ρ,S=>match Γ x with
  |some d=>.ok d S
  |none=>.fail
 | .ty n,ρ,S=>.ok (.ty n) S
 | .bin op a b,ρ,S=>(den a ρ S).bind fun d S1=>(den b ρ S1).bind fun e S2=>(opD op d e S2).noErr
 | .binB _ _,_,_=>.fail
 | .neg a,ρ,S=>(den a ρ S).bind fun d S1=>match d with
  | .int i=>.ok (.int (-i)) S1
  |_=>.fail
 | .cmp op a b,ρ,S=>(den a ρ S).bind fun d S1=>(den b ρ S1).bind fun e S2=>(cmpD op d e S2).noErr
 | .chain op op' a b c,ρ,S=>(den a ρ S).bind fun d S1=>(den b ρ S1).bind fun e S2=>(cmpD op d e S2).noErr.bind fun k S3=>onBl k fun k=>if k=true then(den c ρ S3).bind fun f S4=>(cmpD op' e f S4).noErr else .ok (.bl false) S3
 | .band a b,ρ,S=>(den a ρ S).bind fun d S1=>onBl d fun k=>if k=true then den b ρ S1 else .ok (.bl false) S1
 | .bor a b,ρ,S=>(den a ρ S).bind fun d S1=>onBl d fun k=>if k=true then .ok (.bl true) S1 else den b ρ S1
 | .bnot a,ρ,S=>(den a ρ S).bind fun d S1=>match truD S1 d with
  |some k=>.ok (.bl (!k)) S1
  |none=>.fail
 | .ite c a b,ρ,S=>(denT c ρ S).bind fun k S1=>if k=true then den a ρ S1 else den b ρ S1
 | .tup es,ρ,S=>(denL es ρ S).bind fun ds S1=>.ok (.tup ds) S1
 | .lst box es,ρ,S=>(denL es ρ S).bind fun ds S1=>if box=true then .ok (.ref S1.length) (S1++[ds])else .ok (.lst ds) S1
 | .rev _ _,_,_=>.fail
 | .odd a b c,ρ,S=>(den a ρ S).bind fun d S1=>(den b ρ S1).bind fun e S2=>(den c ρ S2).bind fun f S3=>(oddD d e f S3).noErr
 | .idx a b,ρ,S=>(den a ρ S).bind fun d S1=>(den b ρ S1).bind fun e S2=>(idxD d e S2).noErr
 | .sl a lo hi,ρ,S=>(den a ρ S).bind fun d S1=>((denL lo ρ S1).bind optL).bind fun l S2=>((denL hi ρ S2).bind optL).bind fun h S3=>(slD d l h S3).noErr
 | .call f es,ρ,S=>match Φ f with
  |some φ=>(denL es ρ S).bind fun ds S1=>φ ds S1
  |none=>.fail
 | .blt b es,ρ,S=>(denL es ρ S).bind fun ds S1=>(bltD b ds S1).noErr
 | .meth m o es,ρ,S=>(den o ρ S).bind fun d S1=>match d with
  | .ref n=>(denL es ρ S1).bind fun ds S2=>(methD m (.ref n) ds S2).noErr
  |_=>.fail
 | .tix _ _,_,_=>.fail
 | .lenset a,ρ,S=>(den a ρ S).bind fun d S1=>(a6L' d S1).noErr
 | .rng _ _ _,_,_=>.fail
 | .comp box N fr tg it ifs body,ρ,S=>(denI it ρ S).bind fun its S1=>
   (compI (fun x acc S2=>match a0p' tg x (fr.map fun j=>j.bind fun j=>(ρ[j]?).join)with
    |some ρ'=>(denTs ifs ρ' S2).bind fun k S3=>if k=true then denB body ρ' acc S3 else .ok acc S3
    |none=>.fail) its [] S1).noErr.bind fun ys S5=>if box=true then .ok (.ref S5.length) (S5++[ys])else .ok (.lst ys) S5
 | .emit _,_,_=>.fail
 | .inner _ _ _ _,_,_=>.fail
 | .seq _,_,_=>.fail
 | .range _,_,_=>.fail
 | .zip _,_,_=>.fail
 | .down _,_,_=>.fail
 | .enum _,_,_=>.fail
 | .revl _,_,_=>.fail
def denT:CE→Rho→Store→Res Bool
 | .band a b,ρ,S=>(denT a ρ S).bind fun k S1=>if k=true then denT b ρ S1 else .ok false S1
 | .bor a b,ρ,S=>(denT a ρ S).bind fun k S1=>if k=true then .ok true S1 else denT b ρ S1
 | .bnot a,ρ,S=>(denT a ρ S).bind fun k S1=>.ok (!k) S1
 | .cmp op a b,ρ,S=>(den a ρ S).bind fun d S1=>(den b ρ S1).bind fun e S2=>(cmpD op d e S2).noErr.bind fun k S3=>onBl k fun k=>.ok k S3
 | .chain op op' a b c,ρ,S=>(den a ρ S).bind fun d S1=>(den b ρ S1).bind fun e S2=>(cmpD op d e S2).noErr.bind fun k S3=>onBl k fun k=>if k=true then(den c ρ S3).bind fun f S4=>(cmpD op' e f S4).noErr.bind fun k S5=>onBl k fun k=>.ok k S5 else .ok false S3
 | .var i,ρ,S=>match ρ[i]? with
  |some (some d)=>match truD S d with
   |some k=>.ok k S
   |none=>.fail
  |_=>.fail
 | .call f es,ρ,S=>match Φ f with
  |some φ=>(denL es ρ S).bind fun ds S1=>(φ ds S1).bind fun d S2=>match truD S2 d with
   |some k=>.ok k S2
   |none=>.fail
  |none=>.fail
 | .blt b es,ρ,S=>(denL es ρ S).bind fun ds S1=>(bltD b ds S1).noErr.bind fun d S2=>match truD S2 d with
   |some k=>.ok k S2
   |none=>.fail
 | .lit d,ρ,S=>match truD S d with
   |some k=>.ok k S
   |none=>.fail
 |_,_,_=>.fail
def denL:List CE→Rho→Store→Res (List D)
 | [],_,S=>.ok [] S
 |e::es,ρ,S=>(den e ρ S).bind fun d S1=>(denL es ρ S1).bind fun ds S2=>.ok (d::ds) S2
def denTs:List CE→Rho→Store→Res Bool
 | [],_,S=>.ok true S
 |e::es,ρ,S=>(denT e ρ S).bind fun k S1=>if k=true then denTs es ρ S1 else .ok false S1
def denI:CE→Rho→Store→Res Its
 | .seq e,ρ,S=>(den e ρ S).bind fun d S1=>match a1f' S1 d with
  |some xs=>.ok xs S1
  |none=>.fail
 | .range es,ρ,S=>(denL es ρ S).bind fun ds S1=>match ds with
  | [.int j]=>if-(2^62)≤j∧j<2^62 then .ok (.items (a1A' 0 j.toNat)) S1 else .fail
  | [.int i,.int j]=>if-(2^62)≤i∧i<2^62∧-(2^62)≤j∧j<2^62 then .ok (.items (a1A' i (j-i).toNat)) S1 else .fail
  |_=>.fail
 | .enum _,_,_=>.fail
 | .revl _,_,_=>.fail
 | .down _,_,_=>.fail
 | .zip es,ρ,S=>(denL es ρ S).bind fun ds S2=>match ds with
  | [d,e]=>(match zipOf S2 d e with
   |some its=>.ok its S2
   |none=>.fail)
  |_=>.fail
 |_,_,_=>.fail
def denB:CE→Rho→List D→Store→Res (List D)
 | .emit e,ρ,acc,S=>(den e ρ S).bind fun y S1=>if acc.length<big then .ok (acc++[y]) S1 else .fail
 | .inner tg it ifs body,ρ,acc,S=>(denI it ρ S).bind fun its S1=>
   compI (fun x acc S2=>match a0p' tg x ρ with
    |some ρ'=>(denTs ifs ρ' S2).bind fun k S3=>if k=true then denB body ρ' acc S3 else .ok acc S3
    |none=>.fail) its acc S1
 |_,_,_,_=>.fail
end
inductive Fl where
 |next(ρ:Rho)|ret (d:D)|brk (ρ:Rho)|cont (ρ:Rho)
def forD(step:D→Rho→Store→Res Fl):List D→Rho→Store→Res Fl
 | [],ρ,S=>.ok (.next ρ) S
 |x::xs,ρ,S=>(step x ρ S).bind fun f S'=>match f with
  | .next ρ'=>forD step xs ρ' S'
  | .cont ρ'=>forD step xs ρ' S'
  | .brk ρ'=>.ok (.next ρ') S'
  | .ret d=>.ok (.ret d) S'
def forB(step:D→Rho→Store→Res Fl)(get:Store→Nat→Option (Option D)):Nat→Nat→Rho→Store→Res Fl
 |0,_,_,_=>.fail
 |f+1,i,ρ,S=>match get S i with
  |none=>.fail
  |some none=>.ok (.next ρ) S
  |some (some x)=>(step x ρ S).bind fun fl S'=>match fl with
    | .next ρ'=>forB step get f (i+1) ρ' S'
    | .cont ρ'=>forB step get f (i+1) ρ' S'
    | .brk ρ'=>.ok (.next ρ') S'
    | .ret d=>.ok (.ret d) S'
def forI(step:D→Rho→Store→Res Fl)(its:Its)(ρ:Rho)(S:Store):Res Fl:=match its with
 | .items xs=>forD step xs ρ S
 | .live f get=>forB step get f 0 ρ S
def a2f'(c:Rho→Store→Res Bool)(step:Rho→Store→Res Fl):Nat→Rho→Store→Res Fl
 |0,_,_=>.fail
 |n+1,ρ,S=>(c ρ S).bind fun k S1=>if k=true then(step ρ S1).bind fun f S'=>match f with
   | .next ρ'=>a2f' c step n ρ' S'
   | .cont ρ'=>a2f' c step n ρ' S'
   | .brk ρ'=>.ok (.next ρ') S'
   | .ret d=>.ok (.ret d) S'
  else .ok (.next ρ) S1
mutual
def denS:CS→Rho→Store→Res Fl
 | .asg i e,ρ,S=>(den Φ Γ e ρ S).bind fun d S1=>.ok (.next (ρ.set i (some d))) S1
 | .asgT t e,ρ,S=>(den Φ Γ e ρ S).bind fun d S1=>match asgCT t d ρ with
  |some ρ'=>.ok (.next ρ') S1
  |none=>.fail
 | .par _ _,_,_=>.fail
 | .aug i e,ρ,S=>match ρ[i]? with
  |some (some d)=>(den Φ Γ e ρ S).bind fun y S1=>(augD d y S1).noErr.bind fun z S2=>.ok (.next (ρ.set i (some z))) S2
  |_=>.fail
 | .set o i v,ρ,S=>(den Φ Γ v ρ S).bind fun f S1=>(den Φ Γ o ρ S1).bind fun d S2=>(den Φ Γ i ρ S2).bind fun e S3=>match setD d e f S3 with
  |some S4=>.ok (.next ρ) S4
  |none=>.fail
 | .set2 _ _ _ _ _,_,_=>.fail
 | .expr e,ρ,S=>(den Φ Γ e ρ S).bind fun _ S1=>.ok (.next ρ) S1
 | .ret e,ρ,S=>(den Φ Γ e ρ S).bind fun d S1=>.ok (.ret d) S1
 | .retN,_,S=>.ok (.ret .non) S
 | .pass,ρ,S=>.ok (.next ρ) S
 | .brk,ρ,S=>.ok (.brk ρ) S
 | .cont,ρ,S=>.ok (.cont ρ) S
 | .ite c a b,ρ,S=>(denT Φ Γ c ρ S).bind fun k S1=>if k=true then denSs a ρ S1 else denSs b ρ S1
 | .for_ t it body,ρ,S=>(denI Φ Γ it ρ S).bind fun xs S1=>forI (fun x ρ S=>match asgCT t x ρ with
   |some ρ'=>denSs body ρ' S
   |none=>.fail) xs ρ S1
 | .while_ n c body,ρ,S=>a2f' (denT Φ Γ c) (denSs body) n ρ S
 | .never,_,_=>.fail
def denSs:List CS→Rho→Store→Res Fl
 | [],ρ,S=>.ok (.next ρ) S
 |c::cs,ρ,S=>(denS c ρ S).bind fun f S1=>match f with
  | .next ρ'=>denSs cs ρ' S1
  |f=>.ok f S1
end
end
end Py
end
section
namespace Py
open PySem PySem.Spec PyProof.Rows L2
def ExcIs(mg:Str→Option Value)(x:Exc)(cls:Value)(dict:Option Addr)(H:Hp):Prop:=mg x.cls=some cls∧x.fs=[]
def exOf(mg:Str→Option Value)(E:XK)(x:Exc)(H:Hp):Prop:=∀cls dict,ExcIs mg x cls dict H→E cls dict H
def WantG{α β:Type}(K:PySem.W.Frag)(mg:GS)(E:XK)(Rel:List Addr→Hp→α→β→Prop)(μ:List Addr)(H:Hp)(Q:β→Hp→Prop):Res α→Prop
 | .ok a S'=>∀μ' H' b,Ext μ H μ' H'→SOk K mg μ' S' H'→Rel μ' H' a b→Q b H'
 | .err x S'=>∀μ' H',Ext μ H μ' H'→SOk K mg μ' S' H'→exOf mg.mg E x H'
 | .fail=>False
section
variable {K:PySem.W.Frag}{mg:GS}{E:XK}{μ μ':List Addr}{H H':Hp}
theorem a1w'{Q:VK}{r:Res D}(w:WantG K mg E (Rep K mg) μ H Q r.noErr):Want K mg μ H Q r:=by cases r<;>first|exact w|exact w.elim
theorem WantG.ext{α β:Type}{Rel:List Addr→Hp→α→β→Prop}{Q:β→Hp→Prop}{r:Res α}(x:Ext μ H μ' H')(w:WantG K mg E Rel μ H Q r):WantG K mg E Rel μ' H' Q r:=by
 cases r with
 |ok d S'=>exact fun μ2 H2 v x2 s2 r2=>w μ2 H2 v (x.trans x2) s2 r2
 |err y S'=>exact fun μ2 H2 x2 s2=>w μ2 H2 (x.trans x2) s2
 |fail=>exact w
theorem WantG.bind{α β γ δ:Type}{Rel:List Addr→Hp→α→β→Prop}{Rel':List Addr→Hp→γ→δ→Prop}{Q:δ→Hp→Prop}{r:Res α}{f:α→Store→Res γ}(w:WantG K mg E Rel' μ H Q (r.bind f)):
  WantG K mg E Rel μ H (fun b H'=>∃μ' S' a,Ext μ H μ' H'∧SOk K mg μ' S' H'∧Rel μ' H' a b∧WantG K mg E Rel' μ' H' Q (f a S')) r:=by
 cases r with
 |ok a S'=>exact fun μ2 H2 b x s r=>⟨μ2,S',a,x,s,r,WantG.ext x (show WantG K mg E Rel' μ H Q (f a S')from w)⟩
 |err y S'=>exact w
 |fail=>exact w
theorem WantG.mono{α β:Type}{Rel:List Addr→Hp→α→β→Prop}{Q Q':β→Hp→Prop}{r:Res α}(w:WantG K mg E Rel μ H Q r)(h:∀b H',Q b H'→Q' b H'):WantG K mg E Rel μ H Q' r:=by
 cases r with
 |ok a S'=>exact fun μ2 H2 b x s r=>h b H2 (w μ2 H2 b x s r)
 |err y S'=>exact w
 |fail=>exact w
def EnvR(K:PySem.W.Frag)(mg:GS)(μ:List Addr)(H:Hp)(ρ:Rho)(σ:L2.St):Prop:=
 ρ.length=σ.length∧∀(i:Nat) (d:D),ρ[i]?=some (some d)→∃v,σ[i]?=some (some v)∧Rep K mg μ H d v
theorem EnvR.mono{ρ:Rho}{σ:L2.St}(x:Ext μ H μ' H')(h:EnvR K mg μ H ρ σ):EnvR K mg μ' H' ρ σ:=
 ⟨h.1,fun i d e=>let⟨v,a,b⟩:=h.2 i d e;⟨v,a,Rep.mono x _ _ b⟩⟩
theorem EnvR.set{ρ:Rho}{σ:L2.St}{i:Nat}{d:D}{v:V}(h:EnvR K mg μ H ρ σ)(r:Rep K mg μ H d v):EnvR K mg μ H (ρ.set i (some d)) (σ.set i (some v)):=by
 refine⟨by simp[h.1],fun j e he=>?_⟩
 by_cases hj:j=i
 ·subst hj
  have hl:j<ρ.length:=by
   have:=(Zh.mp he).1
   simpa using this
  rw[Z5 hl]at he
  cases he
  exact⟨v,Z5 (by rw[←h.1];exact hl),r⟩
 ·rw[List.getElem?_set_ne (Ne.symm hj)]at he⊢
  exact h.2 j e he
end
section
variable (K:PySem.W.Frag)(mg:Str→Option Value)(E:XK)(Φ:FT)(Γ:Str→Option D)
def tE(c:CE):TE:=fun σ H Q=>∃F μ ρ S,SOk K ⟨mg,F⟩ μ S H∧EnvR K ⟨mg,F⟩ μ H ρ σ∧WantG K ⟨mg,F⟩ E (Rep K ⟨mg,F⟩) μ H Q (den Φ Γ c ρ S)
def tT(c:CE):TT:=fun σ H Q=>∃F μ ρ S,SOk K ⟨mg,F⟩ μ S H∧EnvR K ⟨mg,F⟩ μ H ρ σ∧WantG K ⟨mg,F⟩ E (fun _ _ a b=>a=b) μ H Q (denT Φ Γ c ρ S)
def tL(cs:List CE):TA:=fun σ H Q=>∃F μ ρ S,SOk K ⟨mg,F⟩ μ S H∧EnvR K ⟨mg,F⟩ μ H ρ σ∧WantG K ⟨mg,F⟩ E (RepL K ⟨mg,F⟩) μ H Q (denL Φ Γ cs ρ S)
end
theorem weakE{X:Cx}{e:Expr}{t t':TE}(h:PE X e t)(w:∀σ H Q,t' σ H Q→t σ H Q):PE X e t':=fun pins s σ H Q I q=>h pins s σ H Q I (w σ H Q q)
theorem weakT{X:Cx}{e:Expr}{t t':TT}(h:PT X e t)(w:∀σ H Q,t' σ H Q→t σ H Q):PT X e t':=fun pins s σ H Q I q=>h pins s σ H Q I (w σ H Q q)
theorem weakA{X:Cx}{e:List Expr}{t t':TA}(h:PA X e t)(w:∀σ H Q,t' σ H Q→t σ H Q):PA X e t':=fun pos pins s σ H Q I q=>h pos pins s σ H Q I (w σ H Q q)
def visB(sc:List (Str×NameKind))(x:Str):Bool:=match sc.lookup x with
 |some .local=>true|some .cell=>true|some .free=>true
 |_=>false
def gloB(sc:List (Str×NameKind))(x:Str):Bool:=sc.lookup x==some .globalImplicit&& !(x==("__debug__":Str))&& !(x==("__name__":Str))
def b2z'(x:Str):Bool:= !(x==("__debug__":Str))&& !(x==("__classdict__":Str))
def a0Z':Expr→Bool
 | .Starred _ _=>false
 |_=>true
def litIs:D→Const→Bool
 | .non,.none=>true
 | .bl b,.bool c=>b==c
 | .int i,.int j=>i==j
 | .str x,.str y=>x==y
 |_,_=>false
def a4C':Blt→Str
 | .len=>"len"| .tuple=>"tuple"| .list _=>"list"| .int=>"int"| .min=>"min"| .max=>"max"| .isinst=>"isinstance"| .all=>"all"| .any=>"any"| .sum=>"sum"| .repr=>"repr"| .abs=>"abs"| .sorted _ _=>"sorted"
def bltIs:Blt→Value
 | .len=>.builtin "len"| .tuple=>.type "tuple"| .list _=>.type "list"| .int=>.type "int"| .min=>.builtin "min"| .max=>.builtin "max"| .isinst=>.builtin "isinstance"| .all=>.builtin "all"| .any=>.builtin "any"| .sum=>.builtin "sum"| .repr=>.builtin "repr"| .abs=>.builtin "abs"| .sorted _ _=>.builtin "sorted"
theorem b4H'(b:Blt):bootBuiltins (a4C' b)=some (bltIs b):=by
 cases b with
 |list box=>show bootBuiltins (Str.ofString "list")=some (.type "list");decide+kernel
 |sorted box t=>show bootBuiltins (Str.ofString "sorted")=some (.builtin "sorted");decide+kernel
 |_=>decide+kernel
def a5r':List String:=["int","bool","str","tuple","list","dict"]
theorem ty_boot{n:String}(h:a5r'.contains n=true):bootBuiltins (Str.ofString n)=some (.type n):=by
 simp[a5r']at h
 rcases h with rfl|rfl|rfl|rfl|rfl|rfl<;>decide+kernel
end Py
end
section
namespace Py
open PySem PySem.Spec PyProof.Rows L2
abbrev Sc:=List (Str×NameKind)
def relB(names sc:Sc):Sc:=names.map fun(n,k)=>if(k== .free&&sc.lookup n==some .cell)then(n,.cell)else(n,k)
def ownB(names:Sc):Str→Bool:=fun x=>names.lookup x==some .cell
def scB(scope:Scope)(sc:Sc):Bool:=scope.kind== .function&&scope.names.all fun(n,k)=>(k !=.cell||scope.names.lookup n==some .cell)&&(k !=.local||scope.names.lookup n==some .local)&&(k !=.free||(sc.lookup n==some .cell||sc.lookup n==some .free))
def frB(names:Sc)(N' N:List Str)(fr:List (Option Nat)):Bool:=fr.length==N'.length&&(List.range N'.length).all fun i=>match fr[i]? with
 |some (some j)=>(match N'[i]? with
  |some x=>names.lookup x==some .free&&N[j]?==some x
  |none=>false)
 |_=>true
def a9B':List Str→Bool
 | []=>true
 |x::r=> !r.contains x&&a9B' r
def a3I':Expr→Bool
 | .Slice _ _ _ _=>false
 |_=>true
theorem b4I'{b:Expr}(h:a3I' b=true):b3w' b:=by
 intro o i
 cases b<;>first|rfl|cases h
def a8K':Mth→Str
 | .append=>"append"| .extend=>"extend"| .pop=>"pop"| .count=>"count"| .insert=>"insert"
def isNm:Expr→Bool
 | .Name _ _=>true
 |_=>false
def isTup:Expr→Bool
 | .Tuple _ _ _=>true
 |_=>false
def b2A':Expr→Bool
 | .Set _ _ _=>false
 |_=>true
def dE:Expr:=.Name "" ⟨0,0,0,0⟩
def dG:Comprehension:=⟨dE,dE,[],0⟩
structure Nd where
 e0:Expr:=dE
 e1:Expr:=dE
 e2:Expr:=dE
 es:List Expr:=[]
 lo:Option Expr:=none
 hi:Option Expr:=none
 gs:List Comprehension:=[]
 sc:Scope:=default
 k:Nat:=0
 pos:Pos:=⟨0,0,0,0⟩
def vw:Expr→Nd
 | .BoolOp _ vs p=>{es:=vs,pos:=p}
 | .BinOp l _ r p=>{e0:=l,e1:=r,pos:=p}
 | .UnaryOp _ x p=>{e0:=x,pos:=p}
 | .IfExp t x y p=>{e0:=t,e1:=x,e2:=y,pos:=p}
 | .ListComp el gs sc p=>{e0:=el,gs:=gs,sc:=sc,pos:=p}
 | .Compare l _ rs p=>{e0:=l,es:=rs,pos:=p}
 | .Call f xs _ p=>{e0:=f,es:=xs,pos:=p}
 | .Constant _ k p=>{k:=k,pos:=p}
 | .Attribute v _ p=>{e0:=v,pos:=p}
 | .Subscript v s p=>{e0:=v,e1:=s,pos:=p}
 | .Name _ p=>{pos:=p}
 | .List es p=>{es:=es,pos:=p}
 | .Tuple es k p=>{es:=es,k:=k,pos:=p}
 | .Slice l u s p=>{lo:=l,hi:=u,e2:=s.getD dE,pos:=p}
 | .Dict _ _ p=>{pos:=p}
 |_=>{}
def b3B':D→Const
 | .bl b=>.bool b
 | .int i=>.int i
 | .str x=>.str x
 |_=>.none
def b2B':CT→Bool
 | .tup _=>true
 |_=>false
def b4J':CE→Bool
 | .band _ _=>true
 |_=>false
def isBor:CE→Bool
 | .bor _ _=>true
 |_=>false
def isCmp:CE→Bool
 | .comp .. =>true
 |_=>false
mutual
def emT:CT→List Str→Expr→Expr
 | .var i,N,e=>.Name (N.getD i "") (vw e).pos
 | .tup ts,N,e=>.Tuple (emTL ts N (vw e).es) (vw e).k (vw e).pos
def emTL:List CT→List Str→List Expr→List Expr
 | [],_,_=>[]
 |t::ts,N,es=>emT t N (es.headD dE)::emTL ts N es.tail
end
mutual
def sdT(cell:Str→Bool)(N:List Str)(sc:Sc):CT→Bool
 | .var i=>N[i]?==some (N.getD i "")&&(sc.lookup (N.getD i "")==some .local||(cell (N.getD i "")&&sc.lookup (N.getD i "")==some .cell))
 | .tup ts=>sdTL cell N sc ts
def sdTL(cell:Str→Bool)(N:List Str)(sc:Sc):List CT→Bool
 | []=>true
 |t::ts=>sdT cell N sc t&&sdTL cell N sc ts
end
mutual
def emE:CE→List Str→Expr→Expr
 | .var i,N,e=>.Name (N.getD i "") (vw e).pos
 | .dct,_,e=>.Dict [] [] (vw e).pos
 | .odd a b c,N,e=>.Subscript (emE a N (vw e).e0) (.Slice (some (emE b N ((vw (vw e).e1).lo.getD dE))) none (some (emE c N (vw (vw e).e1).e2)) (vw (vw e).e1).pos) (vw e).pos
 | .rev _ _,_,e=>e
 | .lit d,_,e=>.Constant (b3B' d) (vw e).k (vw e).pos
 | .glob y,_,e=>.Name y (vw e).pos
 | .ty n,_,e=>.Name (Str.ofString n) (vw e).pos
 | .bin op a b,N,e=>.BinOp (emE a N (vw e).e0) op (emE b N (vw e).e1) (vw e).pos
 | .binB _ _,_,e=>e
 | .neg a,N,e=>.UnaryOp .USub (emE a N (vw e).e0) (vw e).pos
 | .cmp op a b,N,e=>.Compare (emE a N (vw e).e0) [op] [emE b N ((vw e).es.headD dE)] (vw e).pos
 | .chain op op' a b c,N,e=>.Compare (emE a N (vw e).e0) [op,op'] [emE b N ((vw e).es.headD dE),emE c N ((vw e).es.tail.headD dE)] (vw e).pos
 | .band a b,N,e=>.BoolOp .And (emE a N ((vw e).es.headD dE)::cond ((vw e).es.length==2) [emE b N ((vw e).es.tail.headD dE)] (vw (emE b N (.BoolOp .And (vw e).es.tail (vw e).pos))).es) (vw e).pos
 | .bor a b,N,e=>.BoolOp .Or (emE a N ((vw e).es.headD dE)::cond ((vw e).es.length==2) [emE b N ((vw e).es.tail.headD dE)] (vw (emE b N (.BoolOp .Or (vw e).es.tail (vw e).pos))).es) (vw e).pos
 | .bnot a,N,e=>.UnaryOp .Not (emE a N (vw e).e0) (vw e).pos
 | .ite c a b,N,e=>.IfExp (emE c N (vw e).e0) (emE a N (vw e).e1) (emE b N (vw e).e2) (vw e).pos
 | .tup es,N,e=>.Tuple (emL es N (vw e).es) (vw e).k (vw e).pos
 | .lst _ es,N,e=>.List (emL es N (vw e).es) (vw e).pos
 | .idx a b,N,e=>.Subscript (emE a N (vw e).e0) (emE b N (vw e).e1) (vw e).pos
 | .sl a lo hi,N,e=>.Subscript (emE a N (vw e).e0) (.Slice (emL lo N (vw (vw e).e1).lo.toList).head? (emL hi N (vw (vw e).e1).hi.toList).head? none (vw (vw e).e1).pos) (vw e).pos
 | .call f es,N,e=>.Call (.Name f (vw (vw e).e0).pos) (emL es N (vw e).es) [] (vw e).pos
 | .blt b es,N,e=>.Call (.Name (a4C' b) (vw (vw e).e0).pos) (emL es N (vw e).es) [] (vw e).pos
 | .tix _ _,_,e=>e
 | .meth m o es,N,e=>.Call (.Attribute (emE o N (vw (vw e).e0).e0) (a8K' m) (vw (vw e).e0).pos) (emL es N (vw e).es) [] (vw e).pos
 | .lenset a,N,e=>.Call (.Name "len" (vw (vw e).e0).pos) [.Call (.Name "set" (vw (vw ((vw e).es.headD dE)).e0).pos) [emE a N ((vw ((vw e).es.headD dE)).es.headD dE)] [] (vw ((vw e).es.headD dE)).pos] [] (vw e).pos
 | .rng _ _ _,_,e=>e
 | .comp _ N' _ tg it ifs body,N,e=>.ListComp (emBe body N' (vw e).e0) (⟨emT tg N' ((vw e).gs.headD dG).target,emI it N ((vw e).gs.headD dG).iter,emL ifs N' ((vw e).gs.headD dG).ifs,0⟩::emBg body N' (vw e).gs.tail) (vw e).sc (vw e).pos
 | .emit _,_,e=>e
 | .inner _ _ _ _,_,e=>e
 | .seq _,_,e=>e
 | .range _,_,e=>e
 | .zip _,_,e=>e
 | .down _,_,e=>e
 | .enum _,_,e=>e
 | .revl _,_,e=>e
def emBe:CE→List Str→Expr→Expr
 | .emit a,N,e=>emE a N e
 | .inner _ _ _ body,N,e=>emBe body N e
 |_,_,e=>e
def emBg:CE→List Str→List Comprehension→List Comprehension
 | .inner tg it ifs body,N,gs=>⟨emT tg N (gs.headD dG).target,emI it N (gs.headD dG).iter,emL ifs N (gs.headD dG).ifs,0⟩::emBg body N gs.tail
 |_,_,_=>[]
def emL:List CE→List Str→List Expr→List Expr
 | [],_,_=>[]
 |c::cs,N,es=>emE c N (es.headD dE)::emL cs N es.tail
def emI:CE→List Str→Expr→Expr
 | .seq c,N,e=>emE c N e
 | .range es,N,e=>.Call (.Name "range" (vw (vw e).e0).pos) (emL es N (vw e).es) [] (vw e).pos
 | .enum _,_,e=>e
 | .revl _,_,e=>e
 | .down _,_,e=>e
 | .zip es,N,e=>.Call (.Name "zip" (vw (vw e).e0).pos) (emL es N (vw e).es) [] (vw e).pos
 |_,_,e=>e
end
mutual
def sdE:CE→List Str→Sc→Expr→Bool
 | .var i,N,sc,_=>N[i]?==some (N.getD i "")&&(visB sc (N.getD i "")&&b2z' (N.getD i ""))
 | .dct,_,_,_=>true
 | .odd a b c,N,sc,e=>sdE a N sc (vw e).e0&&(sdE b N sc ((vw (vw e).e1).lo.getD dE)&&sdE c N sc (vw (vw e).e1).e2)
 | .rev _ _,_,_,_=>false
 | .lit d,_,_,_=>litIs d (b3B' d)
 | .glob y,_,sc,_=>gloB sc y
 | .ty n,_,sc,_=>gloB sc (Str.ofString n)&&a5r'.contains n
 | .bin _ a b,N,sc,e=>sdE a N sc (vw e).e0&&sdE b N sc (vw e).e1
 | .binB _ _,_,_,_=>false
 | .neg a,N,sc,e=>sdE a N sc (vw e).e0
 | .cmp op a b,N,sc,e=>sdE a N sc (vw e).e0&&(sdE b N sc ((vw e).es.headD dE)&& !behindInMarks op (emE b N ((vw e).es.headD dE)))
 | .chain _ op' a b c,N,sc,e=>sdE a N sc (vw e).e0&&(sdE b N sc ((vw e).es.headD dE)&&(sdE c N sc ((vw e).es.tail.headD dE)&& !behindInMarks op' (emE c N ((vw e).es.tail.headD dE))))
 | .band a b,N,sc,e=>sdE a N sc ((vw e).es.headD dE)&&cond ((vw e).es.length==2) (sdE b N sc ((vw e).es.tail.headD dE)) (b4J' b&&sdE b N sc (.BoolOp .And (vw e).es.tail (vw e).pos))
 | .bor a b,N,sc,e=>sdE a N sc ((vw e).es.headD dE)&&cond ((vw e).es.length==2) (sdE b N sc ((vw e).es.tail.headD dE)) (isBor b&&sdE b N sc (.BoolOp .Or (vw e).es.tail (vw e).pos))
 | .bnot a,N,sc,e=>sdE a N sc (vw e).e0
 | .ite c a b,N,sc,e=>sdE c N sc (vw e).e0&&(sdE a N sc (vw e).e1&&sdE b N sc (vw e).e2)
 | .tup es,N,sc,e=>sdL es N sc (vw e).es&&decide (es.length<1000)
 | .lst _ es,N,sc,e=>sdL es N sc (vw e).es&&decide (es.length<1000)
 | .idx a b,N,sc,e=>sdE a N sc (vw e).e0&&(sdE b N sc (vw e).e1&&a3I' (emE b N (vw e).e1))
 | .sl a lo hi,N,sc,e=>sdE a N sc (vw e).e0&&(sdL lo N sc (vw (vw e).e1).lo.toList&&(sdL hi N sc (vw (vw e).e1).hi.toList&&(decide (lo.length<2)&&decide (hi.length<2))))
 | .call f es,N,sc,e=>gloB sc f&&(sdL es N sc (vw e).es&& !es.isEmpty)
 | .blt b es,N,sc,e=>gloB sc (a4C' b)&&(sdL es N sc (vw e).es&&(!es.isEmpty&&bltB b))
 | .tix _ _,_,_,_=>false
 | .meth m o es,N,sc,e=>isNm (emE o N (vw (vw e).e0).e0)&&((vw (vw e).e0).pos.endLine==(vw e).pos.line&&(sdE o N sc (vw (vw e).e0).e0&&(sdL es N sc (vw e).es&&decide (es.length<20))))
 | .lenset a,N,sc,e=>gloB sc "len"&&(gloB sc "set"&&(sdE a N sc ((vw ((vw e).es.headD dE)).es.headD dE)&&a0Z' (emE a N ((vw ((vw e).es.headD dE)).es.headD dE))))
 | .rng _ _ _,_,_,_=>false
 | .comp _ N' fr tg it ifs body,N,sc,e=>scB (vw e).sc sc&&(frB (vw e).sc.names N' N fr&&(a9B' N'&&(sdT (ownB (vw e).sc.names) N' (relB (vw e).sc.names sc) tg&&(sdI it N sc tg ((vw e).gs.headD dG).iter&&(b2A' (emI it N ((vw e).gs.headD dG).iter)&&(sdL ifs N' (relB (vw e).sc.names sc) ((vw e).gs.headD dG).ifs&&sdB body (ownB (vw e).sc.names) N' (relB (vw e).sc.names sc) (vw e).gs.tail (vw e).e0))))))
 | .emit _,_,_,_=>false
 | .inner _ _ _ _,_,_,_=>false
 | .seq _,_,_,_=>false
 | .range _,_,_,_=>false
 | .zip _,_,_,_=>false
 | .down _,_,_,_=>false
 | .enum _,_,_,_=>false
 | .revl _,_,_,_=>false
def sdB:CE→(Str→Bool)→List Str→Sc→List Comprehension→Expr→Bool
 | .emit a,_,N,sc,_,e=>sdE a N sc e
 | .inner tg it ifs body,cell,N,sc,gs,e=>sdT cell N sc tg&&(sdI it N sc tg (gs.headD dG).iter&&(b2A' (emI it N (gs.headD dG).iter)&&(sdL ifs N sc (gs.headD dG).ifs&&sdB body cell N sc gs.tail e)))
 |_,_,_,_,_,_=>false
def sdL:List CE→List Str→Sc→List Expr→Bool
 | [],_,_,_=>true
 |c::cs,N,sc,es=>sdE c N sc (es.headD dE)&&(a0Z' (emE c N (es.headD dE))&&sdL cs N sc es.tail)
def sdI:CE→List Str→Sc→CT→Expr→Bool
 | .seq c,N,sc,_,e=>sdE c N sc e
 | .range es,N,sc,_,e=>gloB sc "range"&&(sdL es N sc (vw e).es&&(es.length==1||es.length==2))
 | .enum _,_,_,_,_=>false
 | .revl _,_,_,_,_=>false
 | .down _,_,_,_,_=>false
 | .zip es,N,sc,t,e=>gloB sc "zip"&&(sdL es N sc (vw e).es&&(es.length==2&&b2B' t))
 |_,_,_,_,_=>false
end
theorem andB{a b:Bool}(h:(a&&b)=true):a=true∧b=true:=Bool.and_eq_true_iff.mp h
theorem decB{p:Prop} [Decidable p] (h:decide p=true):p:=of_decide_eq_true h
theorem notB{a:Bool}(h:(!a)=true):a=false:=by cases a;rfl;cases h
end Py
end
section
namespace Py
open PySem PySem.Spec PyProof.Rows L2
def spOf(K:PySem.W.Frag)(mg:Str→Option Value)(n:Nat)(φ:List D→Store→Res D):Sp:=fun vs H Q E=>vs.length=n∧∃F μ S ds,SOk K ⟨mg,F⟩ μ S H∧RepL K ⟨mg,F⟩ μ H ds vs∧WantG K ⟨mg,F⟩ E (Rep K ⟨mg,F⟩) μ H Q (φ ds S)
structure FOk (P:Program)(w:World)(K:PySem.W.Frag)(mg:Str→Option Value)(base:Heap)(CX:CXT)(k:Nat)(f:Str)(φ:List D→Store→Res D):Prop where
 ex:∃fa fd ps,mg f=some (.ref fa)∧PySem.W.keepIn K (.ref fa)=true∧Binds K fd ps []∧FnOk P w K mg base CX k fa fd ps (spOf K mg ps.length φ)∧∀ds S,φ ds S≠.fail→ds.length=ps.length
def a2g':List Str:=["len","tuple","list","int","min","max","isinstance","all","any","sorted","bool","str","dict","range","zip","set","sum","reversed","repr","abs","enumerate"]
structure MOk (P:Program)(w:World)(K:PySem.W.Frag)(mg:Str→Option Value)(base:Heap)(CX:CXT)(Φ:FT)(Γ:Str→Option D)(k:Nat):Prop where
 fns:∀f φ,Φ f=some φ→FOk P w K mg base CX k f φ
 gl:∀x d,Γ x=some d→∃v u,mg x=some u∧RelV v u∧∀F μ H,Rep K ⟨mg,F⟩ μ H d v
 bl:∀x∈a2g',mg x=none
structure XOk (X:Cx)(cell:Str→Bool)(N:List Str)(sc:Sc)(CX:CXT)(E:XK)(Φ:FT)(Γ:Str→Option D)(k:Nat):Prop where
 n:X.N=N
 nd:N.Nodup
 sc:X.env.scope.names=sc
 kd:X.env.scope.kind=.function
 calm:X.calm=true
 room:Room k X.A
 fn:∀x,cell x=true→X.fn x=true
 mod:MOk X.prog X.w X.K X.mg X.base CX Φ Γ k
 pass:b4p' CX X E
 cx0:∀outer H s e s',CX outer H s E0 e s'→False
section
variable {X:Cx}{E:XK}{CX:CXT}{Φ:FT}{Γ:Str→Option D}{N:List Str}{sc:Sc}{k:Nat}{cell:Str→Bool}{l r e:Expr}{pos:Pos}{a b c:CE}
theorem s_bin{op:Operator}(ha:PE X l (tE X.K X.mg E Φ Γ a))(hb:PE X r (tE X.K X.mg E Φ Γ b)):PE X (.BinOp l op r pos) (tE X.K X.mg E Φ Γ (.bin op a b)):=
 weakE (pe_op (op_D op) ha hb) fun σ H Q zz=>ex43 zz fun F μ ρ S sk en w=>
  ⟨F,μ,ρ,S,sk,en,(WantG.bind w).mono fun v1 H1 zz=>ex34 zz fun μ1 S1 d1 x1 s1 r1 w1=>⟨F,μ1,ρ,S1,s1,en.mono x1,(WantG.bind w1).mono fun v2 H2 zz=>ex34 zz fun μ2 S2 d2 x2 s2 r2 w2=>⟨F,μ2,S2,d1,d2,s2,Rep.mono x2 _ _ r1,r2,a1w' w2⟩⟩⟩
theorem s_cmp{op:CmpOp}(hu:X.A.units+64<cLine)(ha:PE X l (tE X.K X.mg E Φ Γ a))(hb:PE X r (tE X.K X.mg E Φ Γ b))(hm:behindInMarks op r=false):PE X (.Compare l [op] [r] pos) (tE X.K X.mg E Φ Γ (.cmp op a b)):=
 weakE (pe_cmpR (cmp_D op hu) ha hb hm) fun σ H Q zz=>ex43 zz fun F μ ρ S sk en w=>
  ⟨F,μ,ρ,S,sk,en,(WantG.bind w).mono fun v1 H1 zz=>ex34 zz fun μ1 S1 d1 x1 s1 r1 w1=>⟨F,μ1,ρ,S1,s1,en.mono x1,(WantG.bind w1).mono fun v2 H2 zz=>ex34 zz fun μ2 S2 d2 x2 s2 r2 w2=>⟨F,μ2,S2,d1,d2,s2,Rep.mono x2 _ _ r1,r2,a1w' w2⟩⟩⟩
theorem a5s'{K:PySem.W.Frag}{mg:GS}{E:XK}{μ:List Addr}{H:Hp}{α β:Type}{Rel:List Addr→Hp→α→β→Prop}{Q:β→Hp→Prop}{d:D}{f:Bool→Res α}{v:V}
  (w:WantG K mg E Rel μ H Q (onBl d f)) (r:Rep K mg μ H d v):∃k,v=.bl k∧d=.bl k∧WantG K mg E Rel μ H Q (f k):=by
 cases d with
 |bl k=>exact⟨k,a6G' r,rfl,w⟩
 |_=>exact w.elim
theorem t_cmp{op:CmpOp}(hu:X.A.units+64<cLine)(ha:PE X l (tE X.K X.mg E Φ Γ a))(hb:PE X r (tE X.K X.mg E Φ Γ b))(hm:behindInMarks op r=false):PT X (.Compare l [op] [r] pos) (tT X.K X.mg E Φ Γ (.cmp op a b)):=
 weakT (pt_cmpR (cmp_D op hu) ha hb hm) fun σ H Q zz=>ex43 zz fun F μ ρ S sk en w=>
  ⟨F,μ,ρ,S,sk,en,(WantG.bind w).mono fun v1 H1 zz=>ex34 zz fun μ1 S1 d1 x1 s1 r1 w1=>⟨F,μ1,ρ,S1,s1,en.mono x1,(WantG.bind w1).mono fun v2 H2 zz=>ex34 zz fun μ2 S2 d2 x2 s2 r2 w2=>
   ⟨F,μ2,S2,d1,d2,s2,Rep.mono x2 _ _ r1,r2,a1w' ((WantG.bind w2).mono fun v3 H3 zz=>ex34 zz fun μ3 S3 d3 x3 s3 r3 w3=>by
    obtain⟨k,rfl,rfl,w4⟩:=a5s' w3 r3
    exact⟨k,rfl,w4 μ3 H3 k .refl s3 rfl⟩)⟩⟩⟩
theorem s_chain{op op':CmpOp}{r':Expr}(hu:X.A.units+64<cLine)(ha:PE X l (tE X.K X.mg E Φ Γ a))(hb:PE X r (tE X.K X.mg E Φ Γ b))(hc:PE X r' (tE X.K X.mg E Φ Γ c))(hm:behindInMarks op' r'=false):PE X (.Compare l [op,op'] [r,r'] pos) (tE X.K X.mg E Φ Γ (.chain op op' a b c)):=
 weakE (b4l' (cmp_D op hu) (cmp_D op' hu) ha hb hc hm) fun σ H Q zz=>ex43 zz fun F μ ρ S sk en w=>
  ⟨F,μ,ρ,S,sk,en,(WantG.bind w).mono fun v1 H1 zz=>ex34 zz fun μ1 S1 d1 x1 s1 r1 w1=>⟨F,μ1,ρ,S1,s1,en.mono x1,(WantG.bind w1).mono fun v2 H2 zz=>ex34 zz fun μ2 S2 d2 x2 s2 r2 w2=>
   ⟨F,μ2,S2,d1,d2,s2,Rep.mono x2 _ _ r1,r2,a1w' ((WantG.bind w2).mono fun v3 H3 zz=>ex34 zz fun μ3 S3 d3 x3 s3 r3 w3=>by
    obtain⟨k,rfl,rfl,w4⟩:=a5s' w3 r3
    refine⟨k,rfl,?_⟩
    cases k with
    |true=>
     rw[if_pos rfl]at w4⊢
     exact⟨F,μ3,ρ,S3,s3,(en.mono x1).mono (x2.trans x3),(WantG.bind w4).mono fun v4 H4 zz=>ex34 zz fun μ4 S4 d4 x4 s4 r4 w5=>⟨F,μ4,S4,d2,d4,s4,Rep.mono (x3.trans x4) _ _ r2,r4,a1w' w5⟩⟩
    |false=>
     rw[if_neg (by decide)]at w4⊢
     exact w4 μ3 H3 _ .refl s3 repBl)⟩⟩⟩
theorem t_chain{op op':CmpOp}{r':Expr}(hu:X.A.units+64<cLine)(ha:PE X l (tE X.K X.mg E Φ Γ a))(hb:PE X r (tE X.K X.mg E Φ Γ b))(hc:PE X r' (tE X.K X.mg E Φ Γ c))(hm:behindInMarks op' r'=false):PT X (.Compare l [op,op'] [r,r'] pos) (tT X.K X.mg E Φ Γ (.chain op op' a b c)):=
 weakT (b4m' (cmp_D op hu) (cmp_D op' hu) ha hb hc hm) fun σ H Q zz=>ex43 zz fun F μ ρ S sk en w=>
  ⟨F,μ,ρ,S,sk,en,(WantG.bind w).mono fun v1 H1 zz=>ex34 zz fun μ1 S1 d1 x1 s1 r1 w1=>⟨F,μ1,ρ,S1,s1,en.mono x1,(WantG.bind w1).mono fun v2 H2 zz=>ex34 zz fun μ2 S2 d2 x2 s2 r2 w2=>
   ⟨F,μ2,S2,d1,d2,s2,Rep.mono x2 _ _ r1,r2,a1w' ((WantG.bind w2).mono fun v3 H3 zz=>ex34 zz fun μ3 S3 d3 x3 s3 r3 w3=>by
    obtain⟨k,rfl,rfl,w4⟩:=a5s' w3 r3
    refine⟨k,rfl,?_⟩
    cases k with
    |true=>
     rw[if_pos rfl]at w4⊢
     exact⟨F,μ3,ρ,S3,s3,(en.mono x1).mono (x2.trans x3),(WantG.bind w4).mono fun v4 H4 zz=>ex34 zz fun μ4 S4 d4 x4 s4 r4 w5=>⟨F,μ4,S4,d2,d4,s4,Rep.mono (x3.trans x4) _ _ r2,r4,a1w' ((WantG.bind w5).mono fun v5 H5 zz=>ex34 zz fun μ5 S5 d5 x5 s5 r5 w6=>by
      obtain⟨k,rfl,rfl,w7⟩:=a5s' w6 r5
      exact⟨k,rfl,w7 μ5 H5 k .refl s5 rfl⟩)⟩⟩
    |false=>
     rw[if_neg (by decide)]at w4⊢
     exact⟨false,rfl,w4 μ3 H3 _ .refl s3 rfl⟩)⟩⟩⟩
theorem s_and{rest:List Expr}(ha:PE X l (tE X.K X.mg E Φ Γ a))(hb:PE X (.BoolOp .And (r::rest) pos) (tE X.K X.mg E Φ Γ b)):PE X (.BoolOp .And (l::r::rest) pos) (tE X.K X.mg E Φ Γ (.band a b)):=
 weakE (pe_and ha hb) fun σ H Q zz=>ex43 zz fun F μ ρ S sk en w=>
  ⟨F,μ,ρ,S,sk,en,(WantG.bind w).mono fun v1 H1 zz=>ex34 zz fun μ1 S1 d1 x1 s1 r1 w1=>by
   obtain⟨k,rfl,rfl,w2⟩:=a5s' w1 r1
   refine⟨k,rfl,?_⟩
   cases k with
   |true=>rw[if_pos rfl]at w2⊢;exact⟨F,μ1,ρ,S1,s1,en.mono x1,w2⟩
   |false=>rw[if_neg (by decide)]at w2⊢;exact w2 μ1 H1 _ .refl s1 repBl⟩
theorem s_or{rest:List Expr}(ha:PE X l (tE X.K X.mg E Φ Γ a))(hb:PE X (.BoolOp .Or (r::rest) pos) (tE X.K X.mg E Φ Γ b)):PE X (.BoolOp .Or (l::r::rest) pos) (tE X.K X.mg E Φ Γ (.bor a b)):=
 weakE (pe_or ha hb) fun σ H Q zz=>ex43 zz fun F μ ρ S sk en w=>
  ⟨F,μ,ρ,S,sk,en,(WantG.bind w).mono fun v1 H1 zz=>ex34 zz fun μ1 S1 d1 x1 s1 r1 w1=>by
   obtain⟨k,rfl,rfl,w2⟩:=a5s' w1 r1
   refine⟨k,rfl,?_⟩
   cases k with
   |true=>rw[if_pos rfl]at w2⊢;exact w2 μ1 H1 _ .refl s1 repBl
   |false=>rw[if_neg (by decide)]at w2⊢;exact⟨F,μ1,ρ,S1,s1,en.mono x1,w2⟩⟩
theorem pe_notT{ta:TE}(ha:PE X l ta):PE X (.UnaryOp .Not l pos) (fun σ H Q=>ta σ H fun x H'=>∃k,TruV X.K x H' k∧Q (.bl (!k)) H'):=by
 intro pins s σ H Q I h
 refine UnaryOp_ (thn (ha pins s σ H _ I h) fun v s1 ⟨x,H1,I1,r1,k,t1,q1⟩=>?_)
 refine not_of (thn (tru_ok pins s1 σ H1 x v (fun k H'=>Q (.bl (!k)) H') I1 r1 ⟨k,t1,q1⟩) fun k' s2 ⟨H2,I2,q2⟩=>?_)
 exact⟨.bl (!k'),H2,I2,rfl,q2⟩
theorem b0K'{K:PySem.W.Frag}{mg:GS}{E:XK}{μ:List Addr}{H:Hp}{α β:Type}{Rel:List Addr→Hp→α→β→Prop}{Q:β→Hp→Prop}{d:D}{S:Store}{f:Bool→Res α}
  (w:WantG K mg E Rel μ H Q (match truD S d with|some k=>f k|none=>.fail)):∃k,truD S d=some k∧WantG K mg E Rel μ H Q (f k):=by
 cases e:truD S d with
 |none=>rw[e]at w;exact w.elim
 |some k=>rw[e]at w;exact⟨k,rfl,w⟩
theorem s_not(ha:PE X l (tE X.K X.mg E Φ Γ a)):PE X (.UnaryOp .Not l pos) (tE X.K X.mg E Φ Γ (.bnot a)):=
 weakE (pe_notT ha) fun σ H Q zz=>ex43 zz fun F μ ρ S sk en w=>⟨F,μ,ρ,S,sk,en,(WantG.bind w).mono fun v1 H1 zz=>ex34 zz fun μ1 S1 d1 x1 s1 r1 w1=>by
  obtain⟨k,e,w2⟩:=b0K' w1
  exact⟨k,tru_D s1 r1 e,w2 μ1 H1 _ .refl s1 repBl⟩⟩
theorem s_neg(ha:PE X l (tE X.K X.mg E Φ Γ a)):PE X (.UnaryOp .USub l pos) (tE X.K X.mg E Φ Γ (.neg a)):=
 weakE (pe_un un_neg ha) fun σ H Q zz=>ex43 zz fun F μ ρ S sk en w=>⟨F,μ,ρ,S,sk,en,(WantG.bind w).mono fun v1 H1 zz=>ex34 zz fun μ1 S1 d1 x1 s1 r1 w1=>by
  cases d1 with
  |int i=>exact⟨i,a0e' r1,w1 μ1 H1 _ .refl s1 a1h'⟩
  |_=>exact w1.elim⟩
theorem t_and{rest:List Expr}(ha:PT X l (tT X.K X.mg E Φ Γ a))(hb:PW X (.BoolOp .And (r::rest) pos) (tT X.K X.mg E Φ Γ b)):PW X (.BoolOp .And (l::r::rest) pos) (tT X.K X.mg E Φ Γ (.band a b)):=fun wh pins s σ H Q I zz=>ex43 zz fun F μ ρ S sk en w=>
 pw_and ha hb wh pins s σ H Q I ⟨F,μ,ρ,S,sk,en,(WantG.bind w).mono fun k H1 zz=>ex34 zz fun μ1 S1 k' x1 s1 e1 w1=>by
  subst e1
  cases k' with
  |true=>rw[if_pos rfl]at w1⊢;exact⟨F,μ1,ρ,S1,s1,en.mono x1,w1⟩
  |false=>rw[if_neg (by decide)]at w1⊢;exact w1 μ1 H1 _ .refl s1 rfl⟩
theorem t_or{rest:List Expr}(ha:PT X l (tT X.K X.mg E Φ Γ a))(hb:PW X (.BoolOp .Or (r::rest) pos) (tT X.K X.mg E Φ Γ b)):PW X (.BoolOp .Or (l::r::rest) pos) (tT X.K X.mg E Φ Γ (.bor a b)):=fun wh pins s σ H Q I zz=>ex43 zz fun F μ ρ S sk en w=>
 pw_or ha hb wh pins s σ H Q I ⟨F,μ,ρ,S,sk,en,(WantG.bind w).mono fun k H1 zz=>ex34 zz fun μ1 S1 k' x1 s1 e1 w1=>by
  subst e1
  cases k' with
  |true=>rw[if_pos rfl]at w1⊢;exact w1 μ1 H1 _ .refl s1 rfl
  |false=>rw[if_neg (by decide)]at w1⊢;exact⟨F,μ1,ρ,S1,s1,en.mono x1,w1⟩⟩
theorem t_not(ha:PT X l (tT X.K X.mg E Φ Γ a)):PT X (.UnaryOp .Not l pos) (tT X.K X.mg E Φ Γ (.bnot a)):=
 weakT (pt_not ha) fun σ H Q zz=>ex43 zz fun F μ ρ S sk en w=>⟨F,μ,ρ,S,sk,en,(WantG.bind w).mono fun k H1 zz=>ex34 zz fun μ1 S1 k' x1 s1 e1 w1=>by
  subst e1
  exact w1 μ1 H1 _ .refl s1 rfl⟩
theorem s_ite{t x y:Expr}(hc:PT X t (tT X.K X.mg E Φ Γ c))(ha:PE X x (tE X.K X.mg E Φ Γ a))(hb:PE X y (tE X.K X.mg E Φ Γ b)):PE X (.IfExp t x y pos) (tE X.K X.mg E Φ Γ (.ite c a b)):=
 weakE (b4g' hc ha hb) fun σ H Q zz=>ex43 zz fun F μ ρ S sk en w=>⟨F,μ,ρ,S,sk,en,(WantG.bind w).mono fun k H1 zz=>ex34 zz fun μ1 S1 k' x1 s1 e1 w1=>by
  subst e1
  cases k' with
  |true=>rw[if_pos rfl]at w1⊢;exact⟨F,μ1,ρ,S1,s1,en.mono x1,w1⟩
  |false=>rw[if_neg (by decide)]at w1⊢;exact⟨F,μ1,ρ,S1,s1,en.mono x1,w1⟩⟩
theorem s_nil:PA X [] (tL X.K X.mg E Φ Γ []):=weakA b4o' fun σ H Q zz=>ex43 zz fun F μ ρ S sk en w=>w μ H [] .refl sk .nil
theorem a0D'{env:Env}{es:List Expr}(h:a0Z' e=true):starEach (e::es) env=(false,eval e env)::starEach es env:=by
 cases e<;>first|rfl|cases h
theorem s_cons{es:List Expr}{cs:List CE}(hn:a0Z' e=true)(ha:PE X e (tE X.K X.mg E Φ Γ a))(hr:PA X es (tL X.K X.mg E Φ Γ cs)):PA X (e::es) (tL X.K X.mg E Φ Γ (a::cs)):=
 weakA (b0m' ha hr (a0D' hn)) fun σ H Q zz=>ex43 zz fun F μ ρ S sk en w=>⟨F,μ,ρ,S,sk,en,(WantG.bind w).mono fun v1 H1 zz=>ex34 zz fun μ1 S1 d1 x1 s1 r1 w1=>
  ⟨F,μ1,ρ,S1,s1,en.mono x1,(WantG.bind w1).mono fun vs H2 zz=>ex34 zz fun μ2 S2 ds x2 s2 r2 w2=>w2 μ2 H2 _ .refl s2 (.cons (Rep.mono x2 _ _ r1) r2)⟩⟩
end
end Py
end
section
namespace Py
open PySem PySem.Spec PyProof.Rows L2
theorem b0L':∀{cs:List CE} {N:List Str} {es:List Expr},(emL cs N es).length=cs.length
 | [],N,es=>rfl
 |c::cs,N,es=>congrArg Nat.succ (b0L' (cs:=cs) (N:=N) (es:=es.tail))
theorem a2h':∀{cs:List CE} {N:List Str} {sc:Sc} {es:List Expr},sdL cs N sc es=true→∀e∈emL cs N es,a0Z' e=true
 | [],N,sc,es,h,e,he=>absurd he List.not_mem_nil
 |c::cs,N,sc,es,h,e,he=>by
  rcases Zn.mp he with rfl|he
  ·exact(andB (andB h).2).1
  ·exact a2h' (andB (andB h).2).2 e he
theorem a4p':∀{es:List Expr} {env:Env} {pos:Pos},(∀e∈es,a0Z' e=true)→(backTo pos (starEach es env)).any (·.1)=false
 | [],env,pos,h=>rfl
 |e::es,env,pos,h=>by
  rw[a0D' (h e Zb)]
  show(false||(backTo pos (starEach es env)).any (·.1))=false
  rw[a4p' fun e he=>h e (Za _ he)]
  rfl
theorem b0M':∀{es:List Expr} {env:Env} {pos:Pos},(∀e∈es,a0Z' e=true)→(backTo pos (starEach es env)).all (fun x=> !x.1)=true
 | [],env,pos,h=>rfl
 |e::es,env,pos,h=>by
  rw[a0D' (h e Zb)]
  show(!false&&(backTo pos (starEach es env)).all (fun x=> !x.1))=true
  rw[b0M' fun e he=>h e (Za _ he)]
  rfl
section
variable {Φ:FT}{Γ:Str→Option D}
theorem a7X':∀{cs:List CE} {ρ:Rho} {S S':Store} {ds:List D},denL Φ Γ cs ρ S=.ok ds S'→ds.length=cs.length
 | [],ρ,S,S',ds,h=>by unfold denL at h;cases h;rfl
 |c::cs,ρ,S,S',ds,h=>by
  unfold denL at h
  cases e:den Φ Γ c ρ S with
  |ok d S1=>
   rw[e]at h
   cases e2:denL Φ Γ cs ρ S1 with
   |ok ds1 S2=>
    simp only[Res.bind,e2]at h
    cases h
    simp[a7X' e2]
   |err x S2=>simp only[Res.bind,e2]at h;cases h
   |fail=>simp only[Res.bind,e2]at h;cases h
  |err x S1=>rw[e]at h;cases h
  |fail=>rw[e]at h;cases h
end
theorem b2C'{sc:Sc}{x:Str}{s:Scope}(hs:s.names=sc)(h:visB sc x=true):Vis s x:=by
 unfold Vis
 rw[hs]
 unfold visB at h
 split at h<;>simp_all
theorem a5t'{x:Str}(h:b2z' x=true):(x==("__debug__":Str))=false∧(x==("__classdict__":Str))=false:=by
 unfold b2z' at h
 simp only[Zr,Bool.not_eq_true']at h
 exact h
theorem a1i'{sc:Sc}{x:Str}(h:gloB sc x=true):sc.lookup x=some .globalImplicit∧(x==("__debug__":Str))=false∧x≠"__name__":=by
 unfold gloB at h
 simp only[Zr,Bool.not_eq_true',Yb]at h
 refine⟨h.1.1,h.1.2,fun z=>?_⟩
 subst z
 exact absurd h.2 (by decide)
section
variable {X:Cx}{E:XK}{CX:CXT}{Φ:FT}{Γ:Str→Option D}{N:List Str}{sc:Sc}{k:Nat}{cell:Str→Bool}{l r e:Expr}{es:List Expr}{pos p2:Pos}{a b c:CE}{cs:List CE}{x:Str}
theorem XOk.gl(O:XOk X cell N sc CX E Φ Γ k)(h:sc.lookup x=some .globalImplicit):Gl X x:=by
 show X.env.scope.names.lookup x=_
 rw[O.sc];exact h
theorem s_var(O:XOk X cell N sc CX E Φ Γ k){i:Nat}(h1:(N[i]?==some x)=true)(h2:visB sc x=true)(h3:b2z' x=true):PE X (.Name x pos) (tE X.K X.mg E Φ Γ (.var i)):=by
 refine weakE (pe_var (i:=i) (by rw[O.n];simpa using h1) (b2C' O.sc h2) (a5t' h3).1 (a5t' h3).2) fun σ H Q zz=>ex43 zz fun F μ ρ S sk en w=>?_
 simp only[den]at w
 split at w
 ·rename_i d e
  obtain⟨v,e1,r1⟩:=en.2 i d e
  exact⟨v,e1,w μ H v .refl sk r1⟩
 ·exact w.elim
theorem s_lit{d:D}{cn:Const}{j}(h:litIs d cn=true):PE X (.Constant cn j pos) (tE X.K X.mg E Φ Γ (.lit d)):=by
 unfold litIs at h
 split at h
 ·exact weakE pe_non fun σ H Q zz=>ex43 zz fun F μ ρ S sk en w=>w μ H _ .refl sk b0v'
 ·have e:=(Yb).mp h
  subst e
  exact weakE pe_bl fun σ H Q zz=>ex43 zz fun F μ ρ S sk en w=>w μ H _ .refl sk repBl
 ·have e:=(Yb).mp h
  subst e
  exact weakE pe_int fun σ H Q zz=>ex43 zz fun F μ ρ S sk en w=>w μ H _ .refl sk a1h'
 ·have e:=(Yb).mp h
  subst e
  exact weakE pe_str fun σ H Q zz=>ex43 zz fun F μ ρ S sk en w=>w μ H _ .refl sk repStr
 ·cases h
theorem s_glob(O:XOk X cell N sc CX E Φ Γ k)(h:gloB sc x=true):PE X (.Name x pos) (tE X.K X.mg E Φ Γ (.glob x)):=by
 obtain⟨h1,h2,h3⟩:=a1i' h
 cases e:Γ x with
 |none=>
  intro pins s σ H Q I ⟨F,μ,ρ,S,sk,en,w⟩
  simp only[den]at w
  rw[e]at w
  exact w.elim
 |some d=>
  obtain⟨v,u,m1,m2,m3⟩:=O.mod.gl x d e
  refine weakE (pe_glob (O.gl h1) m1 m2 h2) fun σ H Q zz=>ex43 zz fun F μ ρ S sk en w=>?_
  simp only[den]at w
  rw[e]at w
  exact w μ H v .refl sk (m3 F μ H)
theorem tyN_blt{n:String}(h:a5r'.contains n=true):(Str.ofString n)∈a2g':=by
 simp[a5r']at h
 rcases h with rfl|rfl|rfl|rfl|rfl|rfl<;>decide+kernel
theorem s_ty(O:XOk X cell N sc CX E Φ Γ k){n:String}(h:gloB sc (Str.ofString n)=true)(h2:a5r'.contains n=true):PE X (.Name (Str.ofString n) pos) (tE X.K X.mg E Φ Γ (.ty n)):=by
 obtain⟨h1,h3,h4⟩:=a1i' h
 refine weakE (pe_bltn (v:=.ty n) (O.gl h1) (O.mod.bl _ (tyN_blt h2)) (ty_boot h2) rfl h4 h3) fun σ H Q zz=>ex43 zz fun F μ ρ S sk en w=>?_
 exact w μ H (.ty n) .refl sk (by unfold Rep;rfl)
theorem len_of{K:PySem.W.Frag}{mg:GS}{μ:List Addr}{H:Hp}{Q:List V→Hp→Prop}{ρ:Rho}{S:Store}(hl:cs.length<1000)(w:WantG K mg E (RepL K mg) μ H Q (denL Φ Γ cs ρ S)):WantG K mg E (RepL K mg) μ H (fun vs H'=>vs.length≤sizeLine∧Q vs H') (denL Φ Γ cs ρ S):=by
 cases e:denL Φ Γ cs ρ S with
 |ok ds S'=>
  rw[e]at w
  intro μ' H' vs x s r
  refine⟨?_,w μ' H' vs x s r⟩
  rw[←r.length,a7X' e]
  exact Nat.le_of_lt (ZK hl (by decide))
 |err y S'=>rw[e]at w;exact w
 |fail=>rw[e]at w;exact w
theorem s_tup{x1}(hl:cs.length<1000)(h:PA X es (tL X.K X.mg E Φ Γ cs)):PE X (.Tuple es x1 pos) (tE X.K X.mg E Φ Γ (.tup cs)):=
 weakE (pe_tup h) fun σ H Q zz=>ex43 zz fun F μ ρ S sk en w=>⟨F,μ,ρ,S,sk,en,(len_of hl (WantG.bind w)).mono fun vs H1 ⟨hz,μ1,S1,ds,x1,s1,r1,w1⟩=>⟨hz,fun p hp=>by
  exact Want.tup (show Want X.K ⟨X.mg,F⟩ μ1 H1 Q (.ok (.tup ds) S1)from w1) s1 r1 p hp⟩⟩
theorem s_lst{box:Bool}(hl:cs.length<1000)(h:PA X es (tL X.K X.mg E Φ Γ cs)):PE X (.List es pos) (tE X.K X.mg E Φ Γ (.lst box cs)):=
 weakE (pe_lst h) fun σ H Q zz=>ex43 zz fun F μ ρ S sk en w=>⟨F,μ,ρ,S,sk,en,(len_of hl (WantG.bind w)).mono fun vs H1 ⟨hz,μ1,S1,ds,x1,s1,r1,w1⟩=>⟨hz,fun p hp=>by
  cases box with
  |true=>exact Want.box (show Want X.K ⟨X.mg,F⟩ μ1 H1 Q (.ok (.ref S1.length) (S1++[ds]))from w1) s1 r1 p hp
  |false=>exact Want.lst (show Want X.K ⟨X.mg,F⟩ μ1 H1 Q (.ok (.lst ds) S1)from w1) s1 r1 p hp⟩⟩
theorem s_dct:PE X (.Dict [] [] pos) (tE X.K X.mg E Φ Γ .dct):=fun pins s σ H Q I zz=>ex43 zz fun F μ ρ S sk en w=>by
 have hlt:mainGlobals<s.heap.objs.size:=ZK I.mod.glob.lt (ZL I.ok.bsz I.sz)
 have hp:H s.heap.objs.size=none:=I.hok.fresh (Zj _)
 refine wpAny_Dict_empty ⟨.ref s.heap.objs.size,upd H s.heap.objs.size (.dK []),I.laid (t':=s.toks) (o:=.dK []) (fun b ob q=>Zd _ q) (Zj _) ?_,rfl,?_⟩
 ·refine⟨Nat.zero_le _,?_,[],.nil,_, #[],_,Zt _ rfl,⟨rfl,rfl,rfl⟩,rfl,fun e he=>by simp at he,.nil,.nil⟩
  have h3:mainGlobals=3:=rfl
  have h1:sysModules=1:=rfl
  rw[beq_eq_false_iff_ne]
  intro z
  rw[z,h1,h3]at hlt
  exact absurd hlt (by decide)
 ·exact w μ _ _ (.laid hp) (sk.laid hp) (by unfold Rep;exact⟨_,rfl,a0N'⟩)
theorem s_idx(hs:a3I' r=true)(ha:PE X l (tE X.K X.mg E Φ Γ a))(hb:PE X r (tE X.K X.mg E Φ Γ b)):PE X (.Subscript l r pos) (tE X.K X.mg E Φ Γ (.idx a b)):=
 weakE (pe_ix ix_D ha hb (b4I' hs)) fun σ H Q zz=>ex43 zz fun F μ ρ S sk en w=>
  ⟨F,μ,ρ,S,sk,en,(WantG.bind w).mono fun v1 H1 zz=>ex34 zz fun μ1 S1 d1 x1 s1 r1 w1=>⟨F,μ1,ρ,S1,s1,en.mono x1,(WantG.bind w1).mono fun v2 H2 zz=>ex34 zz fun μ2 S2 d2 x2 s2 r2 w2=>⟨F,μ2,S2,d1,d2,s2,Rep.mono x2 _ _ r1,r2,a1w' w2⟩⟩⟩
theorem s_odd{m:Expr}(ha:PE X l (tE X.K X.mg E Φ Γ a))(hb:PE X r (tE X.K X.mg E Φ Γ b))(hc:PE X m (tE X.K X.mg E Φ Γ c)):PE X (.Subscript l (.Slice (some r) none (some m) p2) pos) (tE X.K X.mg E Φ Γ (.odd a b c)):=
 weakE (pe_odd ha hb hc) fun σ H Q zz=>ex43 zz fun F μ ρ S sk en w=>
  ⟨F,μ,ρ,S,sk,en,(WantG.bind w).mono fun v1 H1 zz=>ex34 zz fun μ1 S1 d1 x1 s1 r1 w1=>⟨F,μ1,ρ,S1,s1,en.mono x1,(WantG.bind w1).mono fun v2 H2 zz=>ex34 zz fun μ2 S2 d2 x2 s2 r2 w2=>⟨F,μ2,ρ,S2,s2,(en.mono x1).mono x2,(WantG.bind w2).mono fun v3 H3 zz=>ex34 zz fun μ3 S3 d3 x3 s3 r3 w3=>⟨F,μ3,S3,d1,d2,d3,s3,Rep.mono x3 _ _ (Rep.mono x2 _ _ r1),Rep.mono x3 _ _ r2,r3,a1w' w3⟩⟩⟩⟩
def tPt(K:PySem.W.Frag)(mg:Str→Option Value)(E:XK)(Φ:FT)(Γ:Str→Option D)(cs:List CE):TO:=fun σ H Q=>∃F μ ρ S,SOk K ⟨mg,F⟩ μ S H∧EnvR K ⟨mg,F⟩ μ H ρ σ∧
 WantG K ⟨mg,F⟩ E (fun _ _ o o'=>o=o') μ H Q ((denL Φ Γ cs ρ S).bind optL)
theorem s_part0:PO X none (tPt X.K X.mg E Φ Γ []):=by
 intro pins s σ H Q I ⟨F,μ,ρ,S,sk,en,w⟩
 exact po_none pins s σ H Q I (w μ H none .refl sk rfl)
theorem s_part1(ha:PE X e (tE X.K X.mg E Φ Γ a)):PO X (some e) (tPt X.K X.mg E Φ Γ [a]):=by
 intro pins s σ H Q I ⟨F,μ,ρ,S,sk,en,w⟩
 refine po_some ha pins s σ H Q I ⟨F,μ,ρ,S,sk,en,?_⟩
 have w':WantG X.K ⟨X.mg,F⟩ E (fun _ _ o o'=>o=o') μ H Q ((den Φ Γ a ρ S).bind fun d S1=>optL [d] S1):=by
  have e1:(denL Φ Γ [a] ρ S).bind optL=(den Φ Γ a ρ S).bind fun d S1=>optL [d] S1:=by
   rw[denL]
   cases den Φ Γ a ρ S<;>rfl
  rw[←e1];exact w
 refine(WantG.bind w').mono fun v H1 zz=>ex34 zz fun μ1 S1 d x1 s1 r1 w1=>?_
 cases d with
 |int i=>exact⟨i,a0e' r1,w1 μ1 H1 (some i) .refl s1 rfl⟩
 |_=>exact w1.elim
theorem s_sl{lo hi:Option Expr}{cl ch:List CE}(ha:PE X l (tE X.K X.mg E Φ Γ a))(hl:PO X lo (tPt X.K X.mg E Φ Γ cl))(hh:PO X hi (tPt X.K X.mg E Φ Γ ch)):PE X (.Subscript l (.Slice lo hi none p2) pos) (tE X.K X.mg E Φ Γ (.sl a cl ch)):=
 weakE (b4r' sl_D ha hl hh) fun σ H Q zz=>ex43 zz fun F μ ρ S sk en w=>⟨F,μ,ρ,S,sk,en,(WantG.bind w).mono fun v1 H1 zz=>ex34 zz fun μ1 S1 d1 x1 s1 r1 w1=>⟨F,μ1,ρ,S1,s1,en.mono x1,
  (WantG.bind w1).mono fun o H2 zz=>ex34 zz fun μ2 S2 o' x2 s2 e2 w2=>⟨F,μ2,ρ,S2,s2,(en.mono x1).mono x2,(WantG.bind w2).mono fun o2 H3 zz=>ex34 zz fun μ3 S3 o2' x3 s3 e3 w3=>by
   subst e2;subst e3
   exact⟨F,μ3,S3,d1,s3,Rep.mono (x2.trans x3) _ _ r1,a1w' w3⟩⟩⟩⟩
theorem s_call(O:XOk X cell N sc CX E Φ Γ k){f:Str}(h:gloB sc f=true)(hst:∀x∈e::es,a0Z' x=true)(ha:PA X (e::es) (tL X.K X.mg E Φ Γ cs)):PE X (.Call (.Name f p2) (e::es) [] pos) (tE X.K X.mg E Φ Γ (.call f cs)):=by
 obtain⟨h1,h2,h3⟩:=a1i' h
 cases ef:Φ f with
 |none=>
  intro pins s σ H Q I ⟨F,μ,ρ,S,sk,en,w⟩
  simp only[den]at w
  rw[ef]at w
  exact w.elim
 |some φ=>
  obtain⟨fa,fd,ps,m1,m2,m3,m4,m5⟩:=(O.mod.fns f φ ef).ex
  refine weakE (pe_call (E:=E) m4 O.room (O.gl h1) m1 m2 m3 .nil O.pass ha h2 (a0D' (hst e Zb)) (a4p' fun x hx=>hst x (Za _ hx))) fun σ H Q zz=>ex43 zz fun F μ ρ S sk en w=>?_
  simp only[den]at w
  rw[ef]at w
  refine⟨F,μ,ρ,S,sk,en,(WantG.bind w).mono fun vs H1 zz=>ex34 zz fun μ1 S1 ds x1 s1 r1 w1=>?_⟩
  rw[List.append_nil]
  refine⟨?_,F,μ1,S1,ds,s1,r1,w1⟩
  rw[←r1.length]
  exact m5 ds S1 fun z=>by rw[z]at w1;exact w1
theorem s_blt(O:XOk X cell N sc CX E Φ Γ k){b:Blt}(hb:CallR X (bltIs b) (rC X.K X.mg (bltD b)))(h:gloB sc (a4C' b)=true)(hst:∀x∈e::es,a0Z' x=true)(ha:PA X (e::es) (tL X.K X.mg E Φ Γ cs)):PE X (.Call (.Name (a4C' b) p2) (e::es) [] pos) (tE X.K X.mg E Φ Γ (.blt b cs)):=by
 obtain⟨h1,h2,h3⟩:=a1i' h
 have hm:X.mg (a4C' b)=none:=O.mod.bl _ (by
  cases b with
  |list box=>show(Str.ofString "list")∈a2g';decide+kernel
  |sorted box t=>show(Str.ofString "sorted")∈a2g';decide+kernel
  |_=>decide+kernel)
 have key:PE X (.Call (.Name (a4C' b) p2) (e::es) [] pos) (tCB (rC X.K X.mg (bltD b)) (tL X.K X.mg E Φ Γ cs)):=by
  have s1:=a0D' (env:=X.env) (es:=es) (hst e Zb)
  have s2:=a4p' (env:=X.env) (pos:=pos) fun x hx=>hst x (Za _ hx)
  have hv:=b4H' b
  cases b with
  |tuple=>exact a4n' hb (O.gl h1) hm hv ha h3 h2 s1 s2
  |list box=>exact a4n' hb (O.gl h1) hm hv ha h3 h2 s1 s2
  |int=>exact a4n' hb (O.gl h1) hm hv ha h3 h2 s1 s2
  |_=>exact b0o' hb (O.gl h1) hm hv ha h3 h2 s1 s2
 refine weakE key fun σ H Q zz=>ex43 zz fun F μ ρ S sk en w=>⟨F,μ,ρ,S,sk,en,(WantG.bind w).mono fun vs H1 zz=>ex34 zz fun μ1 S1 ds x1 s1 r1 w1=>⟨F,μ1,S1,ds,s1,r1,a1w' w1⟩⟩
theorem b0N'{K:PySem.W.Frag}{mg:GS}{μ:List Addr}{H:Hp}{S:Store}{n:Nat}{v:V}(s:SOk K mg μ S H)(r:Rep K mg μ H (.ref n) v):tyV K "list" v H:=by
 unfold Rep at r
 obtain⟨a,rfl,h⟩:=r
 have hl:n<S.length:=by rw[←s.len];exact(Zh.mp h).1
 obtain⟨vs,h1,q⟩:=s.at_ n a _ h (Ze hl)
 exact .inl ⟨rfl,vs,.of h1⟩
def mthId:Mth→String
 | .append=>"list.append"| .extend=>"list.extend"| .pop=>"list.pop"| .count=>"list.count"| .insert=>"list.insert"
theorem mth_ok(m:Mth):MtR X (mthId m) (rM X.K X.mg (methD m)):=by
 cases m with
 |append=>exact b4A'
 |count=>exact fun _ _ _ _ _ _ _ _ _ _ _ _ ⟨_,_,_,_,_,_,_,_,w⟩=>w.elim
 |insert=>exact b4F'
 |extend=>exact fun _ _ _ _ _ _ _ _ _ _ _ _ ⟨_,_,_,_,_,_,_,_,w⟩=>w.elim
 |pop=>
  intro pins s σ H x xs v us Q I rx rs h
  obtain⟨F,μ,S,d,ds,sk,rd,rds,w⟩:=h
  cases ds with
  |nil=>exact pop_D pins s σ H x xs v us Q I rx rs ⟨F,μ,S,d,[],sk,rd,rds,w⟩
  |cons e es=>exact popAt_D pins s σ H x xs v us Q I rx rs ⟨F,μ,S,d,e::es,sk,rd,rds,w⟩
theorem b0O'(m:Mth):Slot "list" (a8K' m) (mthId m):=by
 cases m with
 |append=>exact PySem.F.slot_list_append
 |count=>exact PySem.F.slot_list_count
 |insert=>exact PySem.F.slot_list_insert
 |extend=>exact PySem.F.slot_list_extend
 |pop=>exact PySem.F.slot_list_pop
theorem b0P'(m:Mth):typeOf (.builtin (mthId m))=pure (.type "method_descriptor"):=by
 cases m with
 |append=>exact PySem.F.type_list_append
 |count=>exact PySem.F.type_list_count
 |insert=>exact PySem.F.type_list_insert
 |extend=>exact PySem.F.type_list_extend
 |pop=>exact PySem.F.type_list_pop
theorem s_meth{m:Mth}{o:Expr}{apos:Pos}(hn:isNm o=true)(hl:(apos.endLine==pos.line)=true)(hst:∀x∈es,a0Z' x=true)(hz:es.length<20)(hcs:cs.length=es.length)(ho:PE X o (tE X.K X.mg E Φ Γ a))(ha:PA X es (tL X.K X.mg E Φ Γ cs)):
  PE X (.Call (.Attribute o (a8K' m) apos) es [] pos) (tE X.K X.mg E Φ Γ (.meth m a cs)):=by
 have hbase:attributeBase o (a8K' m) X.env (eval o X.env)=eval o X.env:=by cases o<;>first|rfl|cases hn
 have key:∀{F μ1 S1 H1 ρ d1 Q v1},SOk X.K ⟨X.mg,F⟩ μ1 S1 H1→Rep X.K ⟨X.mg,F⟩ μ1 H1 d1 v1→WantG X.K ⟨X.mg,F⟩ E (Rep X.K ⟨X.mg,F⟩) μ1 H1 Q (match d1 with
   | .ref n=>(denL Φ Γ cs ρ S1).bind fun ds S2=>(methD m (.ref n) ds S2).noErr
   |_=>.fail)→tyV X.K "list" v1 H1∧WantG X.K ⟨X.mg,F⟩ E (RepL X.K ⟨X.mg,F⟩) μ1 H1 (fun vs H2=>rM X.K X.mg (methD m) v1 vs H2 Q) (denL Φ Γ cs ρ S1):=by
  intro F μ1 S1 H1 ρ d1 Q v1 s1 r1 w1
  cases d1 with
  |ref n=>exact⟨b0N' s1 r1,(WantG.bind w1).mono fun vs H2 zz=>ex34 zz fun μ2 S2 ds x2 s2 r2 w2=>⟨F,μ2,S2,_,ds,s2,Rep.mono x2 _ _ r1,r2,a1w' w2⟩⟩
  |_=>exact w1.elim
 cases es with
 |nil=>
  have e:cs=[]:=ZH hcs
  subst e
  refine weakE (pe_bm0 PySem.F.plainAttrs_list (b0O' m) (b0P' m) (mth_ok m) ho hbase hl) fun σ H Q zz=>ex43 zz fun F μ ρ S sk en w=>⟨F,μ,ρ,S,sk,en,(WantG.bind w).mono fun v1 H1 zz=>ex34 zz fun μ1 S1 d1 x1 s1 r1 w1=>?_⟩
  obtain⟨k1,k2⟩:=key s1 r1 w1
  exact⟨k1,k2 μ1 H1 [] .refl s1 .nil⟩
 |cons e es=>
  refine weakE (pe_bm PySem.F.plainAttrs_list (b0O' m) (b0P' m) (mth_ok m) ho ha hbase ?_ hl (a0D' (hst e Zb)) (a4p' fun x hx=>hst x (Za _ hx))) fun σ H Q zz=>ex43 zz fun F μ ρ S sk en w=>⟨F,μ,ρ,S,sk,en,(WantG.bind w).mono fun v1 H1 zz=>ex34 zz fun μ1 S1 d1 x1 s1 r1 w1=>?_⟩
  ·rw[b0M' hst]
   have e1:(backToKw pos (keywordEach [] X.env)).all (fun x=>x.1.isSome)=true:=rfl
   rw[e1]
   simp only[Bool.true_and,decide_eq_true_eq]
   have e2:(if([]:List Keyword).isEmpty then 0 else 1)=0:=rfl
   rw[e2]
   simp only[Z6]
   omega
  ·obtain⟨k1,k2⟩:=key s1 r1 w1
   exact⟨k1,F,μ1,ρ,S1,s1,en.mono x1,k2⟩
end
end Py
end
section
namespace Py
open PySem PySem.Spec PyProof.Rows L2
section
variable {prog:Program}{w:World}{A:Around}{E:Value→Shared→Prop}{s:Shared}
theorem b0Q'{it t:Addr}{i:Nat}{items:Array Value}{x:Value}{Q:Value→Shared→Prop}(hit:s.heap.IsTupleIter it t i)(ht:s.heap.IsTuple t items)(hx:items[i]?=some x)
  (hQ:∀h',h'.IsTupleIter it t (i+1)→Heap.SameBut it s.heap h'→Q x {s with heap:=h'}):wpAny (model prog w) A (Builtin.SmallTypes.nextOf (.ref it)) Q E s:=by
 obtain⟨o,ho,hc,hd⟩:=id hit
 obtain⟨ol,hol,_,nl,hdl⟩:=ht
 unfold Builtin.SmallTypes.nextOf
 refine Zc (wpAny_callSpecial?_slot (name:=Str.ofString "__next__") hit.typeIs F.slot_tuple_iterator_next (wpAny_call_entry F.slot_tuple_iterator_next hit.typeIs F.entry_tuple_iterator_next ?_ (F.args_tuple_iterator_next_1 _)))
 show wpAny _ _ (field (.ref it) 0>>=_) _ _ s
 refine Zc (wpAny_field ho hd (x:=.ref t) rfl ?_)
 show wpAny _ _ (if(Value.ref t==Value.none)=true then _ else _) _ _ s
 rw[if_neg (show ¬((Value.ref t==Value.none)=true)from Z1)]
 show wpAny _ _ (field (.ref it) 1>>=_) _ _ s
 refine Zc (wpAny_field ho hd (x:=.int i 0) rfl ?_)
 show wpAny _ _ (seqItems? (.ref t)>>=_) _ _ s
 refine Zc (wpAny_seqItems hol hdl ?_)
 simp only[Int.toNat_natCast,hx]
 refine Zc (wpAny_setField ho hd (by simp) (Zl ⟨x,rfl,Zl (hQ _ ?_ (Heap.SameBut.update ..))⟩))
 exact⟨_,Heap.get?_update_self _ ho (Obj.isFreed_of_fields (Obj.data_mapFields hd _)),(Obj.cls_mapFields ..).trans hc,by rw[Obj.data_mapFields hd];simp[rawInt]⟩
theorem a8L'{it t:Addr}{i:Nat}{items:Array Value}{Q:Value→Shared→Prop}(hh:A.handled=none)(hit:s.heap.IsTupleIter it t i)(ht:s.heap.IsTuple t items)(hx:items[i]?=none)
  (hE:∀h' e,Heap.ExtBut it s.heap h'→(∃o,h'.get? e=some o∧o.cls=.type "StopIteration")→E (.ref e) {s with heap:=h'}):wpAny (model prog w) A (Builtin.SmallTypes.nextOf (.ref it)) Q E s:=by
 obtain⟨o,ho,hc,hd⟩:=id hit
 obtain⟨ol,hol,_,nl,hdl⟩:=ht
 unfold Builtin.SmallTypes.nextOf
 refine Zc (wpAny_callSpecial?_slot (name:=Str.ofString "__next__") hit.typeIs F.slot_tuple_iterator_next (wpAny_call_entry F.slot_tuple_iterator_next hit.typeIs F.entry_tuple_iterator_next ?_ (F.args_tuple_iterator_next_1 _)))
 show wpAny _ _ (field (.ref it) 0>>=_) _ _ s
 refine Zc (wpAny_field ho hd (x:=.ref t) rfl ?_)
 show wpAny _ _ (if(Value.ref t==Value.none)=true then _ else _) _ _ s
 rw[if_neg (show ¬((Value.ref t==Value.none)=true)from Z1)]
 show wpAny _ _ (field (.ref it) 1>>=_) _ _ s
 refine Zc (wpAny_field ho hd (x:=.int i 0) rfl ?_)
 show wpAny _ _ (seqItems? (.ref t)>>=_) _ _ s
 refine Zc (wpAny_seqItems hol hdl ?_)
 simp only[Int.toNat_natCast,hx]
 refine Zc (wpAny_rule (Zc (wpAny_setField ho hd (by simp) ?_)))
 show wpAny _ _ (newExc (.type "StopIteration") []>>=_) _ _ _
 refine Zc ?_
 simp only[newExc,newTuple]
 refine Zc (wpAny_newObj_type ?_ (by size_fits))
 refine Zc (m:=firstArgMember _ _) (wpAny_of_eq (a:=Value.none) (by first|rfl| (simp only[firstArgMember];rfl)) ?_)
 refine wpAny_newObj_type ?_ (by size_fits)
 simp only[raiseNew]
 refine Zc (wpAny_handled ?_)
 first|rw[show A.in1.handled=none from hh]|rw[hh]
 refine Zc (Zl (wpAny_throw ?_))
 exact hE _ _ (((Heap.SameBut.update ..).extBut.push _).push _) ⟨_,Zt _ rfl,rfl⟩
end
def IsSq(b:Bool)(h:Heap)(l:Addr)(xs:Array Value):Prop:=match b with
 |true=>h.IsList l xs
 |false=>h.IsTuple l xs
def IsIt(b:Bool)(h:Heap)(it l:Addr)(i:Nat):Prop:=match b with
 |true=>h.IsListIter it l i
 |false=>h.IsTupleIter it l i
theorem IsSq.at{b:Bool}{h h':Heap}{l:Addr}{xs:Array Value}(q:IsSq b h l xs)(k:∀o,h.get? l=some o→h'.get? l=some o):IsSq b h' l xs:=by
 cases b with
 |true=>exact Heap.IsList.at q k
 |false=>obtain⟨o,e,r⟩:=q;exact⟨o,k o e,r⟩
theorem IsIt.at{b:Bool}{h h':Heap}{it l:Addr}{i:Nat}(q:IsIt b h it l i)(k:∀o,h.get? it=some o→h'.get? it=some o):IsIt b h' it l i:=by
 cases b with
 |true=>exact Heap.IsListIter.at q k
 |false=>exact Heap.IsTupleIter.at q k
theorem IsIt.obj{b:Bool}{h:Heap}{it l:Addr}{i:Nat}(q:IsIt b h it l i):∃o,h.get? it=some o∧∀v,o.data≠.cell v:=by
 cases b with
 |true=>obtain⟨o,e,c,d⟩:=q;exact⟨o,e,fun v z=>by rw[d]at z;cases z⟩
 |false=>obtain⟨o,e,c,d⟩:=q;exact⟨o,e,fun v z=>by rw[d]at z;cases z⟩
theorem draws{prog:Program}{w:World}{A:Around}(hh:A.handled=none)(b:Bool)(it l:Addr)(hne:l≠it)(items:Array Value):
  Draws prog w A it [it,l] items.size (fun i v=>items[i]?=some v) (fun i h=>IsIt b h it l i∧IsSq b h l items):=by
 cases b with
 |true=>exact Draws.list hh it l hne items
 |false=>exact{
   live:=fun _ _ st=>let⟨o,ho,_⟩:=st.1;⟨o,ho⟩
   frame:=fun _ _ _ st hk=>⟨st.1.at fun o e=>hk it (by simp) o e,st.2.at fun o e=>hk l (by simp) o e⟩
   item:=fun i s Q E hi st hQ=>by
    refine b0Q' st.1 st.2 (x:=items[i]) (by simp[hi]) fun h' hit' hs'=>?_
    exact hQ _ h' s.toks (by simp[hi]) ⟨hit',st.2.at fun o e=>hs'.extBut _ _ hne e⟩ hs'
   done:=fun s Q E st hE=>a8L' hh st.1 st.2 (by simp) hE}
end Py
end
section
namespace Py
open PySem PySem.Spec PyProof.Rows L2
structure ZApart (z TI TO i1 i2 l1 l2:Addr):Prop where
 TIz:TI≠z
 TOz:TO≠z
 i1z:i1≠z
 i2z:i2≠z
 TITO:TI≠TO
 TIi1:TI≠i1
 TIi2:TI≠i2
 TOi1:TO≠i1
 TOi2:TO≠i2
 i12:i1≠i2
 l1:l1≠z∧l1≠TO∧l1≠i1∧l1≠i2
 l2:l2≠z∧l2≠TO∧l2≠i1∧l2≠i2
theorem a6M'{prog:Program}{w:World}{A:Around}{E:Value→Shared→Prop}{s:Shared}{b:Bool}{it t:Addr}{i:Nat}{items:Array Value}{Q:Value→Shared→Prop}(hh:A.handled=none)(hit:IsIt b s.heap it t i)(ht:IsSq b s.heap t items)(hx:items[i]?=none)
  (hE:∀h' e,Heap.ExtBut it s.heap h'→(∃o,h'.get? e=some o∧o.cls=.type "StopIteration")→E (.ref e) {s with heap:=h'}):wpAny (model prog w) A (Builtin.SmallTypes.nextOf (.ref it)) Q E s:=by
 cases b with
 |true=>exact wpAny_nextOf_list_end hh hit ht hx hE
 |false=>exact a8L' hh hit ht hx hE
section
variable {prog:Program}{w:World}{A:Around}{E:Value→Shared→Prop}{s:Shared}{b1 b2:Bool}{z TI TO i1 i2 l1 l2:Addr}{k1 k2:Nat}{xs ys:Array Value}{a b:Value}
theorem zip_go(D:ZApart z TI TO i1 i2 l1 l2)(hh:A.handled=none){x y:Value}{Q:Value→Shared→Prop}
  (hz:IsZip s.heap z TI TO .none) (hTI:IsPair s.heap TI (.ref i1) (.ref i2)) (hTO:IsPair s.heap TO a b)
  (h1:IsIt b1 s.heap i1 l1 k1) (h2:IsIt b2 s.heap i2 l2 k2) (hl1:IsSq b1 s.heap l1 xs) (hl2:IsSq b2 s.heap l2 ys) (hx:xs[k1]?=some x) (hy:ys[k2]?=some y)
  (hQ:∀h',IsZip h' z TI TO (rawInt s.heap.objs.size)→IsPair h' TO x y→IsIt b1 h' i1 l1 (k1+1)→IsIt b2 h' i2 l2 (k2+1)→IsPair h' s.heap.objs.size x y→h'.objs.size=s.heap.objs.size+1→
   (∀c o,c≠z→c≠TO→c≠i1→c≠i2→s.heap.get? c=some o→h'.get? c=some o)→∀tk,Q (.ref s.heap.objs.size) {s with heap:=h',toks:=tk}):
  wpAny (model prog w) A (Builtin.«zip.__next__» ⟨[.ref z],[]⟩) (fun fin s'=>∃v,fin=.done (.ret v)∧Q v s') E s:=by
 have D1:=draws (prog:=prog) (w:=w) (A:=A) hh b1 i1 l1 D.l1.2.2.1 xs
 have D2:=draws (prog:=prog) (w:=w) (A:=A) hh b2 i2 l2 D.l2.2.2.2 ys
 have n1:k1<xs.size:=(Array.getElem?_eq_some_iff.mp hx).1
 have n2:k2<ys.size:=(Array.getElem?_eq_some_iff.mp hy).1
 show wpAny _ _ (field (.ref z) 2>>=_) _ _ _
 refine Zc (wpAny_field hz rfl (x:=.bool false) rfl ?_)
 show wpAny _ _ (field (.ref z) 3>>=_) _ _ _
 refine Zc (wpAny_field hz rfl (x:=.ref TI) rfl ?_)
 refine Zc (wpAny_seqItems hTI rfl ?_)
 show wpAny _ _ (Builtin.SmallTypes.ownedTupleIsFree (.ref z)>>=_) _ _ _
 refine Zc ?_
 unfold Builtin.SmallTypes.ownedTupleIsFree
 refine Zc (wpAny_field hz rfl (x:=.none) rfl (Zl ?_))
 simp only[if_true]
 refine Zc (wpAny_rule ?_)
 refine Zc (wpAny_field hz rfl (x:=.ref TO) rfl ?_)
 refine Zc (wpAny_setField_rec hz (by simp) fun h₁ hz₁ hs₁=>?_)
 replace hz₁:IsZip h₁ z TI TO .ellipsis:=hz₁
 refine Zc ?_
 simp only[List.zipIdx_cons,List.zipIdx_nil,List.forIn_cons,List.forIn_nil]
 refine Zc (Zc (wpAny_onRaise ?_))
 show wpAny _ _ (Builtin.SmallTypes.nextOf (.ref i1)>>=_) _ _ _
 refine Zc (D1.item k1 _ _ _ n1 ⟨h1.at fun o e=>hs₁.extBut _ _ D.i1z e,hl1.at fun o e=>hs₁.extBut _ _ D.l1.1 e⟩ fun x' h₂ tk hx' st₂ hs₂=>Zl ?_)
 rw[hx]at hx'
 cases hx'
 have hTO₂:IsPair h₂ TO a b:=hs₂.extBut _ _ D.TOi1 (hs₁.extBut _ _ D.TOz hTO)
 refine Zc (wpAny_seqItems hTO₂ rfl ?_)
 refine Zc (wpAny_updateSeq_pair hTO₂ fun h₃ hTO₃ hs₃=>?_)
 replace hTO₃:IsPair h₃ TO x b:=hTO₃
 refine Zc (wpAny_letGo (Zl ?_))
 refine Zc (Zc (wpAny_onRaise ?_))
 show wpAny _ _ (Builtin.SmallTypes.nextOf (.ref i2)>>=_) _ _ _
 refine Zc (D2.item k2 _ _ _ n2 ⟨h2.at fun o e=>hs₃.extBut _ _ D.TOi2.symm (hs₂.extBut _ _ D.i12.symm (hs₁.extBut _ _ D.i2z e)),hl2.at fun o e=>hs₃.extBut _ _ D.l2.2.1 (hs₂.extBut _ _ D.l2.2.2.1 (hs₁.extBut _ _ D.l2.1 e))⟩ fun y' h₄ tk2 hy' st₄ hs₄=>Zl ?_)
 rw[hy]at hy'
 cases hy'
 have hTO₄:IsPair h₄ TO x b:=hs₄.extBut _ _ D.TOi2 hTO₃
 refine Zc (wpAny_seqItems hTO₄ rfl ?_)
 refine Zc (wpAny_updateSeq_pair hTO₄ fun h₅ hTO₅ hs₅=>?_)
 replace hTO₅:IsPair h₅ TO x y:=hTO₅
 refine Zc (wpAny_letGo (Zl (Zl ?_)))
 refine Zc (wpAny_seqItems hTO₅ rfl ?_)
 refine Zc (wpAny_newTuple ?_)
 have hsz:h₅.objs.size=s.heap.objs.size:=by rw[hs₅.1,hs₄.1,hs₃.1,hs₂.1,hs₁.1]
 have hz₅:IsZip h₅ z TI TO .ellipsis:=hs₅.extBut _ _ D.TOz.symm (hs₄.extBut _ _ D.i2z.symm (hs₃.extBut _ _ D.TOz.symm (hs₂.extBut _ _ D.i1z.symm hz₁)))
 have hk₅:∀c o,c≠z→c≠TO→c≠i1→c≠i2→s.heap.get? c=some o→h₅.get? c=some o:=fun c o c1 c2 c3 c4 e=>hs₅.extBut _ _ c2 (hs₄.extBut _ _ c4 (hs₃.extBut _ _ c2 (hs₂.extBut _ _ c3 (hs₁.extBut _ _ c1 e))))
 have g1:IsIt b1 h₅ i1 l1 (k1+1):=st₂.1.at fun o e=>hs₅.extBut _ _ D.TOi1.symm (hs₄.extBut _ _ D.i12 (hs₃.extBut _ _ D.TOi1.symm e))
 have g2:IsIt b2 h₅ i2 l2 (k2+1):=st₄.1.at fun o e=>hs₅.extBut _ _ D.TOi2.symm e
 have hzlt:z<h₅.objs.size:=Zq hz₅
 show wpAny _ _ (Builtin.SmallTypes.ownedTupleHandOut (.ref z) (.ref h₅.objs.size)>>=_) _ _ _
 refine Zc ?_
 unfold Builtin.SmallTypes.ownedTupleHandOut
 have hz₆:IsZip (h₅.push {cls:=.type "tuple",data:=.seq #[x,y]}) z TI TO .ellipsis:=Zd _ hz₅
 refine Zc (wpAny_setField_rec hz₆ (by simp) fun h₇ hz₇ hs₇=>?_)
 replace hz₇:IsZip h₇ z TI TO (rawInt h₅.objs.size):=hz₇
 refine wpAny_setField_rec hz₇ (by simp) fun h₈ hz₈ hs₈=>?_
 replace hz₈:IsZip h₈ z TI TO (rawInt h₅.objs.size):=hz₈
 have up:∀c o,c≠z→h₅.get? c=some o→h₈.get? c=some o:=fun c o c1 e=>hs₈.extBut _ _ c1 (hs₇.extBut _ _ c1 (Zd _ e))
 have hT₈:IsPair h₈ h₅.objs.size x y:=hs₈.extBut _ _ (Nat.ne_of_gt hzlt) (hs₇.extBut _ _ (Nat.ne_of_gt hzlt) (Zt _ rfl))
 have hz8:h₈.objs.size=h₅.objs.size+1:=by rw[hs₈.1,hs₇.1,Heap.size_push]
 rw[hsz]at hz₈ hT₈ hz8
 refine Zl ⟨_,rfl,?_⟩
 show Q (.ref h₅.objs.size) _
 rw[hsz]
 exact hQ h₈ hz₈ (up _ _ D.TOz hTO₅) (g1.at fun o e=>up _ o D.i1z e) (g2.at fun o e=>up _ o D.i2z e) hT₈ hz8 (fun c o c1 c2 c3 c4 e=>up c o c1 (hk₅ c o c1 c2 c3 c4 e)) _
theorem b4K'(D:ZApart z TI TO i1 i2 l1 l2)(hh:A.handled=none){Q:Fin→Shared→Prop}
  (hz:IsZip s.heap z TI TO .none) (hTI:IsPair s.heap TI (.ref i1) (.ref i2)) (hTO:IsPair s.heap TO a b)
  (h1:IsIt b1 s.heap i1 l1 k1) (h2:IsIt b2 s.heap i2 l2 k2) (hl1:IsSq b1 s.heap l1 xs) (hl2:IsSq b2 s.heap l2 ys) (hend:xs[k1]?=none∨ys[k2]?=none)
  (hE:∀h' e tk,(∀c o,c≠z→c≠TO→c≠i1→c≠i2→s.heap.get? c=some o→h'.get? c=some o)→(∃o,h'.get? e=some o∧o.cls=.type "StopIteration")→E (.ref e) {s with heap:=h',toks:=tk}):
  wpAny (model prog w) A (Builtin.«zip.__next__» ⟨[.ref z],[]⟩) Q E s:=by
 have D1:=draws (prog:=prog) (w:=w) (A:=A) hh b1 i1 l1 D.l1.2.2.1 xs
 have D2:=draws (prog:=prog) (w:=w) (A:=A) hh b2 i2 l2 D.l2.2.2.2 ys
 show wpAny _ _ (field (.ref z) 2>>=_) _ _ _
 refine Zc (wpAny_field hz rfl (x:=.bool false) rfl ?_)
 show wpAny _ _ (field (.ref z) 3>>=_) _ _ _
 refine Zc (wpAny_field hz rfl (x:=.ref TI) rfl ?_)
 refine Zc (wpAny_seqItems hTI rfl ?_)
 show wpAny _ _ (Builtin.SmallTypes.ownedTupleIsFree (.ref z)>>=_) _ _ _
 refine Zc ?_
 unfold Builtin.SmallTypes.ownedTupleIsFree
 refine Zc (wpAny_field hz rfl (x:=.none) rfl (Zl ?_))
 simp only[if_true]
 refine Zc (wpAny_rule ?_)
 refine Zc (wpAny_field hz rfl (x:=.ref TO) rfl ?_)
 refine Zc (wpAny_setField_rec hz (by simp) fun h₁ hz₁ hs₁=>?_)
 replace hz₁:IsZip h₁ z TI TO .ellipsis:=hz₁
 refine Zc ?_
 simp only[List.zipIdx_cons,List.zipIdx_nil,List.forIn_cons,List.forIn_nil]
 refine Zc (Zc (wpAny_onRaise ?_))
 show wpAny _ _ (Builtin.SmallTypes.nextOf (.ref i1)>>=_) _ _ _
 by_cases n1:k1<xs.size
 ·have hy:ys[k2]?=none:=hend.resolve_left (by simp[n1])
  refine Zc (D1.item k1 _ _ _ n1 ⟨h1.at fun o e=>hs₁.extBut _ _ D.i1z e,hl1.at fun o e=>hs₁.extBut _ _ D.l1.1 e⟩ fun x h₂ tk hx st₂ hs₂=>Zl ?_)
  have hTO₂:IsPair h₂ TO a b:=hs₂.extBut _ _ D.TOi1 (hs₁.extBut _ _ D.TOz hTO)
  refine Zc (wpAny_seqItems hTO₂ rfl ?_)
  refine Zc (wpAny_updateSeq_pair hTO₂ fun h₃ hTO₃ hs₃=>?_)
  refine Zc (wpAny_letGo (Zl ?_))
  refine Zc (Zc (wpAny_onRaise ?_))
  show wpAny _ _ (Builtin.SmallTypes.nextOf (.ref i2)>>=_) _ _ _
  refine Zc (a6M' hh (h2.at fun o e=>hs₃.extBut _ _ D.TOi2.symm (hs₂.extBut _ _ D.i12.symm (hs₁.extBut _ _ D.i2z e))) (hl2.at fun o e=>hs₃.extBut _ _ D.l2.2.1 (hs₂.extBut _ _ D.l2.2.2.1 (hs₁.extBut _ _ D.l2.1 e))) hy fun h₄ e hs₄ he=>?_)
  obtain⟨oe,hoe,hce⟩:=he
  have hz₄:IsZip h₄ z TI TO .ellipsis:=hs₄ _ _ D.i2z.symm (hs₃.extBut _ _ D.TOz.symm (hs₂.extBut _ _ D.i1z.symm hz₁))
  have hez:e≠z:=fun x=>by subst x;rw[hz₄]at hoe;cases hoe;simp at hce
  exact wpAny_setField_rec hz₄ (by simp) fun h₅ _ hs₅=>hE h₅ e _ (fun c o c1 c2 c3 c4 x=>hs₅.extBut _ _ c1 (hs₄ _ _ c4 (hs₃.extBut _ _ c2 (hs₂.extBut _ _ c3 (hs₁.extBut _ _ c1 x))))) ⟨oe,hs₅.extBut _ _ hez hoe,hce⟩
 ·have hx:xs[k1]?=none:=by simp;omega
  refine Zc (a6M' hh (h1.at fun o e=>hs₁.extBut _ _ D.i1z e) (hl1.at fun o e=>hs₁.extBut _ _ D.l1.1 e) hx fun h₂ e hs₂ he=>?_)
  obtain⟨oe,hoe,hce⟩:=he
  have hz₂:IsZip h₂ z TI TO .ellipsis:=hs₂ _ _ D.i1z.symm hz₁
  have hez:e≠z:=fun x=>by subst x;rw[hz₂]at hoe;cases hoe;simp at hce
  exact wpAny_setField_rec hz₂ (by simp) fun h₃ _ hs₃=>hE h₃ e _ (fun c o c1 _ c3 _ x=>hs₃.extBut _ _ c1 (hs₂ _ _ c3 (hs₁.extBut _ _ c1 x))) ⟨oe,hs₃.extBut _ _ hez hoe,hce⟩
theorem a9C'(D:ZApart z TI TO i1 i2 l1 l2)(hh:A.handled=none){x y:Value}{Q:Option Value→Shared→Prop}
  (hz:IsZip s.heap z TI TO .none) (hTI:IsPair s.heap TI (.ref i1) (.ref i2)) (hTO:IsPair s.heap TO a b)
  (h1:IsIt b1 s.heap i1 l1 k1) (h2:IsIt b2 s.heap i2 l2 k2) (hl1:IsSq b1 s.heap l1 xs) (hl2:IsSq b2 s.heap l2 ys) (hx:xs[k1]?=some x) (hy:ys[k2]?=some y)
  (hQ:∀h',IsZip h' z TI TO (rawInt s.heap.objs.size)→IsPair h' TO x y→IsIt b1 h' i1 l1 (k1+1)→IsIt b2 h' i2 l2 (k2+1)→IsPair h' s.heap.objs.size x y→h'.objs.size=s.heap.objs.size+1→
   (∀c o,c≠z→c≠TO→c≠i1→c≠i2→s.heap.get? c=some o→h'.get? c=some o)→∀tk,Q (some (.ref s.heap.objs.size)) {s with heap:=h',toks:=tk}):
  wpAny (model prog w) A (pyNext (.ref z)) Q E s:=by
 have hT:s.TypeIs (.ref z) "zip":=⟨_,hz,rfl⟩
 unfold pyNext
 exact Zc (wpAny_attempt (wpAny_callSpecial?_slot (name:=Str.ofString "__next__") hT F.slot_zip_next
  (wpAny_call_entry F.slot_zip_next hT F.entry_zip_next (zip_go D (show A.in1.handled=none from hh) hz hTI hTO h1 h2 hl1 hl2 hx hy fun h' a1 a2 a3 a4 a5 a6 a7 tk=>Zl (hQ h' a1 a2 a3 a4 a5 a6 a7 tk)) (F.args_zip_next_1 _))))
theorem a6N'(D:ZApart z TI TO i1 i2 l1 l2)(hh:A.handled=none){Q:Option Value→Shared→Prop}
  (hz:IsZip s.heap z TI TO .none) (hTI:IsPair s.heap TI (.ref i1) (.ref i2)) (hTO:IsPair s.heap TO a b)
  (h1:IsIt b1 s.heap i1 l1 k1) (h2:IsIt b2 s.heap i2 l2 k2) (hl1:IsSq b1 s.heap l1 xs) (hl2:IsSq b2 s.heap l2 ys) (hend:xs[k1]?=none∨ys[k2]?=none)
  (hQ:∀h' tk,(∀c o,c≠z→c≠TO→c≠i1→c≠i2→s.heap.get? c=some o→h'.get? c=some o)→Q none {s with heap:=h',toks:=tk}):wpAny (model prog w) A (pyNext (.ref z)) Q E s:=by
 have hT:s.TypeIs (.ref z) "zip":=⟨_,hz,rfl⟩
 unfold pyNext
 refine Zc (wpAny_attempt (wpAny_callSpecial?_slot (name:=Str.ofString "__next__") hT F.slot_zip_next
  (wpAny_call_entry F.slot_zip_next hT F.entry_zip_next (b4K' D (show A.in1.handled=none from hh) hz hTI hTO h1 h2 hl1 hl2 hend fun h' e tk hk he=>?_) (F.args_zip_next_1 _))))
 obtain⟨o,ho,hc⟩:=he
 refine Zc (wpAny_isInstance (T:="StopIteration") (b:=true) ⟨o,ho,hc⟩ isSubtype_stop ?_)
 exact Zl (hQ _ tk hk)
end
end Py
end
section
namespace Py
open PySem PySem.Spec PyProof.Rows L2
def itObj(b:Bool)(l:Addr):Obj:={cls:=.type (match b with|true=>"list_iterator"|false=>"tuple_iterator"),data:=.fields #[.ref l,.int 0 0]}
def zH1(h:Heap)(b1:Bool)(l1:Addr):Heap:=h.push (itObj b1 l1)
def zH2(h:Heap)(b1 b2:Bool)(l1 l2:Addr):Heap:=(zH1 h b1 l1).push (itObj b2 l2)
def zH3(h:Heap)(b1 b2:Bool)(l1 l2:Addr):Heap:=(zH2 h b1 b2 l1 l2).push {cls:=.type "tuple",data:=.seq #[.ref h.objs.size,.ref (zH1 h b1 l1).objs.size]}
def zH4(h:Heap)(b1 b2:Bool)(l1 l2:Addr):Heap:=(zH3 h b1 b2 l1 l2).push {cls:=.type "tuple",data:=.seq #[.none,.none]}
def zH5(h:Heap)(b1 b2:Bool)(l1 l2:Addr):Heap:=(zH4 h b1 b2 l1 l2).push {cls:=.type "zip",data:=.fields #[.none,.bool false,.bool false,.ref (zH2 h b1 b2 l1 l2).objs.size,.ref (zH3 h b1 b2 l1 l2).objs.size]}
theorem zip_new(b1 b2:Bool)(l1 l2:Addr)(xs ys:Array Value):
  Meets (Builtin.«zip.__new__» ⟨[.type "zip",.ref l1,.ref l2],[]⟩) (fun _ R s=>IsSq b1 s.heap l1 xs∧IsSq b2 s.heap l2 ys∧R (.ok (.ret (.ref (zH4 s.heap b1 b2 l1 l2).objs.size))) {s with heap:=zH5 s.heap b1 b2 l1 l2}):=
 .of_wp fun prog w A R s h=>by
  obtain⟨hp,g,d,tk,os⟩:=s;obtain⟨hl1,hl2,h⟩:=h
  have hsub:=sub_zip
  have hL2:IsSq b2 (zH1 hp b1 l1) l2 ys:=hl2.at fun o e=>Zd _ e
  cases b1 with
  |true=>
   have hL1:Heap.IsList (Shared.heap ⟨hp,g,d,tk,os⟩) l1 xs:=hl1
   cases b2 with
   |true=>
    have hL2:Heap.IsList (Shared.heap ⟨hp.push {cls:=.type "list_iterator",data:=.fields #[.ref l1,.int 0 0]},g,d,tk,os⟩) l2 ys:=hL2
    wp_walk using wpAny_pyIter_list hL1,wpAny_pyIter_list hL2
    exact⟨_,rfl,h⟩
   |false=>
    have hL2:Heap.IsTuple (Shared.heap ⟨hp.push {cls:=.type "list_iterator",data:=.fields #[.ref l1,.int 0 0]},g,d,tk,os⟩) l2 ys:=hL2
    wp_walk using wpAny_pyIter_list hL1,wpAny_pyIter_tuple hL2
    exact⟨_,rfl,h⟩
  |false=>
   have hL1:Heap.IsTuple (Shared.heap ⟨hp,g,d,tk,os⟩) l1 xs:=hl1
   cases b2 with
   |true=>
    have hL2:Heap.IsList (Shared.heap ⟨hp.push {cls:=.type "tuple_iterator",data:=.fields #[.ref l1,.int 0 0]},g,d,tk,os⟩) l2 ys:=hL2
    wp_walk using wpAny_pyIter_tuple hL1,wpAny_pyIter_list hL2
    exact⟨_,rfl,h⟩
   |false=>
    have hL2:Heap.IsTuple (Shared.heap ⟨hp.push {cls:=.type "tuple_iterator",data:=.fields #[.ref l1,.int 0 0]},g,d,tk,os⟩) l2 ys:=hL2
    wp_walk using wpAny_pyIter_tuple hL1,wpAny_pyIter_tuple hL2
    exact⟨_,rfl,h⟩
theorem b0R'{b:Bool}{h:Heap}{it l:Addr}(e:h.get? it=some (itObj b l)):IsIt b h it l 0:=by
 cases b with
 |true=>exact⟨_,e,rfl,rfl⟩
 |false=>exact⟨_,e,rfl,rfl⟩
section
variable {prog:Program}{w:World}{A:Around}{E:Value→Shared→Prop}{s:Shared}
theorem b4L'{b1 b2:Bool}{l1 l2:Addr}{xs ys:Array Value}{Q:Value→Shared→Prop}(hl1:IsSq b1 s.heap l1 xs)(hl2:IsSq b2 s.heap l2 ys)
  (h:∀h',IsZip h' (s.heap.objs.size+4) (s.heap.objs.size+2) (s.heap.objs.size+3) .none→IsPair h' (s.heap.objs.size+2) (.ref s.heap.objs.size) (.ref (s.heap.objs.size+1))→
   IsPair h' (s.heap.objs.size+3) .none .none→IsIt b1 h' s.heap.objs.size l1 0→IsIt b2 h' (s.heap.objs.size+1) l2 0→h'.objs.size=s.heap.objs.size+5→
   (∀c o,s.heap.get? c=some o→h'.get? c=some o)→Q (.ref (s.heap.objs.size+4)) {s with heap:=h'}):
  wpAny (model prog w) A (call (.type "zip") [.ref l1,.ref l2]) Q E s:=by
 refine callType_new F.called_zip (by decide) (F.typeCall_zip_2 _ _) (F.newCall_zip_2 _ _) (fun obj=>F.args_object_init_3 obj _ _) F.entry_zip_new (zip_new b1 b2 l1 l2 xs ys) ⟨hl1,hl2,?_⟩
 have z1:(zH1 s.heap b1 l1).objs.size=s.heap.objs.size+1:=Heap.size_push ..
 have z2:(zH2 s.heap b1 b2 l1 l2).objs.size=s.heap.objs.size+2:=by unfold zH2;rw[Heap.size_push,z1]
 have z3:(zH3 s.heap b1 b2 l1 l2).objs.size=s.heap.objs.size+3:=by unfold zH3;rw[Heap.size_push,z2]
 have z4:(zH4 s.heap b1 b2 l1 l2).objs.size=s.heap.objs.size+4:=by unfold zH4;rw[Heap.size_push,z3]
 have z5:(zH5 s.heap b1 b2 l1 l2).objs.size=s.heap.objs.size+5:=by unfold zH5;rw[Heap.size_push,z4]
 have g5:(zH5 s.heap b1 b2 l1 l2).get? (zH4 s.heap b1 b2 l1 l2).objs.size=some _:=Zt _ rfl
 have g4:(zH5 s.heap b1 b2 l1 l2).get? (zH3 s.heap b1 b2 l1 l2).objs.size=some _:=Zd _ (Zt _ rfl)
 have g3:(zH5 s.heap b1 b2 l1 l2).get? (zH2 s.heap b1 b2 l1 l2).objs.size=some _:=Zd _ (Zd _ (Zt _ rfl))
 have g2:(zH5 s.heap b1 b2 l1 l2).get? (zH1 s.heap b1 l1).objs.size=some (itObj b2 l2):=Zd _ (Zd _ (Zd _ (Zt _ (by cases b2<;>rfl))))
 have g1:(zH5 s.heap b1 b2 l1 l2).get? s.heap.objs.size=some (itObj b1 l1):=Zd _ (Zd _ (Zd _ (Zd _ (Zt _ (by cases b1<;>rfl)))))
 show _∧_
 rw[z2,z3,z4]at g5
 rw[z1,z2]at g3
 rw[z3]at g4
 rw[z1]at g2
 rw[z4]
 exact⟨⟨_,g5,rfl⟩,h _ g5 g3 g4 (b0R' g1) (b0R' g2) z5 fun c o x=>
  Zd _ (Zd _ (Zd _ (Zd _ (Zd _ x))))⟩
end
def SqB(b:Bool)(K:PySem.W.Frag)(H:Hp)(l:Addr)(xs:List V):Prop:=match b with
 |true=>SqL K H l xs
 |false=>SqT K H l xs
def Itz(K:PySem.W.Frag)(b1 b2:Bool)(l1 l2:Addr):It:=
 ⟨fun i H=>∃xs ys x y,SqB b1 K H l1 xs∧SqB b2 K H l2 ys∧xs[i]?=some x∧ys[i]?=some y,
  fun i H v H'=>∃T x y,v=.ref T∧H T=none∧H'=upd H T (.tup [x,y])∧(∀xs,SqB b1 K H l1 xs→xs[i]?=some x)∧(∀ys,SqB b2 K H l2 ys→ys[i]?=some y),
  fun i H=>∃xs ys,SqB b1 K H l1 xs∧SqB b2 K H l2 ys∧(xs.length≤i∨ys.length≤i)⟩
section
variable {X:Cx}{pins:List (Addr×Obj)}{σ:L2.St}{H:Hp}{s:Shared}
theorem a9D'{b:Bool}{l:Addr}{xs:List V}(I:Inv X pins σ H s)(h:SqB b X.K H l xs):∃its,Vals xs its∧IsSq b s.heap l its.toArray:=by
 cases b with
 |true=>obtain⟨its,r,p,_⟩:=I.list h;exact⟨its,r,p.isList⟩
 |false=>obtain⟨its,r,p,_⟩:=I.tuple h;exact⟨its,r,p⟩
theorem b3C'{b:Bool}{l:Addr}{xs ys:List V}(I:Inv X pins σ H s)(h:SqB b X.K H l xs)(h':SqB b X.K H l ys):xs=ys:=by
 cases b with
 |true=>exact I.list_inj h h'
 |false=>exact I.tuple_inj h h'
theorem a2L'{b:Bool}{l c:Addr}{xs:List V}(I:Inv X pins σ H s)(h:SqB b X.K H l xs)(hf:FpOk X pins H c):l≠c:=by
 have kl:∀{o:Obj},X.K.lookup l=some o→l≠c:=fun{o} e=>by
  have e1:X.base.get? l=some o:=I.mod.kin l o e
  rintro rfl
  rcases hf.2.2.2.1 with z|z
  ·exact I.ok.noex l o e1 z
  ·exact absurd (ZK (Zq e1) (ZL I.ok.bsz z)) (Nat.lt_irrefl _)
 have hl:∀{o:HO},H l=some o→l≠c:=fun{o} e=>by
  rintro rfl
  rw[hf.1]at e;cases e
 cases b with
 |true=>
  rcases h with(h| ⟨o,h⟩)| ⟨o,its,n,h,_⟩
  ·exact hl h
  ·exact hl h
  ·exact kl h
 |false=>
  rcases h with(h| ⟨o,h⟩)| ⟨o,its,n,h,_⟩
  ·exact hl h
  ·exact hl h
  ·exact kl h
end
theorem b0S'{X:Cx}{pins:List (Addr×Obj)}{σ:L2.St}{H:Hp}{s:Shared}{h':Heap}{t':Nat}{ch:List Addr}(I:Inv X pins σ H s)(k:∀b o,b∉ch→s.heap.get? b=some o→h'.get? b=some o)(hf:∀b∈ch,FpOk X pins H b):Inv X pins σ H {s with heap:=h',toks:=t'}:=by
 have nit:∀b u,H b=some u→b∉ch:=fun b u e z=>by rw[(hf b z).1]at e;cases e
 refine I.step (g':=s.gens) (d':=s.drawn) (ch:=ch) (fun b hb=>?_) (fun b o _ _ hc e _=>k b o hc e) (fun b o _ _ hc e _=>⟨o.slots,k b o hc e⟩) (fun _ _ _ _ n=>n)
  (fun b o hc e=>⟨o,k b o hc e⟩) (fun _ _ e=>e) (fun _ _ _ e=>e) (fun b ps e=>⟨#[],by rw[e];simp⟩) (fun m hm=>?_) (fun b u e=>?_) I.bare
 ·obtain⟨_,f1,_,f3,f4,f5⟩:=hf b hb
  exact⟨f3,f1,f4,f5⟩
 ·obtain⟨o,es,ep,ho,r⟩:=hm
  exact⟨o,es,ep,k _ o (fun z=>(hf _ z).2.1 rfl) ho,r⟩
 ·refine(I.hok b u e).stay (fun c v hc q=>k c v ?_ q) (fun _ q=>q) fun _ _ q=>q
  rcases hc with z|z
  ·rw[z];exact nit b u e
  ·exact nit c _ z
def ztn(b b':Bool)(z TI TO i1 i2 l1 l2:Addr)(i:Nat)(h:Heap):Prop:=IsZip h z TI TO .none∧IsPair h TI (.ref i1) (.ref i2)∧(∃a b,IsPair h TO a b)∧IsIt b h i1 l1 i∧IsIt b' h i2 l2 i
theorem b4M'{P:Program}{w:World}{K:PySem.W.Frag}{es:List Expr}{x1}{pos:Pos}(b b':Bool)(z TI TO i1 i2 l1 l2:Addr)(n1:TI≠z)(n2:TO≠z)(n3:i1≠z)(n4:i2≠z)(n5:TI≠TO)(n6:TI≠i1)(n7:TI≠i2)(n8:TO≠i1)(n9:TO≠i2)(n10:i1≠i2):
  Turn P w K (.Tuple es x1 pos) (Itz K b b' l1 l2) [z,TI,TO,i1,i2] z (ztn b b' z TI TO i1 i2 l1 l2) where
 mem:=by simp
 obj:=fun i h ⟨hz,hTI,⟨a,c,hTO⟩,h1,h2⟩ d hd=>by
  simp only[Zn,List.not_mem_nil,or_false]at hd
  rcases hd with rfl|rfl|rfl|rfl|rfl
  ·exact⟨_,hz,fun v q=>by have q':Data.fields _=Data.cell v:=q;cases q'⟩
  ·exact⟨_,hTI,fun v q=>by have q':Data.seq _ _=Data.cell v:=q;cases q'⟩
  ·exact⟨_,hTO,fun v q=>by have q':Data.seq _ _=Data.cell v:=q;cases q'⟩
  ·exact h1.obj
  ·exact h2.obj
 keep:=fun i h h' ⟨hz,hTI,⟨a,c,hTO⟩,h1,h2⟩ k=>⟨k z (by simp) _ hz,k TI (by simp) _ hTI,⟨a,c,k TO (by simp) _ hTO⟩,h1.at fun o e=>k i1 (by simp) o e,h2.at fun o e=>k i2 (by simp) o e⟩
 item:=by
  intro X hP hw hK hc i pins s σ H E I hf st hg
  subst hP hw hK
  obtain⟨hz,hTI,⟨a,c,hTO⟩,h1,h2⟩:=st
  obtain⟨xs,ys,x,y,q1,q2,ex,ey⟩:=hg
  obtain⟨us,r1,s1⟩:=a9D' I q1
  obtain⟨ws,r2,s2⟩:=a9D' I q2
  obtain⟨u,eu,ru⟩:=r1.get ex
  obtain⟨v,ev,rv⟩:=r2.get ey
  have Dp:ZApart z TI TO i1 i2 l1 l2:=⟨n1,n2,n3,n4,n5,n6,n7,n8,n9,n10,⟨a2L' I q1 (hf z (by simp)),a2L' I q1 (hf TO (by simp)),a2L' I q1 (hf i1 (by simp)),a2L' I q1 (hf i2 (by simp))⟩,
   ⟨a2L' I q2 (hf z (by simp)),a2L' I q2 (hf TO (by simp)),a2L' I q2 (hf i1 (by simp)),a2L' I q2 (hf i2 (by simp))⟩⟩
  refine a9C' Dp (I.ok.hd hc) hz hTI hTO h1 h2 s1 s2 (x:=u) (y:=v) (by simpa using eu) (by simpa using ev) fun h' a1 a2 a3 a4 a5 a6 kk tk=>?_
  refine⟨_,rfl,?_⟩
  refine wpAny_letOwnedTupleGo_zip (s:={s with heap:=h',toks:=tk}) a1 fun h2' b1 sb=>?_
  have hTn:H s.heap.objs.size=none:=I.hok.fresh (Zj _)
  have kk2:∀c o,c∉[z,TI,TO,i1,i2]→s.heap.get? c=some o→h2'.get? c=some o:=fun c o hc e=>by
   simp only[Zn,List.not_mem_nil,or_false,not_or]at hc
   exact(sb.2 c hc.1).trans (kk c o hc.1 hc.2.2.1 hc.2.2.2.1 hc.2.2.2.2 e)
  have I1:Inv X pins σ H {s with heap:=h2',toks:=tk}:=b0S' I kk2 hf
  have hTz:∀c∈[z,TI,TO,i1,i2],s.heap.objs.size≠c:=fun c hc e=>by
   obtain⟨o,q,_⟩:∃o,s.heap.get? c=some o∧True:=by
    simp only[Zn,List.not_mem_nil,or_false]at hc
    rcases hc with rfl|rfl|rfl|rfl|rfl
    ·exact⟨_,hz,trivial⟩
    ·exact⟨_,hTI,trivial⟩
    ·exact⟨_,hTO,trivial⟩
    ·exact⟨_,h1.obj.choose_spec.1,trivial⟩
    ·exact⟨_,h2.obj.choose_spec.1,trivial⟩
   exact absurd (Zq q) (by rw[e];exact Nat.lt_irrefl _)
  have hT2:IsPair h2' s.heap.objs.size u v:=(sb.2 _ (hTz z (by simp))).trans a5
  have I2:Inv X pins σ (upd H s.heap.objs.size (.tup [x,y])) {s with heap:=h2',toks:=tk}:=by
   have Im:Inv X pins σ (upd H s.heap.objs.size (.tup [x,y])) {s with heap:=s.heap.push {cls:=.type "tuple",data:=.seq #[u,v]},toks:=s.toks}:=
    I.laid (fun b o e=>Zd _ e) (Zj _) ⟨by show 2≤sizeLine;decide,[u,v],.cons ru (.cons rv .nil),⟨_,Zt _ rfl,rfl,_,rfl⟩,_,Zt _ rfl,rfl⟩
   refine b0S' (s:={s with heap:=s.heap.push {cls:=.type "tuple",data:=.seq #[u,v]},toks:=s.toks}) Im (ch:=[z,TI,TO,i1,i2]) (fun b o hb e=>?_) fun b hb=>?_
   ·rcases Heap.get?_push_cases e with⟨rfl,rfl⟩|e'
    ·exact hT2
    ·exact kk2 b o hb e'
   ·obtain⟨f0,f1⟩:=hf b hb
    exact⟨by rw[a0E' (fun e=>hTz b hb e.symm)];exact f0,f1⟩
  refine⟨.ref s.heap.objs.size,upd H s.heap.objs.size (.tup [x,y]),I2,rfl,⟨s.heap.objs.size,x,y,rfl,hTn,rfl,fun zs hq=>by rw[b3C' I hq q1];exact ex,fun zs hq=>by rw[b3C' I hq q2];exact ey⟩,
   ⟨b1,(sb.2 TI n1).trans (kk TI _ n1 n5 n6 n7 hTI),⟨u,v,(sb.2 TO n2).trans a2⟩,a3.at fun o e=>(sb.2 i1 n3).trans e,a4.at fun o e=>(sb.2 i2 n4).trans e⟩,fun c hc=>?_⟩
  rw[a0E' (fun e=>hTz c hc e.symm)]
  exact(hf c hc).1
 done:=by
  intro X hP hw hK hc i pins s σ H E I hf st hg
  subst hP hw hK
  obtain⟨hz,hTI,⟨a,c,hTO⟩,h1,h2⟩:=st
  obtain⟨xs,ys,q1,q2,en⟩:=hg
  obtain⟨us,r1,s1⟩:=a9D' I q1
  obtain⟨ws,r2,s2⟩:=a9D' I q2
  have hl1:=r1.length
  have hl2:=r2.length
  have Dp:ZApart z TI TO i1 i2 l1 l2:=⟨n1,n2,n3,n4,n5,n6,n7,n8,n9,n10,⟨a2L' I q1 (hf z (by simp)),a2L' I q1 (hf TO (by simp)),a2L' I q1 (hf i1 (by simp)),a2L' I q1 (hf i2 (by simp))⟩,
   ⟨a2L' I q2 (hf z (by simp)),a2L' I q2 (hf TO (by simp)),a2L' I q2 (hf i1 (by simp)),a2L' I q2 (hf i2 (by simp))⟩⟩
  refine a6N' Dp (I.ok.hd hc) hz hTI hTO h1 h2 s1 s2 (en.elim (fun en=>.inl (by simp;omega)) fun en=>.inr (by simp;omega)) fun h' tk kk=>?_
  refine⟨rfl,b0S' I (ch:=[z,TI,TO,i1,i2]) (fun c o hc e=>?_) hf⟩
  simp only[Zn,List.not_mem_nil,or_false,not_or]at hc
  exact kk c o hc.1 hc.2.2.1 hc.2.2.2.1 hc.2.2.2.2 e
 self:=fun _ _ _ _ _ st h=>wpAny_pyIter_zip st.1 h
end Py
end
section
namespace Py
open PySem PySem.Spec PyProof.Rows L2
section
variable {prog:Program}{w:World}{A:Around}{E:Value→Shared→Prop}{s:Shared}
end
section
variable {X:Cx}{tg:Expr}
end
end Py
end
section
namespace Py
open PySem PySem.Spec PyProof.Rows L2
section
variable {prog:Program}{w:World}{A:Around}{E:Value→Shared→Prop}{s:Shared}
end
end Py
end
section
namespace Py
open PySem PySem.Spec PyProof.Rows L2
end Py
end
section
namespace Py
open PySem PySem.Spec PyProof.Rows L2
structure Chg (K:PySem.W.Frag)(F:List Addr)(μ:List Addr)(H:Hp)(F':List Addr)(μ':List Addr)(H':Hp):Prop where
 tup:∀a vs,SqT K H a vs→SqT K H' a vs
 lst:∀a vs,H a=some (.lst vs)→a∉μ→a∉F→H' a=some (.lst vs)∧a∉μ'∧a∉F'
 frz:∀a vs,Frz K H a vs→Frz K H' a vs
 box:∀(n:Nat) a,μ[n]?=some a→μ'[n]?=some a
 dct:∀a,H a=some (.dK [])→H' a=some (.dK [])
section
variable {K:PySem.W.Frag}{mg:Str→Option Value}{F F' μ μ':List Addr}{H H':Hp}
mutual
theorem Rep.chg(x:Chg K F μ H F' μ' H'):∀(d:D) (v:V),Rep K ⟨mg,F⟩ μ H d v→Rep K ⟨mg,F'⟩ μ' H' d v
 | .non,_,h=>h
 | .bl _,_,h=>h
 | .int _,_,h=>h
 | .str _,_,h=>h
 | .tup ds,v,h=>by
  unfold Rep at h⊢
  obtain⟨a,vs,e,q,r⟩:=h
  exact⟨a,vs,e,x.tup a vs q,RepL.chg x ds vs r⟩
 | .lst ds,v,h=>by
  unfold Rep at h⊢
  obtain⟨a,vs,e,q,n,r⟩:=h
  obtain⟨h1,h2,h3⟩:=x.lst a vs q n.1 n.2
  exact⟨a,vs,e,h1,⟨h2,h3⟩,RepL.chg x ds vs r⟩
 | .scr ds,v,h=>by
  unfold Rep at h⊢
  obtain⟨a,vs,e,q,r⟩:=h
  exact⟨a,vs,e,x.frz a vs q,RepL.chg x ds vs r⟩
 | .ref n,v,h=>by
  unfold Rep at h⊢
  obtain⟨a,e,q⟩:=h
  exact⟨a,e,x.box n a q⟩
 | .fn y,v,h=>h
 | .ty y,v,h=>h
 | .dct,v,h=>by
  unfold Rep at h⊢
  obtain⟨a,e,q⟩:=h
  exact⟨a,e,x.dct a q⟩
theorem RepL.chg(x:Chg K F μ H F' μ' H'):∀(ds:List D) (vs:List V),RepL K ⟨mg,F⟩ μ H ds vs→RepL K ⟨mg,F'⟩ μ' H' ds vs
 | [],vs,h=>h
 |d::ds,vs,h=>by
  unfold RepL at h⊢
  obtain⟨w,ws,e,r,q⟩:=h
  exact⟨w,ws,e,Rep.chg x d w r,RepL.chg x ds ws q⟩
end
theorem EnvR.chg{ρ:Rho}{σ:L2.St}(x:Chg K F μ H F' μ' H')(h:EnvR K ⟨mg,F⟩ μ H ρ σ):EnvR K ⟨mg,F'⟩ μ' H' ρ σ:=
 ⟨h.1,fun i d e=>let⟨v,a,b⟩:=h.2 i d e;⟨v,a,Rep.chg x _ _ b⟩⟩
theorem Chg.start{acc:Addr}{o:HO}(h:H acc=none):Chg K F μ H (acc::F) μ (upd H acc o):=by
 have x:Ext μ H μ (upd H acc o):=.laid h
 refine⟨fun a vs q=>x.sqT q,fun a vs q h1 h2=>⟨(x.lst q h1).1,h1,fun z=>?_⟩,fun a vs q=>x.frz q,fun n a q=>q,fun a q=>x.keep _ _ q (.inl fun _ z=>by cases z)⟩
 rcases Zn.mp z with rfl|z
 ·rw[h]at q;cases q
 ·exact h2 z
theorem Chg.more{acc:Addr}{xs ys:List V}(ha:acc∈F)(h:H acc=some (.lst xs)):Chg K F μ H F μ (upd H acc (.lst ys)):=by
 have ne:∀{a:Addr} {o:HO},H a=some o→(∀zs,o≠.lst zs)→a≠acc:=fun e n z=>by subst z;rw[h]at e;cases e;exact n _ rfl
 refine⟨fun a vs q=>?_,fun a vs q h1 h2=>⟨?_,h1,h2⟩,fun a vs q=>?_,fun n a q=>q,fun a q=>?_⟩
 ·rcases q with(q| ⟨o,q⟩)|q
  ·exact .inl (.inl (by rw[a0E' (ne q fun _ z=>by cases z)];exact q))
  ·exact .inl (.inr ⟨o,by rw[a0E' (ne q fun _ z=>by cases z)];exact q⟩)
  ·exact .inr q
 ·have:a≠acc:=fun z=>by subst z;exact h2 ha
  rw[a0E' this];exact q
 ·rcases q with⟨o,q⟩|q
  ·exact .inl ⟨o,by rw[a0E' (ne q fun _ z=>by cases z)];exact q⟩
  ·exact .inr q
 ·rw[a0E' (ne q fun _ z=>by cases z)];exact q
theorem Chg.out{acc:Addr}:Chg K (acc::F) μ H F μ H:=
 ⟨fun _ _ q=>q,fun a vs q h1 h2=>⟨q,h1,fun z=>h2 (Za _ z)⟩,fun _ _ q=>q,fun _ _ q=>q,fun _ q=>q⟩
theorem Chg.outBox{acc:Addr}:Chg K (acc::F) μ H F (μ++[acc]) H:=by
 refine⟨fun _ _ q=>q,fun a vs q h1 h2=>⟨q,fun z=>?_,fun z=>h2 (Za _ z)⟩,fun _ _ q=>q,fun n a q=>?_,fun _ q=>q⟩
 ·rcases ZB.mp z with z|z
  ·exact h1 z
  ·have:a=acc:=by simpa using z
   subst this;exact h2 Zb
 ·rw[Zo (Zh.mp q).1];exact q
theorem SOk.start{S:Store}{acc:Addr}{o:HO}(s:SOk K ⟨mg,F⟩ μ S H)(h:H acc=none):SOk K ⟨mg,acc::F⟩ μ S (upd H acc o):=by
 have x:Ext μ H μ (upd H acc o):=.laid h
 refine⟨fun a ha=>?_,s.len,s.nd,fun n a ds h1 h2=>?_⟩
 ·rcases Zn.mp ha with rfl|ha
  ·exact⟨o,a0N'⟩
  ·obtain⟨o',q⟩:=s.live a ha;exact x.there a o' q
 ·obtain⟨vs,q,r⟩:=s.at_ n a ds h1 h2
  exact⟨vs,by rw[a0E' (a0u' q h)];exact q,RepL.chg (.start h) _ _ r⟩
theorem SOk.more{S:Store}{acc:Addr}{xs ys:List V}(s:SOk K ⟨mg,F⟩ μ S H)(ha:acc∈F)(hm:acc∉μ)(h:H acc=some (.lst xs)):SOk K ⟨mg,F⟩ μ S (upd H acc (.lst ys)):=by
 refine⟨fun a hb=>?_,s.len,s.nd,fun n a ds h1 h2=>?_⟩
 ·by_cases e:a=acc
  ·subst e;exact⟨_,a0N'⟩
  ·obtain⟨o',q⟩:=s.live a hb;exact⟨o',by rw[a0E' e];exact q⟩
 ·obtain⟨vs,q,r⟩:=s.at_ n a ds h1 h2
  have:a≠acc:=fun z=>by subst z;exact hm (ZD h1)
  exact⟨vs,by rw[a0E' this];exact q,RepL.chg (.more ha h) _ _ r⟩
theorem SOk.out{S:Store}{acc:Addr}(s:SOk K ⟨mg,acc::F⟩ μ S H):SOk K ⟨mg,F⟩ μ S H:=
 ⟨fun a ha=>s.live a (Za _ ha),s.len,s.nd,fun n a ds h1 h2=>by obtain⟨vs,q,r⟩:=s.at_ n a ds h1 h2;exact⟨vs,q,RepL.chg .out _ _ r⟩⟩
theorem SOk.outBox{S:Store}{acc:Addr}{ys:List D}{vs:List V}(s:SOk K ⟨mg,acc::F⟩ μ S H)(hm:acc∉μ)(h:H acc=some (.lst vs))(r:RepL K ⟨mg,acc::F⟩ μ H ys vs):SOk K ⟨mg,F⟩ (μ++[acc]) (S++[ys]) H:=by
 refine⟨fun a ha=>s.live a (Za _ ha),by simp[s.len],?_,fun n a es h1 h2=>?_⟩
 ·rw[ZO]
  exact⟨s.nd,by simp,fun a ha b hb=>by
   have:b=acc:=by simpa using hb
   subst this;intro z;subst z;exact hm ha⟩
 ·have hl:=s.len
  by_cases hn:n<μ.length
  ·rw[Zo hn]at h1
   rw[Zo (by omega)]at h2
   obtain⟨ws,q,r'⟩:=s.at_ n a es h1 h2
   exact⟨ws,q,RepL.chg .outBox _ _ r'⟩
  ·have e1:n=μ.length:=by
    have:=(Zh.mp h1).1
    simp at this;omega
   subst e1
   rw[Zv (Zj _)]at h1
   rw[Zv (by omega)]at h2
   simp[hl]at h1 h2
   subst h1;subst h2
   exact⟨vs,h,RepL.chg .outBox _ _ r⟩
theorem Ext.more{μ1:List Addr}{H1:Hp}{acc:Addr}{o:HO}(x:Ext μ H μ1 H1)(h:H acc=none):Ext μ H μ1 (upd H1 acc o):=
 ⟨x.pre,fun a u e c=>by rw[a0E' (a0u' e h)];exact x.keep a u e c,fun a u e=>by rw[a0E' (a0u' e h)];exact x.there a u e,x.fresh⟩
theorem Ext.outBox{μ1:List Addr}{H1:Hp}{acc:Addr}(x:Ext μ H μ1 H1)(h:H acc=none):Ext μ H (μ1++[acc]) H1:=by
 obtain⟨r,e⟩:=x.pre
 refine⟨⟨r++[acc],by rw[e,Zu]⟩,x.keep,x.there,fun a ha=>?_⟩
 rcases ZB.mp ha with ha|ha
 ·exact x.fresh a ha
 ·have:a=acc:=by simpa using ha
  subst this;exact .inr h
end
def getOf:Its→Store→Nat→Option (Option D)
 | .items xs=>fun _ i=>some xs[i]?
 | .live _ get=>get
def ItOk(K:PySem.W.Frag)(mg:GS)(J:It)(get:Store→Nat→Option (Option D))(μ:List Addr)(H:Hp):Prop:=
 ∀(i:Nat) μ' S' H' F',Chg K mg.F μ H F' μ' H'→SOk K ⟨mg.mg,F'⟩ μ' S' H'→
  (∀x,get S' i=some (some x)→J.go i H'∧∀y H'',J.yld i H' y H''→Ext μ' H' μ' H''∧SOk K ⟨mg.mg,F'⟩ μ' S' H''∧Rep K ⟨mg.mg,F'⟩ μ' H'' x y)∧(get S' i=some none→J.stop i H')
def tI(K:PySem.W.Frag)(mg:Str→Option Value)(E:XK)(Φ:FT)(Γ:Str→Option D)(c:CE):TI:=fun σ H R=>∃F μ ρ S,SOk K ⟨mg,F⟩ μ S H∧EnvR K ⟨mg,F⟩ μ H ρ σ∧WantG K ⟨mg,F⟩ E (fun μ' H' its J=>ItOk K ⟨mg,F⟩ J (getOf its) μ' H') μ H R (denI Φ Γ c ρ S)
theorem Chg.refl{K:PySem.W.Frag}{F μ:List Addr}{H:Hp}:Chg K F μ H F μ H:=⟨fun _ _ q=>q,fun _ _ q h1 h2=>⟨q,h1,h2⟩,fun _ _ q=>q,fun _ _ q=>q,fun _ q=>q⟩
theorem Chg.trans{K:PySem.W.Frag}{F μ F1 μ1 F2 μ2:List Addr}{H H1 H2:Hp}(a:Chg K F μ H F1 μ1 H1)(b:Chg K F1 μ1 H1 F2 μ2 H2):Chg K F μ H F2 μ2 H2:=
 ⟨fun x vs q=>b.tup x vs (a.tup x vs q),fun x vs q h1 h2=>by obtain⟨p1,p2,p3⟩:=a.lst x vs q h1 h2;exact b.lst x vs p1 p2 p3,fun x vs q=>b.frz x vs (a.frz x vs q),fun n x q=>b.box n x (a.box n x q),fun x q=>b.dct x (a.dct x q)⟩
theorem Chg.of_ext{K:PySem.W.Frag}{F F' μ μ':List Addr}{H H':Hp}(x:Ext μ H μ' H')(hF:∀a∈F',a∈F∨H a=none):Chg K F μ H F' μ' H':=by
 refine⟨fun a vs q=>x.sqT q,fun a vs q h1 h2=>⟨(x.lst q h1).1,(x.lst q h1).2,fun z=>?_⟩,fun a vs q=>x.frz q,fun n a q=>x.get q,fun a q=>x.keep _ _ q (.inl fun _ z=>by cases z)⟩
 rcases hF a z with z|z
 ·exact h2 z
 ·rw[q]at z;cases z
section
variable {X:Cx}{E:XK}{CX:CXT}{Φ:FT}{Γ:Str→Option D}{tg l:Expr}{pos:Pos}{c:CE}
theorem a6b'{pins:List (Addr×Obj)}{σ:L2.St}{H:Hp}{s:Shared}{R:It→Hp→Prop}{E':Value→Shared→Prop}{a:Addr}{xs:List V}(I:Inv X pins σ H s)(hq:SqL X.K H a xs)(q:R (Itl X.K a) H):wpAny (model X.prog X.w) X.A (pyIter (.ref a)) (PIE X pins σ tg R) E' s:=by
 obtain⟨its,rv,p,hz⟩:=I.list hq
 refine wpAny_pyIter_list p.isList ?_
 refine⟨s.heap.objs.size,[s.heap.objs.size],_,_,H,rfl,I.kept (t':=s.toks) fun b o e=>Zd _ e,b2i' a _,⟨_,Zt _ rfl,rfl,rfl⟩,fun b hb=>?_,q⟩
 have e:b=s.heap.objs.size:=by simpa using hb
 subst e
 exact I.fpOk (Zj _) (I.hok.fresh (Zj _))
theorem b4N'{pins:List (Addr×Obj)}{σ:L2.St}{H:Hp}{s:Shared}{R:It→Hp→Prop}{E':Value→Shared→Prop}{a:Addr}{xs:List V}(I:Inv X pins σ H s)(hq:SqT X.K H a xs)(q:R (Itt X.K a) H):wpAny (model X.prog X.w) X.A (pyIter (.ref a)) (PIE X pins σ tg R) E' s:=by
 obtain⟨its,rv,p,hz⟩:=I.tuple hq
 refine wpAny_pyIter_tuple (show s.heap.IsTuple a its.toArray from p) ?_
 refine⟨s.heap.objs.size,[s.heap.objs.size],_,_,H,rfl,I.kept (t':=s.toks) fun b o e=>Zd _ e,b0g' a _,⟨_,Zt _ rfl,rfl,rfl⟩,fun b hb=>?_,q⟩
 have e:b=s.heap.objs.size:=by simpa using hb
 subst e
 exact I.fpOk (Zj _) (I.hok.fresh (Zj _))
theorem a8M'{K:PySem.W.Frag}{mg:GS}{μ:List Addr}{H:Hp}{ds:List D}{vs:List V}{S:Store}{i:Nat}(r:RepL K mg μ H ds vs)(h:getOf (.items ds) S i=some none):vs.length≤i:=by
 have h1:ds[i]?=none:=by simpa[getOf]using h
 have h2:=List.getElem?_eq_none_iff.mp h1
 have hl:=r.length
 omega
theorem a8N'{K:PySem.W.Frag}{mg:GS}{μ:List Addr}{H:Hp}{a:Addr}{ds:List D}{vs:List V}(hq:∀F' μ' H',Chg K mg.F μ H F' μ' H'→SqL K H' a vs)(r:RepL K mg μ H ds vs):ItOk K mg (Itl K a) (getOf (.items ds)) μ H:=by
 intro i μ' S' H' F' ch sk
 have hl:=r.length
 refine⟨fun y hy=>?_,fun hi=>⟨vs,hq _ _ _ ch,a8M' r hi⟩⟩
 have hy:ds[i]?=some y:=by simpa[getOf]using hy
 obtain⟨v,h1,h2⟩:=r.get hy
 refine⟨⟨vs,v,hq _ _ _ ch,h1⟩,fun z H'' hz=>?_⟩
 obtain⟨rfl,hz⟩:=hz
 have e:=hz vs (hq _ _ _ ch)
 rw[h1]at e;cases e
 exact⟨.refl,sk,Rep.chg ch _ _ h2⟩
theorem b4O'{K:PySem.W.Frag}{mg:GS}{μ:List Addr}{H:Hp}{a:Addr}{ds:List D}{vs:List V}(hq:SqT K H a vs)(r:RepL K mg μ H ds vs):ItOk K mg (Itt K a) (getOf (.items ds)) μ H:=by
 intro i μ' S' H' F' ch sk
 have hl:=r.length
 refine⟨fun y hy=>?_,fun hi=>⟨vs,ch.tup _ _ hq,a8M' r hi⟩⟩
 have hy:ds[i]?=some y:=by simpa[getOf]using hy
 obtain⟨v,h1,h2⟩:=r.get hy
 refine⟨⟨vs,v,ch.tup _ _ hq,h1⟩,fun z H'' hz=>?_⟩
 obtain⟨rfl,hz⟩:=hz
 have e:=hz vs (ch.tup _ _ hq)
 rw[h1]at e;cases e
 exact⟨.refl,sk,Rep.chg ch _ _ h2⟩
theorem b4P'{K:PySem.W.Frag}{mg:GS}{μ:List Addr}{H:Hp}{a:Addr}{n:Nat}(hn:μ[n]?=some a):ItOk K mg (Itl K a) (a1D' n) μ H:=by
 intro i μ' S' H' F' ch sk
 have hl:n<S'.length:=by rw[←sk.len];exact(Zh.mp (ch.box _ _ hn)).1
 have hy:S'[n]?=some S'[n]:=Ze hl
 obtain⟨vs,h1,r⟩:=sk.at_ n a _ (ch.box _ _ hn) hy
 have hl:=r.length
 refine⟨fun y hy'=>?_,fun hi=>⟨vs,.of h1,?_⟩⟩
 ·unfold a1D' at hy'
  rw[hy]at hy'
  simp only[Option.map_some,Option.some.injEq]at hy'
  obtain⟨v,h2,h3⟩:=r.get hy'
  refine⟨⟨vs,v,.of h1,h2⟩,fun z H'' hz=>?_⟩
  obtain⟨rfl,hz⟩:=hz
  have e:=hz vs (.of h1)
  rw[h2]at e;cases e
  exact⟨.refl,sk,h3⟩
 ·unfold a1D' at hi
  rw[hy]at hi
  simp only[Option.map_some,Option.some.injEq]at hi
  have:=List.getElem?_eq_none_iff.mp hi
  omega
theorem i_seq(ha:PE X l (tE X.K X.mg E Φ Γ c)):PI X tg l (tI X.K X.mg E Φ Γ (.seq c)):=by
 intro pins s σ H R I h
 obtain⟨F,μ,ρ,S,sk,en,w⟩:=h
 refine thn (ha pins s σ H _ I ⟨F,μ,ρ,S,sk,en,WantG.bind w⟩) fun u s1 ⟨v,H1,I1,rv,μ1,S1,d,x1,s1k,rd,w1⟩=>?_
 cases d with
 |tup ds=>
  obtain⟨a,vs,rfl,hq,r⟩:=a0F' rd
  cases rv
  exact b4N' I1 hq (w1 μ1 H1 _ .refl s1k (b4O' hq r))
 |lst ds=>
  unfold Rep at rd
  obtain⟨a,vs,rfl,hq,hn,r⟩:=rd
  cases rv
  exact a6b' I1 (.of hq) (w1 μ1 H1 _ .refl s1k (a8N' (fun F' μ' H' ch=>.of (ch.lst a vs hq hn.1 hn.2).1) r))
 |scr ds=>
  unfold Rep at rd
  obtain⟨a,vs,rfl,hq,r⟩:=rd
  cases rv
  exact a6b' I1 hq.sq (w1 μ1 H1 _ .refl s1k (a8N' (fun F' μ' H' ch=>(ch.frz a vs hq).sq) r))
 |ref n=>
  have rd':=rd
  unfold Rep at rd
  obtain⟨a,rfl,hn⟩:=rd
  cases rv
  have hl:n<S1.length:=by rw[←s1k.len];exact(Zh.mp hn).1
  obtain⟨vs,h1,r⟩:=s1k.at_ n a _ hn (Ze hl)
  exact a6b' I1 (.of h1) (w1 μ1 H1 _ .refl s1k (b4P' hn))
 |_=>exact w1.elim
theorem a4f'(lo:Int)(n:Nat):(a1A' lo n).length=n:=by
 induction n generalizing lo with
 |zero=>rfl
 |succ n ih=>unfold a1A';rw[Zs,ih]
theorem b0T'(lo:Int)(n i:Nat)(h:i<n):(a1A' lo n)[i]?=some (.int (lo+i)):=by
 induction n generalizing lo i with
 |zero=>omega
 |succ n ih=>
  unfold a1A'
  cases i with
  |zero=>simp
  |succ i=>
   rw[Zi,ih (lo+1) i (by omega)]
   congr 2
   omega
theorem a6O'{K:PySem.W.Frag}{mg:GS}{μ:List Addr}{H:Hp}(lo:Int)(n:Nat):ItOk K mg (Itr lo n) (getOf (.items (a1A' lo n))) μ H:=by
 intro i μ' S' H' F' ch sk
 refine⟨fun y hy=>?_,fun hi=>?_⟩
 ·have hy:(a1A' lo n)[i]?=some y:=by simpa[getOf]using hy
  have hi:i<n:=by have:=(Zh.mp hy).1;rwa [a4f']at this
  rw[b0T' lo n i hi]at hy
  cases hy
  refine⟨hi,fun z H'' hz=>?_⟩
  obtain⟨rfl,rfl⟩:=hz
  exact⟨.refl,sk,a1h'⟩
 ·have:(a1A' lo n)[i]?=none:=by simpa[getOf]using hi
  have:=List.getElem?_eq_none_iff.mp this
  rw[a4f']at this
  exact this
variable {N:List Str}{sc:Sc}{k:Nat}{cell:Str→Bool}{p2:Pos}{es:List Expr}{cs:List CE}{a b:CE}{r:Expr}
theorem len_is{K:PySem.W.Frag}{mg:GS}{μ:List Addr}{H:Hp}{Q:List V→Hp→Prop}{ρ:Rho}{S:Store}(w:WantG K mg E (RepL K mg) μ H Q (denL Φ Γ cs ρ S)):WantG K mg E (RepL K mg) μ H (fun vs H'=>vs.length=cs.length∧Q vs H') (denL Φ Γ cs ρ S):=by
 cases e:denL Φ Γ cs ρ S with
 |ok ds S'=>
  rw[e]at w
  intro μ' H' vs x s r
  refine⟨?_,w μ' H' vs x s r⟩
  rw[←r.length,a7X' e]
 |err y S'=>rw[e]at w;exact w
 |fail=>rw[e]at w;exact w
theorem b4Q'(O:XOk X cell N sc CX E Φ Γ k)(h:gloB sc "range"=true)(hn:a0Z' l=true)(hcs:cs.length=1)(ha:PA X [l] (tL X.K X.mg E Φ Γ cs)):PI X tg (.Call (.Name "range" p2) [l] [] pos) (tI X.K X.mg E Φ Γ (.range cs)):=by
 obtain⟨h1,_,_⟩:=a1i' h
 intro pins s σ H R I ⟨F,μ,ρ,S,sk,en,w⟩
 refine b2j' (O.gl h1) (O.mod.bl _ (by decide+kernel)) ha (by rw[a0D' hn];rfl) pins s σ H R I ⟨F,μ,ρ,S,sk,en,(len_is (WantG.bind w)).mono fun vs H1 ⟨hl,μ1,S1,ds,x1,s1,r1,w1⟩=>?_⟩
 have hl2:=r1.length
 split at w1
 ·rename_i j
  split at w1
  ·rename_i hj
   obtain⟨v,rfl,rv⟩:=r1.one
   cases a0e' rv
   exact⟨j,rfl,hj.1,hj.2,w1 μ1 H1 _ .refl s1 (a6O' 0 j.toNat)⟩
  ·exact w1.elim
 ·simp only[Zs,Z6]at hl2;omega
 ·exact w1.elim
theorem b4R'(O:XOk X cell N sc CX E Φ Γ k)(h:gloB sc "range"=true)(hn:a0Z' l=true)(hn2:a0Z' r=true)(hcs:cs.length=2)(ha:PA X [l,r] (tL X.K X.mg E Φ Γ cs)):PI X tg (.Call (.Name "range" p2) [l,r] [] pos) (tI X.K X.mg E Φ Γ (.range cs)):=by
 obtain⟨h1,_,_⟩:=a1i' h
 intro pins s σ H R I ⟨F,μ,ρ,S,sk,en,w⟩
 refine b2k' (O.gl h1) (O.mod.bl _ (by decide+kernel)) ha (by rw[a0D' hn,a0D' hn2];rfl) (by rw[a0D' hn2];rfl) pins s σ H R I ⟨F,μ,ρ,S,sk,en,(len_is (WantG.bind w)).mono fun vs H1 ⟨hl,μ1,S1,ds,x1,s1,r1,w1⟩=>?_⟩
 have hl2:=r1.length
 split at w1
 ·simp only[Zs,Z6]at hl2;omega
 ·rename_i i j
  split at w1
  ·rename_i hj
   obtain⟨v,v',rfl,rv,rv'⟩:=r1.two
   cases a0e' rv
   cases a0e' rv'
   exact⟨i,j,rfl,hj,w1 μ1 H1 _ .refl s1 (a6O' i (j-i).toNat)⟩
  ·exact w1.elim
 ·exact w1.elim
theorem b0U'{K:PySem.W.Frag}{mg:GS}{S:Store}{μ:List Addr}{H:Hp}{d:D}{v:V}{xs:List D}(s:SOk K mg μ S H)(r:Rep K mg μ H d v)(e:seqOf S d=some xs):∃a,v=.ref a∧
  ∀μ' S' H' F',Chg K mg.F μ H F' μ' H'→SOk K ⟨mg.mg,F'⟩ μ' S' H'→∃ys vs,seqOf S' d=some ys∧SqB (isLst d) K H' a vs∧RepL K ⟨mg.mg,F'⟩ μ' H' ys vs:=by
 cases d with
 |tup ds=>
  obtain⟨a,vs,rfl,hq,q⟩:=a0F' r
  exact⟨a,rfl,fun μ' S' H' F' ch sk=>⟨ds,vs,rfl,ch.tup _ _ hq,RepL.chg ch _ _ q⟩⟩
 |lst ds=>
  unfold Rep at r
  obtain⟨a,vs,rfl,hq,hn,q⟩:=r
  exact⟨a,rfl,fun μ' S' H' F' ch sk=>⟨ds,vs,rfl,SqL.of (ch.lst a vs hq hn.1 hn.2).1,RepL.chg ch _ _ q⟩⟩
 |scr ds=>
  unfold Rep at r
  obtain⟨a,vs,rfl,hq,q⟩:=r
  exact⟨a,rfl,fun μ' S' H' F' ch sk=>⟨ds,vs,rfl,(ch.frz a vs hq).sq,RepL.chg ch _ _ q⟩⟩
 |ref n=>
  unfold Rep at r
  obtain⟨a,rfl,hn⟩:=r
  refine⟨a,rfl,fun μ' S' H' F' ch sk=>?_⟩
  have hl:n<S'.length:=by rw[←sk.len];exact(Zh.mp (ch.box _ _ hn)).1
  obtain⟨vs,h1,q⟩:=sk.at_ n a _ (ch.box _ _ hn) (Ze hl)
  exact⟨_,vs,Ze hl,SqL.of h1,q⟩
 |_=>unfold seqOf at e;cases e
theorem a3t'{d:D}{xs:List D}(h:b0J' d=some xs)(S:Store):seqOf S d=some xs:=by
 unfold b0J' at h
 split at h<;>first|exact h|cases h
theorem b2D'{S:Store}{d e:D}{its:Its}(h:zipOf S d e=some its):(∃xs ys,seqOf S d=some xs∧seqOf S e=some ys)∧∀S' i,(∃xs ys,seqOf S' d=some xs∧seqOf S' e=some ys)→getOf its S' i=a6a' d e S' i:=by
 unfold zipOf at h
 split at h
 ·rename_i xs ys e1 e2
  cases h
  refine⟨⟨xs,ys,a3t' e1 S,a3t' e2 S⟩,fun S' i _=>?_⟩
  show some (List.zipWith (fun x y=>D.tup [x,y]) xs ys)[i]?=_
  unfold a6a'
  rw[a3t' e1 S',a3t' e2 S',List.getElem?_zipWith]
  show some _=some (match xs[i]?,ys[i]? with
   |some x,some y=>some (D.tup [x,y])
   |_,_=>none)
  cases xs[i]? <;>cases ys[i]? <;>rfl
 ·split at h
  ·rename_i xs ys e1 e2
   cases h
   exact⟨⟨xs,ys,e1,e2⟩,fun S' i _=>rfl⟩
  ·cases h
theorem b4S'{K:PySem.W.Frag}{mg:GS}{μ:List Addr}{H:Hp}{S:Store}{d e:D}{v u:V}{its:Its}(sk:SOk K mg μ S H)(rd:Rep K mg μ H d v)(re:Rep K mg μ H e u)(h:zipOf S d e=some its):
  ∃a b,v=.ref a∧u=.ref b∧(∃vs,SqB (isLst d) K H a vs)∧(∃vs,SqB (isLst e) K H b vs)∧ItOk K mg (Itz K (isLst d) (isLst e) a b) (getOf its) μ H:=by
 obtain⟨⟨xs,ys,e1,e2⟩,hg⟩:=b2D' h
 obtain⟨a,rfl,ka⟩:=b0U' sk rd e1
 obtain⟨b,rfl,kb⟩:=b0U' sk re e2
 obtain⟨_,va,_,qa,_⟩:=ka μ S H mg.F .refl sk
 obtain⟨_,vb,_,qb,_⟩:=kb μ S H mg.F .refl sk
 refine⟨a,b,rfl,rfl,⟨va,qa⟩,⟨vb,qb⟩,fun i μ' S' H' F' ch sk'=>?_⟩
 obtain⟨xs',vs,f1,q1,r1⟩:=ka μ' S' H' F' ch sk'
 obtain⟨ys',ws,f2,q2,r2⟩:=kb μ' S' H' F' ch sk'
 rw[hg S' i ⟨xs',ys',f1,f2⟩]
 unfold a6a'
 rw[f1,f2]
 have l1:=r1.length
 have l2:=r2.length
 refine⟨fun y hy=>?_,fun hy=>⟨vs,ws,q1,q2,?_⟩⟩
 ·have hy:=Z2 hy
  cases g1:xs'[i]? with
  |none=>rw[g1]at hy;cases hy
  |some p=>
   cases g2:ys'[i]? with
   |none=>rw[g1,g2]at hy;cases hy
   |some q=>
    rw[g1,g2]at hy
    cases hy
    obtain⟨v1,k1,rp⟩:=r1.get g1
    obtain⟨v2,k2,rq⟩:=r2.get g2
    refine⟨⟨vs,ws,v1,v2,q1,q2,k1,k2⟩,fun z H'' hz=>?_⟩
    obtain⟨T,x',y',rfl,hT,rfl,z1,z2⟩:=hz
    have e3:=z1 vs q1
    rw[k1]at e3;cases e3
    have e4:=z2 ws q2
    rw[k2]at e4;cases e4
    refine⟨.laid hT,sk'.laid hT,?_⟩
    unfold Rep
    exact⟨T,[v1,v2],rfl,SqT.of a0N',.cons (Rep.mono (.laid hT) _ _ rp) (.cons (Rep.mono (.laid hT) _ _ rq) .nil)⟩
 ·have hy:=Z2 hy
  cases g1:xs'[i]? with
  |none=>exact .inl (by have:=List.getElem?_eq_none_iff.mp g1;omega)
  |some p=>
   cases g2:ys'[i]? with
   |none=>exact .inr (by have:=List.getElem?_eq_none_iff.mp g2;omega)
   |some q=>rw[g1,g2]at hy;cases hy
theorem ne5{n i j:Nat}(h:i≠j):n+i≠n+j:=fun e=>h (Nat.add_left_cancel e)
theorem ne5'{n j:Nat}(h:0≠j):n≠n+j:=fun e=>h (Nat.add_left_cancel (n:=n) (by rw[Nat.add_zero];exact e))
theorem ne5''{n j:Nat}(h:0≠j):n+j≠n:=fun e=>ne5' h e.symm
theorem b4T':bootBuiltins "zip"=some (.type "zip"):=by decide+kernel
theorem i_zip(O:XOk X cell N sc CX E Φ Γ k)(h:gloB sc "zip"=true)(ht:isTup tg=true)(hn:a0Z' l=true)(hn2:a0Z' r=true)(ha:PA X [l,r] (tL X.K X.mg E Φ Γ cs)):PI X tg (.Call (.Name "zip" p2) [l,r] [] pos) (tI X.K X.mg E Φ Γ (.zip cs)):=by
 obtain⟨h1,_,_⟩:=a1i' h
 intro pins s σ H R I ⟨F,μ,ρ,S,sk,en,w⟩
 refine Call_ (a9w' I (O.gl h1) (O.mod.bl _ (by decide+kernel)) b4T' (PyProof.Rows.callWith_type1 (thn (ha pos pins s σ H _ I ⟨F,μ,ρ,S,sk,en,WantG.bind w⟩) fun us s1 ⟨vs,H1,I1,rv,μ1,S1,ds,x1,s1k,r1,w1⟩=>?_) (a0D' hn) (by rw[a0D' hn2];rfl)))
 split at w1
 ·rename_i d e
  obtain⟨v,u,rfl,rd,re⟩:=r1.two
  cases ez:zipOf S1 d e with
  |none=>rw[ez]at w1;exact w1.elim
  |some its=>
   rw[ez]at w1
   obtain⟨a,b,rfl,rfl,⟨va,qa⟩,⟨vb,qb⟩,ok⟩:=b4S' s1k rd re ez
   cases rv with
   |cons p q=>
    cases q with
    |cons p' q'=>
     cases q'
     cases p
     cases p'
     obtain⟨as,ra,sa⟩:=a9D' I1 qa
     obtain⟨bs,rb,sb⟩:=a9D' I1 qb
     refine b4L' sa sb fun h' z1 z2 z3 z4 z5 z6 kk=>?_
     refine wpAny_pyIter_zip z1 ?_
     have I2:Inv X pins σ H1 {s1 with heap:=h'}:=I1.kept (t':=s1.toks) kk
     cases tg with
     |Tuple ts x1 tp=>
      refine⟨s1.heap.objs.size+4,[s1.heap.objs.size+4,s1.heap.objs.size+2,s1.heap.objs.size+3,s1.heap.objs.size,s1.heap.objs.size+1],_,_,H1,rfl,I2,
       b4M' (isLst d) (isLst e) (s1.heap.objs.size+4) (s1.heap.objs.size+2) (s1.heap.objs.size+3) s1.heap.objs.size (s1.heap.objs.size+1) a b (ne5 (by decide)) (ne5 (by decide)) (ne5' (by decide)) (ne5 (by decide)) (ne5 (by decide)) (ne5'' (by decide)) (ne5 (by decide)) (ne5'' (by decide)) (ne5 (by decide)) (ne5' (by decide)),⟨z1,z2,⟨_,_,z3⟩,z4,z5⟩,fun c hc=>?_,w1 μ1 H1 _ .refl s1k ok⟩
      have hc':s1.heap.objs.size≤c:=by
       simp only[Zn,List.not_mem_nil,or_false]at hc
       rcases hc with rfl|rfl|rfl|rfl|rfl
       ·exact Nat.le_add_right _ _
       ·exact Nat.le_add_right _ _
       ·exact Nat.le_add_right _ _
       ·exact Zj _
       ·exact Nat.le_add_right _ _
      exact I1.fpOk hc' (I1.hok.fresh hc')
     |_=>cases ht
 ·exact w1.elim
end
end Py
end
section
namespace Py
open PySem PySem.Spec PyProof.Rows L2
def a6P'(ifs:List Expr)(env:Env):Sem Bool:=forIn ifs true (fun c r=>if r=true then do let ok ←isTrue c env (eval c env);pure (ForInStep.yield ok)else pure (ForInStep.yield r))
def cRest(elt:Expr)(gens:List Comprehension)(scope:Scope)(pos:Pos)(d:Nat)(acc:Value)(env:Env):Sem Unit:=match gens[d+1]? with
 |some g'=>do
   let x ←eval g'.iter env
   standAt g'.iter.pos
   let x ←if g'.is_async !=0 then foldedIterable g'.iter x else foldedSetIterable g'.iter env x
   let _ ←runOwn (.compStart (.ListComp elt gens scope pos) (d+1) (←holding [x] (if g'.is_async !=0 then asyncIter x else pyIter x)) acc env) env
 |none=>do let _ ←call (.builtin "list.append") [acc,←eval elt env]
theorem a3J'{elt:Expr}{gens:List Comprehension}{scope:Scope}{pos:Pos}{d:Nat}{it acc:Value}{env:Env}{t i:Expr}{fs:List Expr}(h:gens[d]?=some ⟨t,i,fs,0⟩):
  compTurn (.ListComp elt gens scope pos) d it acc env=(standAt i.pos>>=fun _=>pyNext it>>=fun r=>match r with
   |none=>pure (.done .next)
   |some v=>letOwnedTupleGo t it v>>=fun _=>assign t env v>>=fun _=>(a6P' fs env>>=fun ok=>if ok=true then cRest elt gens scope pos d acc env else pure ())>>=fun _=>
    again (.compLoop (.ListComp elt gens scope pos) d it acc env)):=by
 unfold compTurn
 simp only[h]
 show(standAt i.pos>>=fun _=>pyNext it>>=_)=_
 congr 1;funext _
 congr 1;funext r
 cases r with
 |none=>rfl
 |some v=>
  show(letOwnedTupleGo t it v>>=fun _=>assign t env v>>=fun _=>_>>=fun ok=>_)=_
  congr 1;funext _
  congr 1;funext _
  conv=>rhs;rw[bind_assoc]
  unfold a6P'
  refine congrArg (fun k=>_>>=k) (funext fun ok=>?_)
  cases ok with
  |true=>
   simp only[if_true]
   unfold cRest
   cases gens[d+1]? with
   |none=>rfl
   |some g'=>
    by_cases hb:(g'.is_async !=0)=true
    ·simp only[if_pos hb,bind_assoc,pure_bind]
    ·simp only[if_neg hb,bind_assoc,pure_bind]
  |false=>
   simp only[Zx,Z4,pure_bind]
theorem a7Y'{prog:Program}{w:World}{A:Around}{R:Result→Shared→Prop}{s:Shared}{elt:Expr}{gens:List Comprehension}{scope:Scope}{pos:Pos}{d:Nat}{it acc:Value}{env:Env}{t i:Expr}{fs:List Expr}(hg:gens[d]?=some ⟨t,i,fs,0⟩)
  (h0:codeAny (model prog w) A (.compLoop (.ListComp elt gens scope pos) d it acc env) R s)
  (h:wpAny (model prog w) A (pyIter it) (fun it' s'=>codeAny (model prog w) A (.compLoop (.ListComp elt gens scope pos) d it' acc env) R s') (notedBy (model prog w) A env fun x s'=>R (.error x) s') s):
  codeAny (model prog w) A (.compStart (.ListComp elt gens scope pos) d it acc env) R s:=by
 refine codeAny_of_tree ?_
 show wpAny _ _ ((compStart (.ListComp elt gens scope pos) d it acc env).onRaise (fun x=>do noteFrame x env;standAt theWindowsPlace)) _ _ s
 refine wpAny_notedAt ?_
 unfold compStart
 have e1:(clausesOf (.ListComp elt gens scope pos))[d]?=some ⟨t,i,fs,0⟩:=hg
 rw[e1]
 show wpAny _ _ (ask>>=_) _ _ s
 refine Zc (wpAny_askSetting (wpAny_ite ?_))
 split
 ·first
   |exact Zc (Zl (Zl (And.intro rfl h0)))
   |exact Zl (And.intro rfl h0)
 ·first
   |exact Zc (wpAny_rule (Zc (wpAny_standAt (Zc (wpAny_mono h (fun it' s' h'=>Zl (And.intro rfl h')) fun _ _ x=>x)))))
   | (refine Zc (wpAny_rule ?_);show wpAny _ _ (standAt i.pos>>=_) _ _ s;exact Zc (wpAny_standAt (Zc (wpAny_mono h (fun it' s' h'=>Zl (And.intro rfl h')) fun _ _ x=>x))))
section
variable {X:Cx}{elt:Expr}{gens:List Comprehension}{scope:Scope}{pos:Pos}{d:Nat}{acc:Addr}
theorem pb_when{fs:List Expr}{ts:List TT}{tu:TU}(ht:PTs X fs ts)(hb:PB X (cRest elt gens scope pos d (.ref acc) X.env) tu):
  PB X (a6P' fs X.env>>=fun ok=>if ok=true then cRest elt gens scope pos d (.ref acc) X.env else pure ()) (tWhen ts tu):=by
 intro pins s σ H Q I h
 refine Zc (thn (b0E' fs ts ht pins s σ H _ I h) fun b s1 ⟨H1,I1,q1⟩=>?_)
 cases b with
 |false=>
  rw[if_neg (by decide)]at q1
  rw[if_neg (by decide)]
  exact Zl ⟨σ,H1,I1,q1⟩
 |true=>
  rw[if_pos rfl]at q1
  rw[if_pos rfl]
  exact hb pins s1 σ H1 Q I1 q1
theorem pb_last{te:TE}(hg:gens[d+1]?=none)(he:PE X elt te):PB X (cRest elt gens scope pos d (.ref acc) X.env) (tEmit acc te):=by
 intro pins s σ H Q I h
 unfold cRest
 rw[hg]
 show wpAny _ _ (eval elt X.env>>=fun x=>call (.builtin "list.append") [.ref acc,x]>>=fun _=>pure ()) _ _ s
 refine Zc (thn (he pins s σ H _ I h) fun u s2 ⟨v,H2,I2,r2,ys,ha,hz,q2⟩=>?_)
 refine Zc (thn (a8E' pins s2 σ H2 (.ref acc) [v] (.ref acc) [u] (fun _ H'=>Q σ H') I2 rfl (.cons r2 .nil) ⟨acc,ys,v,rfl,rfl,ha,hz,q2⟩) fun _ s3 ⟨_,H3,I3,_,q3⟩=>?_)
 exact Zl ⟨σ,H3,I3,q3⟩
theorem b4U'{t i:Expr}{fs:List Expr}{wi:TI}{g:TG}{tb:TU}(hx:X.xe=fun _ _=>False)(hc:X.calm=true)(hg:gens[d+1]?=some ⟨t,i,fs,0⟩)(hi:PI X t i wi)(hs:∀x,foldedSetIterable i X.env x=pure x)(hgt:PG X t g)
  (hb:PB X (a6P' fs X.env>>=fun ok=>if ok=true then cRest elt gens scope pos (d+1) (.ref acc) X.env else pure ()) tb):PB X (cRest elt gens scope pos d (.ref acc) X.env) (tInner wi g tb):=by
 intro pins s σ H Q I h
 unfold cRest
 rw[hg]
 show wpAny _ _ (eval i X.env>>=fun x=>standAt i.pos>>=fun _=>foldedSetIterable i X.env x>>=fun x=>holding [x] (pyIter x)>>=fun it=>runOwn (.compStart (.ListComp elt gens scope pos) (d+1) it (.ref acc) X.env) X.env>>=fun _=>pure ()) _ _ s
 refine Zc (thn (hi pins s σ H _ I h) fun v s1 h1=>Zc (wpAny_standAt (Zc ?_)))
 rw[hs]
 refine Zl (Zc (wpAny_holding (thn h1 fun itv s2 h2=>Zc ?_)))
 obtain⟨it,fp,tn,J,H2,e,I2,T,st2,f2,W⟩:=h2
 subst e
 have loop:codeAny (model X.prog X.w) X.A (.compLoop (.ListComp elt gens scope pos) (d+1) (.ref it) (.ref acc) X.env) (fun r s'=>match r with
   | .ok f=>∃σ' H',Inv X pins σ' H' s'∧Q σ' H'
   | .error e=>cameBackBy (model X.prog X.w) X.A X.env X.xe e s') s2:=
  a8G' (Fin:=Q) hx hc (a3J' hg) T hgt hb I2 st2 f2 W fun s' σ' H' I' _ q=>⟨σ',H',I',q⟩
 refine wpAny_runOwn (h:=none) ?_
 refine codeAny_mono (R:=fun r s'=>match r with
   | .ok f=>∃σ' H',Inv X pins σ' H' s'∧Q σ' H'
   | .error e=>cameBackBy (model X.prog X.w) X.A X.env X.xe e s') (a7Y' hg loop (T.self _ 0 _ _ _ st2 loop)) fun r s' q=>?_
 cases r with
 |ok f=>exact Zl q
 |error e=>exact q
end
end Py
end
section
namespace Py
open PySem PySem.Spec PyProof.Rows L2
def gVs:List CT→TGs
 | []=>gNil
 |t::ts=>match t with
  | .var i=>gCons (gName i) (gVs ts)
  | .tup _=>fun _ _ _ _=>False
def gCT(K:PySem.W.Frag):CT→TG
 | .var i=>gName i
 | .tup ts=>gTup K ts.length (gVs ts)
section
variable {X:Cx}{E:XK}{CX:CXT}{Φ:FT}{Γ:Str→Option D}{N:List Str}{sc:Sc}{k:Nat}{cell:Str→Bool}
theorem nm_ok(O:XOk X cell N sc CX E Φ Γ k){i:Nat}{p:Pos}(h:sdT cell N sc (.var i)=true):PG X (.Name (N.getD i "") p) (gName i):=by
 have h1:=(andB h).1
 have h2:=(andB h).2
 generalize N.getD i ""=x at h1 h2
 simp only[Zr,Bool.or_eq_true,Yb]at h1 h2
 have hl:L2.Loc X.env.scope x:=by
  unfold L2.Loc
  rw[O.sc]
  rcases h2 with z|z
  ·exact .inl z
  ·exact .inr z.2
 refine pg_name (by rw[O.n];exact O.nd) (by rw[O.n];exact h1) hl ?_
 rcases h2 with z|z
 ·exact .inr (by rw[O.sc];exact z)
 ·exact .inl (O.fn x z.1)
theorem a6c'{env:Env}:∀{ts:List CT} {es:List Expr},((assignEach (emTL ts N es) env).length=ts.length∧(assignEach (emTL ts N es) env).findIdx? (·.1)=none)
 | [],_=>⟨rfl,rfl⟩
 |t::ts,es=>by
  have ih:=a6c' (env:=env) (ts:=ts) (es:=es.tail)
  have e:assignEach (emTL (t::ts) N es) env=(false,assign (emT t N (es.headD dE)) env)::assignEach (emTL ts N es.tail) env:=by cases t<;>rfl
  rw[e]
  exact⟨by rw[Zs,ih.1,Zs],by rw[List.findIdx?_cons,ih.2];rfl⟩
theorem gs_pg(O:XOk X cell N sc CX E Φ Γ k):∀{ts:List CT} {es:List Expr},sdTL cell N sc ts=true→PGs X (emTL ts N es) (gVs ts)
 | [],es,h=>pgs_nil
 |t::ts,es,h=>by
  cases t with
  |tup _=>exact fun _ _ _ _ _ _ _ _ _ z=>z.elim
  |var i=>exact b4j' (nm_ok O (andB h).1) (gs_pg O (andB h).2)
theorem g_pg(O:XOk X cell N sc CX E Φ Γ k){t:CT}{e:Expr}(h:sdT cell N sc t=true):PG X (emT t N e) (gCT X.K t):=by
 cases t with
 |var i=>exact nm_ok O h
 |tup ts=>exact pg_tup O.calm (gs_pg O h) a6c'.1 a6c'.2
theorem gs_do{F μ:List Addr}{H:Hp}{K:PySem.W.Frag}{mg:Str→Option Value}{ρ':Rho}{Q:L2.St→Hp→Prop}:∀{ts:List CT} {ds:List D} {vs:List V} {ρ:Rho} {σ:L2.St},asgVs ts ds ρ=some ρ'→RepL K ⟨mg,F⟩ μ H ds vs→EnvR K ⟨mg,F⟩ μ H ρ σ→(∀σ',EnvR K ⟨mg,F⟩ μ H ρ' σ'→Q σ' H)→gVs ts vs σ H Q
 | [],ds,vs,ρ,σ,h,r,en,q=>by
  cases ds with
  |nil=>
   cases h
   unfold RepL at r
   exact⟨r,q σ en⟩
  |cons _ _=>cases h
 |t::ts,ds,vs,ρ,σ,h,r,en,q=>by
  cases t with
  |tup _=>cases h
  |var i=>
   cases ds with
   |nil=>cases h
   |cons d ds=>
    obtain⟨v,w,rfl,r1,rl⟩:=r.uncons
    exact⟨v,w,rfl,gs_do (ts:=ts) h rl (en.set r1) q⟩
theorem a6d'{ρ':Rho}:∀{ts:List CT} {ds:List D} {ρ:Rho},asgVs ts ds ρ=some ρ'→ts.length=ds.length∧ρ'.length=ρ.length
 | [],ds,ρ,h=>by
  cases ds with
  |nil=>cases h;exact⟨rfl,rfl⟩
  |cons _ _=>cases h
 |t::ts,ds,ρ,h=>by
  cases t with
  |tup _=>cases h
  |var i=>
   cases ds with
   |nil=>cases h
   |cons d ds=>
    have:=a6d' (ts:=ts) h
    exact⟨congrArg Nat.succ this.1,by rw[this.2,List.length_set]⟩
theorem a8O'{ρ':Rho}{j:Nat}:∀{ts:List CT} {ds:List D} {ρ:Rho},asgVs ts ds ρ=some ρ'→(∀i∈a2e' ts,i≠j)→ρ'[j]?=ρ[j]?
 | [],ds,ρ,h,hj=>by
  cases ds with
  |nil=>cases h;rfl
  |cons _ _=>cases h
 |t::ts,ds,ρ,h,hj=>by
  cases t with
  |tup _=>cases h
  |var i=>
   cases ds with
   |nil=>cases h
   |cons d ds=>
    rw[a8O' (ts:=ts) h fun k hk=>hj k (Za _ hk),List.getElem?_set_ne (hj i Zb)]
theorem g_do{F μ:List Addr}{H:Hp}{d:D}{v:V}{ρ ρ':Rho}{σ:L2.St}{Q:L2.St→Hp→Prop}{t:CT}{K:PySem.W.Frag}{mg:Str→Option Value}(h:asgCT t d ρ=some ρ')(r:Rep K ⟨mg,F⟩ μ H d v)(en:EnvR K ⟨mg,F⟩ μ H ρ σ)
  (q:∀σ',EnvR K ⟨mg,F⟩ μ H ρ' σ'→Q σ' H):gCT K t v σ H Q:=by
 cases t with
 |var i=>
  cases h
  exact q _ (en.set r)
 |tup ts=>
  cases d with
  |tup ds=>
   obtain⟨a,vs,rfl,hq,rl⟩:=a0F' r
   exact⟨a,vs,rfl,hq,by rw[←rl.length];exact(a6d' (ts:=ts) h).1.symm,gs_do (ts:=ts) h rl en q⟩
  |_=>cases h
end
theorem b2E'{ρ:Rho}{l:List Nat}{i:Nat}(h:isNew ρ l=true)(hi:i∈l):ρ[i]?=some none:=by
 unfold isNew at h
 have:=ZF.mp h i hi
 split at this
 ·assumption
 ·cases this
theorem asg_get{t:CT}{d:D}{ρ ρ':Rho}(h:asgCT t d ρ=some ρ'):ρ'.length=ρ.length∧∀j,(∀i∈slots t,i≠j)→ρ'[j]?=ρ[j]? :=by
 cases t with
 |var i=>
  cases h
  exact⟨List.length_set,fun j hj=>List.getElem?_set_ne (hj i Zb)⟩
 |tup ts=>
  cases d with
  |tup ds=>exact⟨(a6d' (ts:=ts) h).2,fun j hj=>a8O' (ts:=ts) h hj⟩
  |_=>cases h
theorem b4V'{K:PySem.W.Frag}{mg:GS}{μ:List Addr}{H:Hp}{ρ ρ':Rho}{σ:L2.St}{t:CT}{d:D}(h:a0p' t d ρ=some ρ')(en:EnvR K mg μ H ρ' σ):EnvR K mg μ H ρ σ:=by
 unfold a0p' at h
 by_cases hn:isNew ρ (slots t)=true
 ·rw[if_pos hn]at h
  have g:=asg_get h
  refine⟨by rw[←en.1,g.1],fun j d' e=>en.2 j d' ?_⟩
  rw[g.2 j fun i hi z=>by subst z;rw[b2E' hn hi]at e;cases e]
  exact e
 ·rw[if_neg hn]at h;cases h
theorem b0V'{t:CT}{d:D}{ρ ρ':Rho}(h:a0p' t d ρ=some ρ'):asgCT t d ρ=some ρ':=by
 unfold a0p' at h
 split at h
 ·exact h
 ·cases h
structure CSt (K:PySem.W.Frag)(mg:Str→Option Value)(F:List Addr)(acc:Addr)(B:List Addr→Hp→Prop)(μ0:List Addr)(H0:Hp)(μ:List Addr)(S:Store)(H:Hp)(ρ:Rho)(σ:L2.St)(ds:List D)(vs:List V):Prop where
 n0:H0 acc=none
 ext:Ext μ0 H0 μ H
 sok:SOk K ⟨mg,acc::F⟩ μ S H
 nin:acc∉μ
 env:EnvR K ⟨mg,acc::F⟩ μ H ρ σ
 at_:H acc=some (.lst vs)
 rep:RepL K ⟨mg,acc::F⟩ μ H ds vs
 b:B μ H
def Keep(K:PySem.W.Frag)(F:List Addr)(B:List Addr→Hp→Prop):Prop:=∀μ H μ1 H1,B μ H→Chg K F μ H F μ1 H1→B μ1 H1
def WantB(K:PySem.W.Frag)(mg:Str→Option Value)(F:List Addr)(acc:Addr)(B:List Addr→Hp→Prop)(μ0:List Addr)(H0:Hp)(ρ:Rho)(Q:L2.St→Hp→Prop):Res (List D)→Prop
 | .ok ds' S'=>∀μ' H' σ' vs',CSt K mg F acc B μ0 H0 μ' S' H' ρ σ' ds' vs'→Q σ' H'
 |_=>False
def tB(K:PySem.W.Frag)(mg:Str→Option Value)(Φ:FT)(Γ:Str→Option D)(c:CE)(acc:Addr):TU:=fun σ H Q=>∃F B μ0 H0 μ ρ S ds vs,Keep K (acc::F) B∧CSt K mg F acc B μ0 H0 μ S H ρ σ ds vs∧WantB K mg F acc B μ0 H0 ρ Q (denB Φ Γ c ρ ds S)
def stepC(Φ:FT)(Γ:Str→Option D)(ifs:List CE)(body:CE)(ρ:Rho)(ds:List D)(S:Store):Res (List D):=(denTs Φ Γ ifs ρ S).bind fun k S3=>if k=true then denB Φ Γ body ρ ds S3 else .ok ds S3
def tC(K:PySem.W.Frag)(mg:Str→Option Value)(Φ:FT)(Γ:Str→Option D)(ifs:List CE)(c:CE)(acc:Addr):TU:=fun σ H Q=>∃F B μ0 H0 μ ρ S ds vs,Keep K (acc::F) B∧CSt K mg F acc B μ0 H0 μ S H ρ σ ds vs∧WantB K mg F acc B μ0 H0 ρ Q (stepC Φ Γ ifs c ρ ds S)
section
variable {K:PySem.W.Frag}{mg:Str→Option Value}{F:List Addr}{acc:Addr}{B:List Addr→Hp→Prop}{μ0 μ μ1:List Addr}{H0 H H1:Hp}{S S1:Store}{ρ:Rho}{σ:L2.St}{ds:List D}{vs:List V}{Φ:FT}{Γ:Str→Option D}
theorem CSt.next(hB:Keep K (acc::F) B)(c:CSt K mg F acc B μ0 H0 μ S H ρ σ ds vs)(x:Ext μ H μ1 H1)(s:SOk K ⟨mg,acc::F⟩ μ1 S1 H1):CSt K mg F acc B μ0 H0 μ1 S1 H1 ρ σ ds vs where
 n0:=c.n0
 ext:=c.ext.trans x
 sok:=s
 nin:=fun z=>by
  rcases x.fresh acc z with z|z
  ·exact c.nin z
  ·rw[c.at_]at z;cases z
 env:=c.env.mono x
 at_:=x.keep acc _ c.at_ (.inr c.nin)
 rep:=RepL.mono x _ _ c.rep
 b:=hB μ H μ1 H1 c.b (.of_ext x fun _ z=>.inl z)
theorem CSt.put{d:D}{v:V}(hB:Keep K (acc::F) B)(c:CSt K mg F acc B μ0 H0 μ S H ρ σ ds vs)(r:Rep K ⟨mg,acc::F⟩ μ H d v):CSt K mg F acc B μ0 H0 μ S (upd H acc (.lst (vs++[v]))) ρ σ (ds++[d]) (vs++[v]):=by
 have ch:Chg K (acc::F) μ H (acc::F) μ (upd H acc (.lst (vs++[v]))):=.more Zb c.at_
 exact{
  n0:=c.n0
  ext:=c.ext.more c.n0
  sok:=c.sok.more Zb c.nin c.at_
  nin:=c.nin
  env:=c.env.chg ch
  at_:=a0N'
  rep:=RepL.append (RepL.chg ch _ _ c.rep) (.cons (Rep.chg ch _ _ r) .nil)
  b:=hB _ _ _ _ c.b ch}
theorem b2F'{X:Cx}{E:XK}{F μ:List Addr}{H:Hp}{S:Store}:∀{cs:List CE} {σ:L2.St} {Q:Bool→Hp→Prop},SOk X.K ⟨X.mg,F⟩ μ S H→EnvR X.K ⟨X.mg,F⟩ μ H ρ σ→WantG X.K ⟨X.mg,F⟩ E (fun _ _ a b=>a=b) μ H Q (denTs Φ Γ cs ρ S)→b2w' (cs.map (tT X.K X.mg E Φ Γ)) σ H Q:=by
 intro cs
 induction cs generalizing μ H S with
 |nil=>exact fun sk en w=>w μ H true .refl sk rfl
 |cons c cs ih=>
  intro σ Q sk en w
  unfold denTs at w
  refine⟨F,μ,ρ,S,sk,en,(WantG.bind w).mono fun k H1 zz=>ex34 zz fun μ1 S1 k' x1 s1 e1 w1=>?_⟩
  subst e1
  cases k' with
  |true=>rw[if_pos rfl]at w1⊢;exact ih s1 (en.mono x1) w1
  |false=>rw[if_neg (by decide)]at w1⊢;exact w1 μ1 H1 _ .refl s1 rfl
end
section
variable {X:Cx}{E:XK}{CX:CXT}{Φ:FT}{Γ:Str→Option D}
theorem PB.weak{body:Sem Unit}{t t':TU}(h:PB X body t)(w:∀σ H Q,t' σ H Q→t σ H Q):PB X body t':=fun pins s σ H Q I q=>h pins s σ H Q I (w σ H Q q)
theorem a9E'{K:PySem.W.Frag}{mg:Str→Option Value}{F:List Addr}{acc:Addr}{B:List Addr→Hp→Prop}{μ0 μ:List Addr}{H0 H:Hp}{S:Store}{ρ:Rho}{σ:L2.St}{ds:List D}{vs:List V}{ifs:List CE}{c:CE}{Q:L2.St→Hp→Prop}
  (hB:Keep K (acc::F) B) (st:CSt K mg F acc B μ0 H0 μ S H ρ σ ds vs) (w:WantB K mg F acc B μ0 H0 ρ Q (stepC Φ Γ ifs c ρ ds S)):
  WantG K ⟨mg,acc::F⟩ E (fun _ _ a b=>a=b) μ H (fun b H1=>if b=true then tB K mg Φ Γ c acc σ H1 Q else Q σ H1) (denTs Φ Γ ifs ρ S):=by
 unfold stepC at w
 cases e:denTs Φ Γ ifs ρ S with
 |ok k S3=>
  rw[e]at w
  intro μ1 H1 b x s eb
  subst eb
  have st1:=st.next hB x s
  cases k with
  |true=>exact⟨F,B,μ0,H0,μ1,ρ,S3,ds,vs,hB,st1,w⟩
  |false=>exact w μ1 H1 σ vs st1
 |err y S3=>rw[e]at w;exact w.elim
 |fail=>rw[e]at w;exact w.elim
theorem b4W'{elt:Expr}{gens:List Comprehension}{scope:Scope}{pos:Pos}{d:Nat}{acc:Addr}{fs:List Expr}{ifs:List CE}{c:CE}(ht:PTs X fs (ifs.map (tT X.K X.mg E Φ Γ)))(hb:PB X (cRest elt gens scope pos d (.ref acc) X.env) (tB X.K X.mg Φ Γ c acc)):
  PB X (a6P' fs X.env>>=fun ok=>if ok=true then cRest elt gens scope pos d (.ref acc) X.env else pure ()) (tC X.K X.mg Φ Γ ifs c acc):=
 PB.weak (pb_when ht hb) fun σ H Q zz=>ex93 zz fun F B μ0 H0 μ ρ S ds vs hB st w=>b2F' st.sok st.env (a9E' hB st w)
theorem c_emit{elt:Expr}{gens:List Comprehension}{scope:Scope}{pos:Pos}{d:Nat}{acc:Addr}{c:CE}(hg:gens[d+1]?=none)(he:PE X elt (tE X.K X.mg E Φ Γ c)):PB X (cRest elt gens scope pos d (.ref acc) X.env) (tB X.K X.mg Φ Γ (.emit c) acc):=
 PB.weak (pb_last hg he) fun σ H Q zz=>ex93 zz fun F B μ0 H0 μ ρ S ds vs hB st w=>by
  refine⟨acc::F,μ,ρ,S,st.sok,st.env,?_⟩
  simp only[denB]at w
  cases e:den Φ Γ c ρ S with
  |ok y S1=>
   rw[e]at w
   intro μ1 H1 v x s r
   have st1:=st.next hB x s
   have w':WantB X.K X.mg F acc B μ0 H0 ρ Q (if ds.length<big then .ok (ds++[y]) S1 else .fail):=w
   by_cases hl:ds.length<big
   ·rw[if_pos hl]at w'
    refine⟨vs,st1.at_,by rw[a7S',←st1.rep.length];exact hl,w' μ1 _ σ _ (st1.put hB r)⟩
   ·rw[if_neg hl]at w';exact w'.elim
  |err y S1=>rw[e]at w;exact w.elim
  |fail=>rw[e]at w;exact w.elim
end
def b0W':Its→Nat
 | .items xs=>xs.length+1
 | .live f _=>f
theorem a5u'(step:D→List D→Store→Res (List D))(xs:List D):∀(n i:Nat) (acc:List D) (S:Store),i+n=xs.length→compB step (fun _ i=>some xs[i]?) (n+1) i acc S=compD step (xs.drop i) acc S
 |0,i,acc,S,h=>by
  rw[List.drop_eq_nil_of_le (by omega)]
  unfold compB
  have:xs[i]?=none:=List.getElem?_eq_none_iff.mpr (by omega)
  rw[this]
  rfl
 |n+1,i,acc,S,h=>by
  have hi:i<xs.length:=by omega
  rw[ZZ hi]
  unfold compB
  rw[Ze hi]
  show(step xs[i] acc S).bind _=(step xs[i] acc S).bind _
  congr 1
  funext acc' S'
  exact a5u' step xs n (i+1) acc' S' (by omega)
theorem b0X'(step:D→List D→Store→Res (List D))(its:Its)(acc:List D)(S:Store):compI step its acc S=compB step (getOf its) (b0W' its) 0 acc S:=by
 cases its with
 |items xs=>exact(a5u' step xs xs.length 0 acc S (by omega)).symm
 |live f get=>rfl
def stepN(Φ:FT)(Γ:Str→Option D)(tg:CT)(ifs:List CE)(body:CE)(ρ:Rho):D→List D→Store→Res (List D):=fun x acc S2=>match a0p' tg x ρ with
 |some ρ'=>stepC Φ Γ ifs body ρ' acc S2
 |none=>.fail
section
variable {K:PySem.W.Frag}{mg:Str→Option Value}{Φ:FT}{Γ:Str→Option D}
theorem CSt.back{F:List Addr}{acc:Addr}{B B':List Addr→Hp→Prop}{μ0 μ:List Addr}{H0 H:Hp}{S:Store}{ρ ρ':Rho}{σ σ':L2.St}{ds:List D}{vs:List V}(c:CSt K mg F acc B μ0 H0 μ S H ρ σ ds vs)(b:B' μ H)(e:EnvR K ⟨mg,acc::F⟩ μ H ρ' σ'):CSt K mg F acc B' μ0 H0 μ S H ρ' σ' ds vs:=
 ⟨c.n0,c.ext,c.sok,c.nin,e,c.at_,c.rep,b⟩
theorem b0Y'{tg:CT}{ifs:List CE}{body:CE}{ρ ρ':Rho}{x:D}{ds:List D}{S:Store}(h:a0p' tg x ρ=some ρ'):stepN Φ Γ tg ifs body ρ x ds S=stepC Φ Γ ifs body ρ' ds S:=by
 unfold stepN;rw[h]
theorem b0Z'{tg:CT}{ifs:List CE}{body:CE}{ρ:Rho}{x:D}{ds:List D}{S:Store}(h:a0p' tg x ρ=none):stepN Φ Γ tg ifs body ρ x ds S=.fail:=by
 unfold stepN;rw[h]
theorem b3D'{Fi F:List Addr}{acc:Addr}{B:List Addr→Hp→Prop}{μi μ0:List Addr}{Hi H0:Hp}{J:It}{get:Store→Nat→Option (Option D)}{ρ:Rho}{tg:CT}{ifs:List CE}{body:CE}{Q:L2.St→Hp→Prop}(hB:Keep K (acc::F) B)(ok:ItOk K ⟨mg,Fi⟩ J get μi Hi)
  {n:Nat} {μ:List Addr} {S:Store} {H:Hp} {σ:L2.St} {ds:List D} {vs:List V} (ch:Chg K Fi μi Hi (acc::F) μ H) (st:CSt K mg F acc B μ0 H0 μ S H ρ σ ds vs) (w:WantB K mg F acc B μ0 H0 ρ Q (compB (stepN Φ Γ tg ifs body ρ) get n 0 ds S)):
  ∃W:Nat→Nat→L2.St→Hp→Prop,(∃m,W 0 m σ H)∧∀i m σ H,W i m σ H→
   (J.stop i H∧Q σ H)∨(J.go i H∧∃Nx:L2.St→Hp→Prop,(∀σ' H',Nx σ' H'→∃m',m'<m∧W (i+1) m' σ' H')∧∀x H',J.yld i H x H'→gCT K tg x σ H' fun σ2 H2=>tC K mg Φ Γ ifs body acc σ2 H2 Nx):=by
 refine⟨fun i m σ H=>∃μ S ds vs,Chg K Fi μi Hi (acc::F) μ H∧CSt K mg F acc B μ0 H0 μ S H ρ σ ds vs∧WantB K mg F acc B μ0 H0 ρ Q (compB (stepN Φ Γ tg ifs body ρ) get m i ds S),⟨n,μ,S,ds,vs,ch,st,w⟩,?_⟩
 rintro i m σ H ⟨μ,S,ds,vs,ch,st,w⟩
 cases m with
 |zero=>exact w.elim
 |succ m=>
  unfold compB at w
  obtain⟨k1,k2⟩:=ok i μ S H (acc::F) ch st.sok
  cases e:get S i with
  |none=>rw[e]at w;exact w.elim
  |some o=>
   cases o with
   |none=>rw[e]at w;exact .inl ⟨k2 e,w μ H σ vs st⟩
   |some x=>
    rw[e]at w
    obtain⟨go,yld⟩:=k1 x e
    refine .inr ⟨go,fun σ' H'=>∃μ S ds vs,Chg K Fi μi Hi (acc::F) μ H'∧CSt K mg F acc B μ0 H0 μ S H' ρ σ' ds vs∧WantB K mg F acc B μ0 H0 ρ Q (compB (stepN Φ Γ tg ifs body ρ) get m (i+1) ds S),fun σ' H' q=>⟨m,Nat.lt_succ_self m,q⟩,fun y H' hy=>?_⟩
    obtain⟨x1,s1,r1⟩:=yld y H' hy
    have st1:=st.next hB x1 s1
    have ch1:Chg K Fi μi Hi (acc::F) μ H':=ch.trans (.of_ext x1 fun _ z=>.inl z)
    have w':WantB K mg F acc B μ0 H0 ρ Q ((stepN Φ Γ tg ifs body ρ x ds S).bind fun acc' S'=>compB (stepN Φ Γ tg ifs body ρ) get m (i+1) acc' S'):=w
    cases ea:a0p' tg x ρ with
    |none=>rw[b0Z' ea]at w';exact w'.elim
    |some ρ'=>
     rw[b0Y' ea]at w'
     refine g_do (b0V' ea) r1 st1.env fun σ2 en2=>?_
     refine⟨F,fun μ H=>B μ H∧Chg K Fi μi Hi (acc::F) μ H,μ0,H0,μ,ρ',S,ds,vs,fun μa Ha μb Hb q c=>⟨hB _ _ _ _ q.1 c,q.2.trans c⟩,st1.back (B':=fun μ H=>B μ H∧Chg K Fi μi Hi (acc::F) μ H) ⟨st1.b,ch1⟩ en2,?_⟩
     cases es:stepC Φ Γ ifs body ρ' ds S with
     |ok ds' S'=>
      rw[es]at w'
      intro μ' H2 σ' vs' st'
      exact⟨μ',S',ds',vs',st'.b.2,st'.back st'.b.1 (b4V' ea st'.env),w'⟩
     |err z S'=>rw[es]at w';exact w'.elim
     |fail=>rw[es]at w';exact w'.elim
end
section
variable {X:Cx}{E:XK}{CX:CXT}{Φ:FT}{Γ:Str→Option D}
theorem c_inner{elt:Expr}{gens:List Comprehension}{scope:Scope}{pos:Pos}{d:Nat}{acc:Addr}{t i:Expr}{fs:List Expr}{tg:CT}{it:CE}{ifs:List CE}{body:CE}(hx:X.xe=fun _ _=>False)(hc:X.calm=true)(hg:gens[d+1]?=some ⟨t,i,fs,0⟩)
  (hi:PI X t i (tI X.K X.mg E Φ Γ it)) (hs:∀x,foldedSetIterable i X.env x=pure x) (hgt:PG X t (gCT X.K tg))
  (hb:PB X (a6P' fs X.env>>=fun ok=>if ok=true then cRest elt gens scope pos (d+1) (.ref acc) X.env else pure ()) (tC X.K X.mg Φ Γ ifs body acc)):PB X (cRest elt gens scope pos d (.ref acc) X.env) (tB X.K X.mg Φ Γ (.inner tg it ifs body) acc):=
 PB.weak (b4U' hx hc hg hi hs hgt hb) fun σ H Q zz=>ex93 zz fun F B μ0 H0 μ ρ S ds vs hB st w=>by
  refine⟨acc::F,μ,ρ,S,st.sok,st.env,?_⟩
  simp only[denB]at w
  cases e:denI Φ Γ it ρ S with
  |ok its S1=>
   rw[e]at w
   intro μ1 H1 J x s ok
   have st1:=st.next hB x s
   have w':WantB X.K X.mg F acc B μ0 H0 ρ Q (compI (stepN Φ Γ tg ifs body ρ) its ds S1):=w
   rw[b0X']at w'
   exact b3D' hB ok .refl st1 w'
  |err y S1=>rw[e]at w;exact w.elim
  |fail=>rw[e]at w;exact w.elim
def csOf(fr:List (Option Nat)):L2.St→L2.St:=fun σ=>fr.map fun j=>j.bind fun j=>(σ[j]?).join
theorem env_cs{K:PySem.W.Frag}{mg:GS}{μ:List Addr}{H:Hp}{ρ:Rho}{σ:L2.St}{fr:List (Option Nat)}(en:EnvR K mg μ H ρ σ):EnvR K mg μ H (fr.map fun j=>j.bind fun j=>(ρ[j]?).join) (csOf fr σ):=by
 refine⟨by simp[csOf],fun i d e=>?_⟩
 rw[ZN]at e
 cases e1:fr[i]? with
 |none=>rw[e1]at e;cases e
 |some o=>
  rw[e1]at e
  have e:=Z2 e
  cases o with
  |none=>cases e
  |some j=>
   have e2:(ρ[j]?).join=some d:=e
   cases e3:ρ[j]? with
   |none=>rw[e3]at e2;cases e2
   |some o=>
    rw[e3]at e2
    have e4:o=some d:=e2
    subst e4
    obtain⟨v,k1,k2⟩:=en.2 j d e3
    exact⟨v,by unfold csOf;rw[ZN,e1];show some ((σ[j]?).join)=_;rw[k1];rfl,k2⟩
theorem c_comp{tg0:Expr}{box:Bool}{N':List Str}{fr:List (Option Nat)}{tg:CT}{it:CE}{ifs:List CE}{body:CE}{σ:L2.St}{H:Hp}{Q:VK}(h:tE X.K X.mg E Φ Γ (.comp box N' fr tg it ifs body) σ H Q):
  tComp (csOf fr) (tI X.K X.mg E Φ Γ it) (gCT X.K tg) (tC X.K X.mg Φ Γ ifs body) σ H Q:=by
 obtain⟨F,μ,ρ,S,sk,en,w⟩:=h
 refine⟨F,μ,ρ,S,sk,en,?_⟩
 simp only[den]at w
 refine WantG.mono (Rel:=fun μ' H' its J=>ItOk X.K ⟨X.mg,F⟩ J (getOf its) μ' H') (WantG.bind w) fun J H1 h acc hacc=>?_
 obtain⟨μ1,S1,its,x1,s1,ok,w1⟩:=h
 have st:CSt X.K X.mg F acc (fun μ H=>Chg X.K F μ1 H1 (acc::F) μ H) μ1 H1 μ1 S1 (upd H1 acc (.lst [])) (fr.map fun j=>j.bind fun j=>(ρ[j]?).join) (csOf fr σ) [] []:={
  n0:=hacc
  ext:=.laid hacc
  sok:=s1.start hacc
  nin:=s1.notin hacc
  env:=(env_cs (en.mono x1)).chg (.start hacc)
  at_:=a0N'
  rep:=.nil
  b:=.start hacc}
 refine b3D' (Q:=fun _ H=>Q (.ref acc) H) (B:=fun μ H=>Chg X.K F μ1 H1 (acc::F) μ H) (n:=b0W' its) (fun μa Ha μb Hb q c=>q.trans c) ok (.start hacc) st ?_
 have w2:WantG X.K ⟨X.mg,F⟩ E (Rep X.K ⟨X.mg,F⟩) μ1 H1 Q ((compI (stepN Φ Γ tg ifs body (fr.map fun j=>j.bind fun j=>(ρ[j]?).join)) its [] S1).noErr.bind fun ys S5=>if box=true then .ok (.ref S5.length) (S5++[ys])else .ok (.lst ys) S5):=w1
 rw[b0X']at w2
 cases e:compB (stepN Φ Γ tg ifs body (fr.map fun j=>j.bind fun j=>(ρ[j]?).join)) (getOf its) (b0W' its) 0 [] S1 with
 |ok ys S5=>
  rw[e]at w2
  intro μ' H' σ' vs' st'
  have hF:acc∉F:=s1.notF hacc
  cases box with
  |false=>
   refine w2 μ' H' (.ref acc) st'.ext st'.sok.out ?_
   unfold Rep
   exact⟨acc,vs',rfl,st'.at_,⟨st'.nin,hF⟩,RepL.chg .out _ _ st'.rep⟩
  |true=>
   refine w2 (μ'++[acc]) H' (.ref acc) (st'.ext.outBox hacc) (st'.sok.outBox st'.nin st'.at_ st'.rep) ?_
   unfold Rep
   refine⟨acc,rfl,?_⟩
   have hl:=st'.sok.len
   rw[Zv (by omega)]
   simp[hl]
 |err y S5=>rw[e]at w2;exact w2.elim
 |fail=>rw[e]at w2;exact w2.elim
end
end Py
end
section
namespace Py
open PySem PySem.Spec PyProof.Rows L2
section
variable {prog:Program}{w:World}{A:Around}{E:Value→Shared→Prop}{s:Shared}
end
end Py
end
section
namespace Py
open PySem PySem.Spec PyProof.Rows
def setO(led:Bool):Obj:={cls:=.type "set",dict:=none,data:=.set #[] 0 (.fresh 0 0 led)}
section
variable {prog:Program}{w:World}{A:Around}{E:Value→Shared→Prop}{s:Shared}
theorem a7Z'{t:Addr}{vs:Array Value}{ns:List Int}{Q:Value→Shared→Prop}(hh:A.handled=none)(ht:s.heap.IsTuple t vs)(hi:IntsAre vs.toList ns)(hb:vs.size+1<scanBound)
  (h:∀(h':Heap) (tk:Nat),h'.SetOf (intKind prog w) s.heap.objs.size (fun k'=>(firstMet (fun i=>ns.getD i 0) vs.size).any (· ==k')) (firstMet (fun i=>ns.getD i 0) vs.size).length→
   (∀b o,b<s.heap.objs.size→s.heap.get? b=some o→h'.get? b=some o)→Q (.ref s.heap.objs.size) {s with heap:=h',toks:=tk}):wpAny (model prog w) A (call (.type "set") [.ref t]) Q E s:=by
 obtain⟨c,tl,hmro⟩:=F.called_set.mro
 have hmade:=F.called_set.made
 have hsub:=F.called_set.sub
 refine wpAny_call (codeAny_of_tree ?_)
 show wpAny _ _ (callAny (.type "set") _) _ _ _
 refine Zl ⟨Code.quiet_builtin _ (by decide+kernel),codeAny_builtin F.entry_type_call ?_⟩
 rw[Around.under_plain (weight_type_call_type "set" [.ref t] []) rfl]
 have g1:=F.called_set.notType
 have g2:=F.called_set.canCreate
 have g3:=F.typeCall_set_1 (.ref t)
 repeat(any_goals (first|assumption|wp_step))
 refine codeAny_mono (code_set_new_1 (.ref t) (E:=E) (Q₁:=fun obj s₁=>∃led:Bool,obj=.ref s.heap.objs.size∧s₁={s with heap:=s.heap.push (setO led)}) fun led=>⟨led,rfl,rfl⟩) fun r s₁ hr=>?_
 cases r with
 |error e=>exact hr
 |ok fl=>
  cases fl with
  |ret obj=>
   obtain⟨led,rfl,rfl⟩:=hr
   have hS:(s.heap.push (setO led)).get? s.heap.objs.size=some (setO led):=Zt _ rfl
   have hT:Shared.TypeIs {s with heap:=s.heap.push (setO led)} (.ref s.heap.objs.size) "set":=⟨_,hS,rfl⟩
   have hli:=F.called_set.init.lookup
   have hbi:=F.called_set.init.bind (.ref s.heap.objs.size)
   repeat(any_goals (first|assumption|wp_step))
   refine codeAny_mono (codeAny_call_builtin (R:=wants (fun r s₂=>r=.none∧∃h' tk,s₂={s with heap:=h',toks:=tk}∧h'.SetOf (intKind prog w) s.heap.objs.size (fun k'=>(firstMet (fun i=>ns.getD i 0) vs.size).any (· ==k')) (firstMet (fun i=>ns.getD i 0) vs.size).length∧
     (∀b o,b<s.heap.objs.size→s.heap.get? b=some o→h'.get? b=some o)) E) F.called_set.init.plain F.entry_set_init (check_set_init_1 hT ?_)) fun r₂ s₂ hr₂=>?_
   ·obtain⟨⟨ocls,odict,odata,oslots⟩,hol,hcl,nl,hdl⟩:=ht
    simp only at hcl hdl
    subst hcl;subst hdl
    have hol':(s.heap.push (setO led)).get? t=some {cls:=.type "tuple",dict:=odict,data:=.seq vs nl,slots:=oslots}:=Zd _ hol
    have q1:=F.sub_tuple_set
    have q2:=F.sub_tuple_frozenset
    have q3:(Value.type "tuple"==Value.type "dict")=false:=by decide
    have hl1:(s.heap.push (setO led)).IsTuple t vs:=⟨_,hol',rfl,nl,rfl⟩
    unfold Builtin.«set.__init__» noKeywords Builtin.Frozenset.updateFrom
    generalize hPI:pyIter=PI
    wp_walk
    subst hPI
    refine wpAny_pyIter_tuple hl1 (Zc (wpAny_runValue ?_))
    have hlS:t<s.heap.objs.size:=Zq hol
    have hh3:A.in1.in1.in1.handled=none:=by simp[hh]
    have hz:(s.heap.push (setO led)).objs.size=s.heap.objs.size+1:=Heap.size_push ..
    have hneI:t≠(s.heap.push (setO led)).objs.size:=by rw[hz];exact ZQ (Nat.lt_succ_of_lt hlS)
    have hSf:s.heap.objs.size∉[(s.heap.push (setO led)).objs.size,t]:=by
     rw[hz]
     simp only[Zn,List.not_mem_nil,or_false,not_or]
     exact⟨ZQ (Nat.lt_succ_self _),Nat.ne_of_gt hlS⟩
    refine codeAny_set_update_loopS ((Walks.tuple hh3 _ t hneI vs).toS) s.heap.objs.size hSf (fun i=>ns.getD i 0) (fun i v hv=>hi.int_at i v (by rw[ZT];exact hv)) hb (vs.size-0) 0 _ (by omega) (Nat.zero_le _) ⟨⟨_,Zt _ rfl,rfl,rfl⟩,(hl1.push _)⟩ ?hS0 ?hR
    case hS0=>exact SetOf_congr ((setObjOf_fresh (knd:=intKind prog w) led).setOf (Zd _ hS) (by unfold scanBound;omega)) (fun _=>rfl) rfl
    case hR=>
     intro s' hm hS'
     obtain⟨h',g',d',tk',os'⟩:=s'
     have eg:g'=s.gens:=hm.gens
     have ed:d'=s.drawn:=hm.drawn
     have eo:os'=s.os:=hm.os
     subst eg ed eo
     show wpAny _ _ _ _ _ _
     refine Zl ?_
     show wpAny _ _ (ret Value.none) _ _ _
     refine Zl ⟨rfl,h',tk',rfl,hS',fun b o hb e=>hm.heap b o ?_ (Zd _ (Zd _ e))⟩
     simp only[Zn,List.not_mem_nil,or_false,not_or]
     rw[hz]
     exact⟨ZQ hb,ZQ (Nat.lt_succ_of_lt hb)⟩
   ·cases r₂ with
    |error e=>exact hr₂
    |ok fl₂=>
     cases fl₂ with
     |ret r=>
      obtain⟨rfl,h',tk,rfl,hS',hk'⟩:=hr₂
      repeat(any_goals (first|assumption|wp_step))
      exact h _ _ hS' hk'
     |_=>exact hr₂.elim
  |_=>exact hr.elim
end
end Py
end
section
namespace Py
open PySem PySem.Spec PyProof.Rows L2
theorem a5v'(ns:List Int):firstMet (fun i=>ns.getD i 0) ns.length=dedI ns:=by
 unfold firstMet dedI
 congr 1
 refine List.ext_getElem (by simp) fun i h1 h2=>?_
 simp[h2]
section
variable {X:Cx}
theorem b2G'(hc:X.calm=true):CallR X (.type "set") (fun xs H Q=>∃p ns,xs=[.ref p]∧SqL X.K H p (ns.map V.int)∧ns.length+1<scanBound∧∀l S,H l=none→Q (.ref l) (upd H l (.set S (dedI ns).length))):=by
 intro pins s σ H xs us Q I r h
 obtain⟨p,ns,rfl,hq,hb,q⟩:=h
 obtain⟨u,rfl,rx⟩:=vals1 r
 cases rx
 obtain⟨its,rv,pl,_⟩:=I.list hq
 have hl:=rv.length
 simp only[Zk]at hl
 refine call_set_list (items:=its.toArray) (ns:=ns) (I.ok.hd hc) pl.isList (by simpa using a6E' rv) (by simp only[Zg];omega) fun h' tk hS hk=>?_
 have e1:its.toArray.size=ns.length:=by simp[hl]
 rw[e1,a5v']at hS
 exact⟨.ref s.heap.objs.size,_,I.laid (t':=tk) (fun b o e=>hk b o (Zq e) e) (Zj _) (show ObjOk X.prog X.w _ h' _ (.set _ _)from hS),rfl,q _ _ (I.hok.fresh (Zj _))⟩
theorem b2H'(hc:X.calm=true):CallR X (.type "set") (fun xs H Q=>∃p ns,xs=[.ref p]∧SqT X.K H p (ns.map V.int)∧ns.length+1<scanBound∧∀l S,H l=none→Q (.ref l) (upd H l (.set S (dedI ns).length))):=by
 intro pins s σ H xs us Q I r h
 obtain⟨p,ns,rfl,hq,hb,q⟩:=h
 obtain⟨u,rfl,rx⟩:=vals1 r
 cases rx
 obtain⟨its,rv,pl,_⟩:=I.tuple hq
 have hl:=rv.length
 simp only[Zk]at hl
 refine a7Z' (vs:=its.toArray) (ns:=ns) (I.ok.hd hc) pl (by simpa using a6E' rv) (by simp only[Zg];omega) fun h' tk hS hk=>?_
 have e1:its.toArray.size=ns.length:=by simp[hl]
 rw[e1,a5v']at hS
 exact⟨.ref s.heap.objs.size,_,I.laid (t':=tk) (fun b o e=>hk b o (Zq e) e) (Zj _) (show ObjOk X.prog X.w _ h' _ (.set _ _)from hS),rfl,q _ _ (I.hok.fresh (Zj _))⟩
theorem b2I'(hc:X.calm=true):CallR X (.type "set") (fun xs H Q=>∃p ns,xs=[.ref p]∧(SqL X.K H p (ns.map V.int)∨SqT X.K H p (ns.map V.int))∧ns.length+1<scanBound∧∀l S,H l=none→Q (.ref l) (upd H l (.set S (dedI ns).length))):=by
 intro pins s σ H xs us Q I r h
 obtain⟨p,ns,e,hq,hb,q⟩:=h
 rcases hq with hq|hq
 ·exact b2G' hc pins s σ H xs us Q I r ⟨p,ns,e,hq,hb,q⟩
 ·exact b2H' hc pins s σ H xs us Q I r ⟨p,ns,e,hq,hb,q⟩
theorem b2J':CallR X (.builtin "len") (fun xs H Q=>∃p S n,xs=[.ref p]∧H p=some (.set S n)∧n<100000∧Q (.int n) H):=by
 intro pins s σ H xs us Q I r h
 obtain⟨p,S,n,rfl,hp,hn,q⟩:=h
 obtain⟨u,rfl,rx⟩:=vals1 r
 cases rx
 have hS:s.heap.SetOf (intKind X.prog X.w) p S n:=I.hok p _ hp
 obtain⟨o,es,ep,t,ho,hex,hd,_,_,_,hf,rfl⟩:=hS
 exact call_len_set ho hex hd hf (by omega) ⟨.int es.size,H,I.tok _,⟨_,rfl⟩,q⟩
theorem b4X':bootBuiltins "set"=some (.type "set"):=by decide+kernel
theorem dedI_le(ns:List Int):(dedI ns).length≤ns.length:=by
 have key:∀(ns acc:List Int),(ns.foldl step_dedup acc).length≤acc.length+ns.length:=by
  intro ns
  induction ns with
  |nil=>intro acc;simp
  |cons n ns ih=>
   intro acc
   refine ZL (ih (step_dedup acc n)) ?_
   unfold step_dedup
   split<;>simp<;>omega
 simpa[dedI]using key ns []
theorem b3E':∀{xs:List D},xs.all (hasTy .int)=true→xs=(xs.filterMap asInt).map D.int
 | [],_=>rfl
 |x::xs,h=>by
  simp only[List.all_cons,Zr]at h
  cases x with
  |int i=>simp only[List.filterMap_cons,asInt,ZA];rw[←b3E' h.2]
  |_=>simp[hasTy]at h
theorem b1a'{K:PySem.W.Frag}{mg:GS}{μ:List Addr}{H:Hp}:∀{ns:List Int} {vs:List V},RepL K mg μ H (ns.map D.int) vs→vs=ns.map V.int
 | [],vs,r=>by unfold RepL at r;subst r;rfl
 |n::ns,vs,r=>by
  obtain⟨v,ws,rfl,r1,r2⟩:=r.uncons
  cases a0e' r1
  rw[b1a' r2];rfl
def b4Y'(K:PySem.W.Frag):List V→Hp→VK→Prop:=fun xs H Q=>∃p ns,xs=[.ref p]∧(SqL K H p (ns.map V.int)∨SqT K H p (ns.map V.int))∧ns.length+1<scanBound∧∀l S,H l=none→Q (.ref l) (upd H l (.set S (dedI ns).length))
def rLenS:List V→Hp→VK→Prop:=fun xs H Q=>∃p S n,xs=[.ref p]∧H p=some (.set S n)∧n<100000∧Q (.int n) H
theorem b2K'{z:Expr}{p1 p2 p3 p4:Pos}{ta:TE}(hc:X.calm=true)(hg1:Gl X "len")(hg2:Gl X "set")(hm1:X.mg "len"=none)(hm2:X.mg "set"=none)(hn:a0Z' z=true)(ha:PE X z ta):
  PE X (.Call (.Name "len" p1) [.Call (.Name "set" p2) [z] [] p3] [] p4) (fun σ H Q=>ta σ H fun x H1=>b4Y' X.K [x] H1 fun y H2=>rLenS [y] H2 Q):=by
 have inner:PE X (.Call (.Name "set" p2) [z] [] p3) (tCB (b4Y' X.K) (tCons ta tNil)):=a4n' (b2I' hc) hg2 hm2 b4X' (b0m' ha b4o' (a0D' hn)) (by decide) (by decide) (a0D' hn)
 exact b0o' (r:=rLenS) b2J' hg1 hm1 PySem.boot_len (b0m' inner b4o')
theorem b4Z'{K:PySem.W.Frag}{mg:Str→Option Value}{F μ:List Addr}{H:Hp}{S:Store}{d:D}{v:V}{Q:VK}(sk:SOk K ⟨mg,F⟩ μ S H)(r:Rep K ⟨mg,F⟩ μ H d v)(w:Want K ⟨mg,F⟩ μ H Q (a6L' d S)):b4Y' K [v] H fun y H2=>rLenS [y] H2 Q:=by
 unfold a6L' at w
 split at w
 ·rename_i xs e
  split at w
  ·rename_i hc
   obtain⟨a,vs,rfl,hq,rl⟩:∃a vs,v=.ref a∧(SqL K H a vs∨SqT K H a vs)∧RepL K ⟨mg,F⟩ μ H xs vs:=by
    cases d with
    |tup ds=>
     obtain⟨a,vs,e1,hq,q⟩:=a0F' r
     cases e
     exact⟨a,vs,e1,.inr hq,q⟩
    |_=>
     obtain⟨a,vs,e1,hq,q⟩:=a7T' sk r e (fun ys z=>by cases z)
     exact⟨a,vs,e1,.inl hq,q⟩
   have hxs:=b3E' hc.1
   have hlen:(xs.filterMap asInt).length<1000:=by
    have:=congrArg List.length hxs
    simp only[Zk]at this
    omega
   rw[hxs]at rl
   have hv:=b1a' rl
   subst hv
   refine⟨a,xs.filterMap asInt,rfl,hq,by unfold scanBound;omega,fun l S' hl=>⟨l,S',_,rfl,a0N',by have:=dedI_le (xs.filterMap asInt);omega,?_⟩⟩
   exact w μ _ _ (.laid hl) (sk.laid hl) a1h'
  ·exact w.elim
 ·exact w.elim
end
end Py
end
section
namespace Py
open PySem PySem.Spec PyProof.Rows L2
section
variable {X:Cx}
end
end Py
end
section
set_option autoImplicit false
namespace Srt
open PySem PyProof.Rows
def gallop':Bool→Keyed→Array Keyed→Nat→Nat→Nat→StateT SortSt Sem (Option Nat):=sortPriv%PySem.Builtin.gallop
def b5a':Array Keyed→Array Keyed→StateT SortSt Sem (Array Keyed):=sortPriv%PySem.Builtin.mergeLo
def b5b':Array Keyed→Array Keyed→StateT SortSt Sem (Array Keyed):=sortPriv%PySem.Builtin.mergeHi
def dK:Keyed:=(Value.none,Value.none)
structure Cmp (prog:Program)(w:World)(A:Around)(s:Shared)(κ:SortKind)(P:Keyed→Prop)(K:Keyed→Nat):Prop where
 lt:∀x,P x→∀y,P y→∀(Q:Bool→Shared→Prop) (E:Value→Shared→Prop),Q (decide (K x<K y)) s→wpAny (model prog w) A (keyLt' κ x.1 y.1) Q E s
def R(K:Keyed→Nat)(xs:Array Keyed)(i:Nat):Nat:=K (xs.getD i dK)
section
variable {prog:Program}{w:World}{A:Around}{E:Value→Shared→Prop}{s:Shared}{st:SortSt}{κ:SortKind}{P:Keyed→Prop}{K:Keyed→Nat}
theorem getD_of{xs:Array Keyed}{i:Nat}(h:i<xs.size):xs.getD i dK=xs[i]:=by
 unfold Array.getD;rw[dif_pos h];rfl
theorem R_of{xs:Array Keyed}{i:Nat}(h:i<xs.size):R K xs i=K xs[i]:=by unfold R;rw[getD_of h]
theorem b1b'(C:Cmp prog w A s κ P K){x y:Keyed}(hx:P x)(hy:P y)(hk:kindOf st=κ){Q:Option Bool→SortSt→Prop}(h:Q (some (decide (K x<K y))) st):wpS (model prog w) A E s (lt' x y) Q st:=by
 rw[lt'_eq]
 refine Zp (wpS_get ?_)
 rw[hk]
 refine Zp (wpS_lift (wpAny_attempt (C.lt x hx y hy _ _ ⟨rfl,?_⟩)))
 exact Zw h
theorem a0r'{xs:Array Keyed}{i:Nat}(hi:i<xs.size){Q:Keyed→SortSt→Prop}(h:Q xs[i] st):wpS (model prog w) A E s (elem' xs i) Q st:=by
 rw[elem'_eq,getElem?_pos xs i hi]
 exact Zw h
def thr(K:Keyed→Nat)(left:Bool)(key:Keyed):Nat:=if left=true then K key else K key+1
theorem a2i'(C:Cmp prog w A s κ P K){left:Bool}{key:Keyed}{arr:Array Keyed}{i:Nat}(ha:∀x∈arr.toList,P x)(hy:P key)(hk:kindOf st=κ)(hi:i<arr.size){Q:Option Bool→SortSt→Prop}(h:Q (some (decide (R K arr i<thr K left key))) st):
  wpS (model prog w) A E s (elem' arr i>>=fun x=>if left=true then lt' x key else lt' key x>>=fun r=>pure (r.map fun b=> !b)) Q st:=by
 refine Zp (a0r' hi ?_)
 have hx:P arr[i]:=ha _ (by simp)
 rw[R_of hi]at h
 cases left with
 |true=>exact b1b' C hx hy hk h
 |false=>
  refine Zp (b1b' C hy hx hk ?_)
  refine Zw ?_
  have e:(!decide (K key<K arr[i]))=decide (K arr[i]<thr K false key):=by
   rw[←decide_not]
   exact decide_eq_decide.mpr (by show ¬K key<K arr[i]↔K arr[i]<K key+1;lia)
  show Q (some (!decide (K key<K arr[i]))) st
  rw[e];exact h
theorem a1E'(C:Cmp prog w A s κ P K){left:Bool}{key:Keyed}{arr:Array Keyed}{base n hint:Nat}(ha:∀x∈arr.toList,P x)(hy:P key)(hk:kindOf st=κ)(hz:base+n≤arr.size)(hh:hint<n)
  (hs:∀i j,i≤j→j<n→R K arr (base+i)≤R K arr (base+j)) {Q:Option Nat→SortSt→Prop}
  (h:∀k,k≤n→(∀i,i<k→R K arr (base+i)<thr K left key)→(∀i,k≤i→i<n→thr K left key≤R K arr (base+i))→Q (some k) st):wpS (model prog w) A E s (gallop' left key arr base n hint) Q st:=by
 have last:∀lo hi:Nat,lo≤hi→hi≤n→(∀i,i<lo→R K arr (base+i)<thr K left key)→(∀i,hi≤i→i<n→thr K left key≤R K arr (base+i))→
   ∀{f:Nat→Option (Option Nat)×Nat×Nat→StateT SortSt Sem (ForInStep (Option (Option Nat)×Nat×Nat))} {g:Option (Option Nat)×Nat×Nat→StateT SortSt Sem (Option Nat)},
   (∀x lo hi,lo<hi→hi≤n→∀Q',(R K arr (base+(lo+(hi-lo)/2))<thr K left key→Q' (.yield (none,lo+(hi-lo)/2+1,hi)) st)→(¬R K arr (base+(lo+(hi-lo)/2))<thr K left key→Q' (.yield (none,lo,lo+(hi-lo)/2)) st)→wpS (model prog w) A E s (f x (none,lo,hi)) Q' st)→
   (∀x lo hi,hi≤lo→f x (none,lo,hi)=pure (.done (none,lo,hi)))→(∀lo hi,g (none,lo,hi)=pure (some hi))→wpS (model prog w) A E s (forIn [:n] (none,lo,hi) f>>=g) Q st:=by
  intro lo hi h1 h2 h3 h4 f g hf hd hg
  refine Zp (wpS_mono (Z9 (I:=fun x c st'=>st'=st∧∃lo hi,c=(none,lo,hi)∧lo≤hi∧hi≤n∧hi-lo≤n-x∧(∀i,i<lo→R K arr (base+i)<thr K left key)∧(∀i,hi≤i→i<n→thr K left key≤R K arr (base+i)))
   (Q:=fun c st'=>st'=st∧∃hi,c=(none,hi,hi)∧hi≤n∧(∀i,i<hi→R K arr (base+i)<thr K left key)∧(∀i,hi≤i→i<n→thr K left key≤R K arr (base+i))) ?_ ?_ ⟨rfl,lo,hi,rfl,h1,h2,by lia,h3,h4⟩) ?_)
  ·rintro x c st' _ hx ⟨rfl,lo,hi,rfl,k1,k2,k3,k4,k5⟩
   by_cases hlt:hi≤lo
   ·rw[hd x lo hi hlt]
    have:lo=hi:=by lia
    subst this
    exact Zw ⟨rfl,lo,rfl,k2,k4,k5⟩
   ·refine hf x lo hi (by lia) k2 _ (fun hm=>⟨rfl,_,_,rfl,by lia,k2,by lia,fun i hi'=>?_,k5⟩) (fun hm=>⟨rfl,_,_,rfl,by lia,by lia,by lia,k4,fun i h1 h2=>?_⟩)
    ·have:=hs i (lo+(hi-lo)/2) (by lia) (by lia)
     lia
    ·have:=hs (lo+(hi-lo)/2) i (by lia) (by lia)
     lia
  ·rintro c st' ⟨rfl,lo,hi,rfl,k1,k2,k3,k4,k5⟩
   have:lo=hi:=by lia
   subst this
   exact⟨rfl,lo,rfl,k2,k4,k5⟩
  ·rintro c st' ⟨rfl,hi,rfl,k2,k4,k5⟩
   rw[hg]
   exact Zw (h hi k2 k4 k5)
 refine Zp (a2i' C ha hy hk (by lia) ?_)
 by_cases hr:R K arr (base+hint)<thr K left key
 ·rw[Zy hr]
  refine Zp (wpS_mono (Z9 (I:=fun x c st'=>st'=st∧∃l o,c=(none,l,o)∧l<o∧x+1≤o∧hint+l<n∧R K arr (base+(hint+l))<thr K left key)
   (Q:=fun c st'=>st'=st∧∃l o,c=(none,l,o)∧l<o∧hint+l<n∧R K arr (base+(hint+l))<thr K left key∧(n-hint≤o∨(hint+o<n∧thr K left key≤R K arr (base+(hint+o))))) ?_ ?_ ⟨rfl,0,1,rfl,by lia,by lia,by lia,hr⟩) ?_)
  ·rintro x c st' _ hx ⟨rfl,l,o,rfl,k1,k2,k3,k4⟩
   dsimp only
   by_cases ho:o≥n-hint
   ·rw[if_pos ho]
    exact Zw ⟨rfl,l,o,rfl,k1,k3,k4,.inl ho⟩
   ·rw[if_neg ho]
    refine Zp (a2i' C ha hy hk (by lia) ?_)
    by_cases hm:R K arr (base+(hint+o))<thr K left key
    ·rw[Zy hm]
     exact Zw ⟨rfl,o,2*o+1,rfl,by lia,by lia,by lia,hm⟩
    ·rw[Zz hm]
     exact Zw ⟨rfl,l,o,rfl,k1,k3,k4,.inr ⟨by lia,by lia⟩⟩
  ·rintro c st' ⟨rfl,l,o,rfl,k1,k2,k3,k4⟩
   exact⟨rfl,l,o,rfl,k1,k3,k4,.inl (by lia)⟩
  ·rintro c st' ⟨rfl,l,o,rfl,k1,k3,k4,k5⟩
   refine last (hint+l+1) (hint+min o (n-hint)) (by lia) (by lia) (fun i hi=>?_) (fun i h1 h2=>?_) (fun x lo hi h1 h2 Q' q1 q2=>?_) (fun x lo hi h1=>if_pos h1) (fun lo hi=>rfl)
   ·have:=hs i (hint+l) (by lia) (by lia)
    lia
   ·rcases k5 with k5| ⟨k5,k6⟩
    ·lia
    ·have:=hs (hint+o) i (by lia) (by lia)
     lia
   ·dsimp only
    rw[if_neg (by lia)]
    refine Zp (a2i' C ha hy hk (by lia) ?_)
    by_cases hm:R K arr (base+(lo+(hi-lo)/2))<thr K left key
    ·rw[Zy hm];exact Zw (q1 hm)
    ·rw[Zz hm];exact Zw (q2 hm)
 ·rw[Zz hr]
  refine Zp (wpS_mono (Z9 (I:=fun x c st'=>st'=st∧∃l o,c=(none,l,o)∧l<o∧x+1≤o∧l≤hint∧thr K left key≤R K arr (base+(hint-l)))
   (Q:=fun c st'=>st'=st∧∃l o,c=(none,l,o)∧l<o∧l≤hint∧thr K left key≤R K arr (base+(hint-l))∧(hint+1≤o∨(o≤hint∧R K arr (base+(hint-o))<thr K left key))) ?_ ?_ ⟨rfl,0,1,rfl,by lia,by lia,by lia,by simpa using hr⟩) ?_)
  ·rintro x c st' _ hx ⟨rfl,l,o,rfl,k1,k2,k3,k4⟩
   dsimp only
   by_cases ho:o≥hint+1
   ·rw[if_pos ho]
    exact Zw ⟨rfl,l,o,rfl,k1,k3,k4,.inl ho⟩
   ·rw[if_neg ho]
    refine Zp (a2i' C ha hy hk (by lia) ?_)
    by_cases hm:R K arr (base+(hint-o))<thr K left key
    ·rw[Zy hm]
     exact Zw ⟨rfl,l,o,rfl,k1,k3,k4,.inr ⟨by lia,hm⟩⟩
    ·rw[Zz hm]
     exact Zw ⟨rfl,o,2*o+1,rfl,by lia,by lia,by lia,by lia⟩
  ·rintro c st' ⟨rfl,l,o,rfl,k1,k2,k3,k4⟩
   exact⟨rfl,l,o,rfl,k1,k3,k4,.inl (by lia)⟩
  ·rintro c st' ⟨rfl,l,o,rfl,k1,k3,k4,k5⟩
   refine last (hint+1-min o (hint+1)) (hint-l) (by lia) (by lia) (fun i hi=>?_) (fun i h1 h2=>?_) (fun x lo hi h1 h2 Q' q1 q2=>?_) (fun x lo hi h1=>if_pos h1) (fun lo hi=>rfl)
   ·rcases k5 with k5| ⟨k5,k6⟩
    ·lia
    ·have:=hs i (hint-o) (by lia) (by lia)
     lia
   ·have:=hs (hint-l) i (by lia) (by lia)
    lia
   ·dsimp only
    rw[if_neg (by lia)]
    refine Zp (a2i' C ha hy hk (by lia) ?_)
    by_cases hm:R K arr (base+(lo+(hi-lo)/2))<thr K left key
    ·rw[Zy hm];exact Zw (q1 hm)
    ·rw[Zz hm];exact Zw (q2 hm)
end
end Srt
end
section
set_option autoImplicit false
namespace Srt
open PySem PyProof.Rows
section
variable {K:Keyed→Nat}
def LS(K:Keyed→Nat)(l:List Keyed):Prop:=l.Pairwise fun x y=>K x≤K y
def Good(K:Keyed→Nat)(tot:List Keyed)(r:Array Keyed):Prop:=r.toList.Perm tot∧LS K r.toList
structure MI (K:Keyed→Nat)(tot o ra rb:List Keyed):Prop where
 perm:(o++ra++rb).Perm tot
 so:LS K o
 sa:LS K ra
 sb:LS K rb
 oa:∀x∈o,∀y∈ra,K x≤K y
 ob:∀x∈o,∀y∈rb,K x≤K y
variable {tot o ra rb c:List Keyed}
theorem MI.stepA(h:MI K tot o (c++ra) rb)(hc:∀x∈c,∀y∈rb,K x≤K y):MI K tot (o++c) ra rb:=by
 have sa:=ZP.mp h.sa
 refine⟨?_,ZP.mpr ⟨h.so,sa.1,fun x hx y hy=>h.oa x hx y (Z0 _ hy)⟩,sa.2.1,h.sb,fun x hx y hy=>?_,fun x hx y hy=>?_⟩
 ·have:=h.perm
  rwa [←Zu]at this
 ·rcases ZB.mp hx with z|z
  ·exact h.oa x z y (ZE _ hy)
  ·exact sa.2.2 x z y hy
 ·rcases ZB.mp hx with z|z
  ·exact h.ob x z y hy
  ·exact hc x z y hy
theorem MI.stepB(h:MI K tot o ra (c++rb))(hc:∀x∈c,∀y∈ra,K x≤K y):MI K tot (o++c) ra rb:=by
 have sb:=ZP.mp h.sb
 refine⟨?_,ZP.mpr ⟨h.so,sb.1,fun x hx y hy=>h.ob x hx y (Z0 _ hy)⟩,h.sa,sb.2.1,fun x hx y hy=>?_,fun x hx y hy=>?_⟩
 ·refine List.Perm.trans ?_ h.perm
  rw[Zu,Zu,Zu]
  refine List.Perm.append_left _ ?_
  rw[←Zu,←Zu]
  exact List.Perm.append_right _ List.perm_append_comm
 ·rcases ZB.mp hx with z|z
  ·exact h.oa x z y hy
  ·exact hc x z y hy
 ·rcases ZB.mp hx with z|z
  ·exact h.ob x z y (ZE _ hy)
  ·exact sb.2.2 x z y hy
theorem MI.done(h:MI K tot o ra []):(o++ra++[]).Perm tot∧LS K (o++ra++[]):=by
 refine⟨h.perm,?_⟩
 rw[List.append_nil]
 exact ZP.mpr ⟨h.so,h.sa,h.oa⟩
theorem MI.last(h:MI K tot o ra rb)(hb:∀y∈rb,∀z∈ra,K y≤K z):(o++rb++ra).Perm tot∧LS K (o++rb++ra):=by
 refine⟨List.Perm.trans ?_ h.perm,ZP.mpr ⟨ZP.mpr ⟨h.so,h.sb,h.ob⟩,h.sa,fun x hx y hy=>?_⟩⟩
 ·rw[Zu,Zu]
  exact List.Perm.append_left _ List.perm_append_comm
 ·rcases ZB.mp hx with z|z
  ·exact h.oa x z y hy
  ·exact hb x z y hy
theorem a6e'{a:Array Keyed}{i:Nat}:(a.extract i).toList=a.toList.drop i:=by
 rw[Array.toList_extract]
 unfold List.extract
 rw[List.take_of_length_le (by simp)]
theorem b1c'{a:Array Keyed}{i k:Nat}:(a.extract i (i+k)).toList=(a.toList.drop i).take k:=by
 rw[Array.toList_extract]
 unfold List.extract
 rw[Nat.add_sub_cancel_left]
theorem a8P'{a:Array Keyed}{i:Nat}(h:i<a.size):a.toList.drop i=a[i]::a.toList.drop (i+1):=by
 rw[ZZ (by simpa using h)]
 rfl
theorem a6Q'{a:Array Keyed}{i k:Nat}:a.toList.drop i=(a.toList.drop i).take k++a.toList.drop (i+k):=by
 rw[←List.drop_drop,List.take_append_drop]
theorem LS.mono{a:Array Keyed}(h:LS K a.toList){i j:Nat}(hij:i≤j)(hj:j<a.size):R K a i≤R K a j:=by
 rw[R_of hj,R_of (show i<a.size by lia)]
 rcases Nat.lt_or_ge i j with z|z
 ·exact List.pairwise_iff_getElem.mp h i j (by simp;lia) (by simpa using hj) z
 ·have:i=j:=by lia
  subst this;exact Zj _
theorem a2j'{a:Array Keyed}{i k:Nat}{x:Keyed}(h:x∈(a.toList.drop i).take k):∃j,j<k∧i+j<a.size∧K x=R K a (i+j):=by
 obtain⟨j,hj,rfl⟩:=ZV.mp h
 simp only[Z8,List.length_drop,ZI]at hj
 refine⟨j,by lia,by lia,?_⟩
 rw[R_of (show i+j<a.size by lia)]
 simp
theorem a8a'{a:Array Keyed}{i:Nat}{x:Keyed}(h:x∈a.toList.drop i):∃j,i≤j∧j<a.size∧K x=R K a j:=by
 obtain⟨j,hj,rfl⟩:=ZV.mp h
 simp only[List.length_drop,ZI]at hj
 refine⟨i+j,by lia,by lia,?_⟩
 rw[R_of (show i+j<a.size by lia)]
 simp
end
def a0J'(st:SortSt)(g:Nat):SortSt:=SortSt.mk' (kindOf st) (arrOf st) (pendingOf st) g (failedOf st)
section
variable {prog:Program}{w:World}{A:Around}{E:Value→Shared→Prop}{s:Shared}{st:SortSt}{κ:SortKind}{P:Keyed→Prop}{K:Keyed→Nat}
structure ML (K:Keyed→Nat)(a b out:Array Keyed)(ia ib:Nat):Prop where
 mi:MI K (a.toList++b.toList) out.toList (a.toList.drop ia) (b.toList.drop ib)
 la:ia+1<a.size
 lb:ib<b.size
variable {a b out:Array Keyed}{ia ib:Nat}
theorem a4q'(h:MI K (a.toList++b.toList) out.toList (a.toList.drop ia) (b.toList.drop ib))(e:ib=b.size):Good K (a.toList++b.toList) (out++a.extract ia++b.extract ib):=by
 have e1:b.toList.drop ib=[]:=List.drop_eq_nil_of_le (by simp;lia)
 unfold Good
 rw[ZY,ZY,a6e',a6e',e1]
 rw[e1]at h
 exact h.done
theorem a4r'(hl:∀y∈b.toList,K y<R K a (a.size-1))(h:MI K (a.toList++b.toList) out.toList (a.toList.drop ia) (b.toList.drop ib))(e:ia+1=a.size):Good K (a.toList++b.toList) (out++b.extract ib++a.extract ia):=by
 unfold Good
 rw[ZY,ZY,a6e',a6e']
 refine h.last fun y hy z hz=>?_
 obtain⟨j,h1,h2,e2⟩:=a8a' (K:=K) hz
 have:=hl y (List.mem_of_mem_drop hy)
 rw[e2,show j=a.size-1 by lia]
 lia
theorem mi_a(h:MI K (a.toList++b.toList) out.toList (a.toList.drop ia) (b.toList.drop ib))(hi:ia<a.size)(hc:∀y∈b.toList.drop ib,K a[ia]≤K y):MI K (a.toList++b.toList) (out.push a[ia]).toList (a.toList.drop (ia+1)) (b.toList.drop ib):=by
 rw[Array.toList_push]
 refine MI.stepA (c:=[a[ia]]) ?_ fun x hx y hy=>?_
 ·rw[a8P' hi]at h;exact h
 ·rw[ZR.mp hx];exact hc y hy
theorem mi_b(h:MI K (a.toList++b.toList) out.toList (a.toList.drop ia) (b.toList.drop ib))(hi:ib<b.size)(hc:∀y∈a.toList.drop ia,K b[ib]≤K y):MI K (a.toList++b.toList) (out.push b[ib]).toList (a.toList.drop ia) (b.toList.drop (ib+1)):=by
 rw[Array.toList_push]
 refine MI.stepB (c:=[b[ib]]) ?_ fun x hx y hy=>?_
 ·rw[a8P' hi]at h;exact h
 ·rw[ZR.mp hx];exact hc y hy
theorem mi_as{k:Nat}(h:MI K (a.toList++b.toList) out.toList (a.toList.drop ia) (b.toList.drop ib))(hc:∀i,i<k→∀y∈b.toList.drop ib,R K a (ia+i)≤K y):MI K (a.toList++b.toList) (out++a.extract ia (ia+k)).toList (a.toList.drop (ia+k)) (b.toList.drop ib):=by
 rw[ZY,b1c']
 refine MI.stepA ?_ fun x hx y hy=>?_
 ·rw[←a6Q'];exact h
 ·obtain⟨j,h1,h2,e⟩:=a2j' (K:=K) hx
  rw[e];exact hc j h1 y hy
theorem mi_bs{k:Nat}(h:MI K (a.toList++b.toList) out.toList (a.toList.drop ia) (b.toList.drop ib))(hc:∀i,i<k→∀y∈a.toList.drop ia,R K b (ib+i)≤K y):MI K (a.toList++b.toList) (out++b.extract ib (ib+k)).toList (a.toList.drop ia) (b.toList.drop (ib+k)):=by
 rw[ZY,b1c']
 refine MI.stepB ?_ fun x hx y hy=>?_
 ·rw[←a6Q'];exact h
 ·obtain⟨j,h1,h2,e⟩:=a2j' (K:=K) hx
  rw[e];exact hc j h1 y hy
end
end Srt
end
section
set_option autoImplicit false
namespace Srt
open PySem PyProof.Rows
abbrev GS7:=Option (Array Keyed)×Array Keyed×Nat×Nat×Nat×Nat×Nat
def YG(K:Keyed→Nat)(a b:Array Keyed)(st:SortSt)(n:Nat)(c:GS7)(st':SortSt):Prop:=(∃g,st'=a0J' st g)∧∃out ja jb mg ac bc,c=(none,out,ja,jb,mg,ac,bc)∧ML K a b out ja jb∧n≤ja+jb
def DG(K:Keyed→Nat)(a b:Array Keyed)(st:SortSt)(n:Nat)(c:GS7)(st':SortSt):Prop:=(∃g,st'=a0J' st g)∧((∃r c',c=(some r,c')∧Good K (a.toList++b.toList) r)∨∃out ja jb mg ac bc,c=(none,out,ja,jb,mg,ac,bc)∧ML K a b out ja jb∧n≤ja+jb)
def Post{γ:Type}(D Y:γ→SortSt→Prop):ForInStep γ→SortSt→Prop:=fun r st'=>match r with
 | .done c=>D c st'
 | .yield c=>Y c st'
theorem sel0{X:Type _}{p:X→Prop}{c:Prop}{dc:Decidable c}{f:Nat→X}{o2:Nat}(key:∀o,p (f o)):∀o1,p (if c then f o1 else f o2):=fun o1=>by split<;>exact key _
theorem sel1{X:Type _}{p:X→Prop}{c:Prop}{c1:Nat→Prop}{dc:Decidable c}{dc1:∀j,Decidable (c1 j)}{x1 f:Array Keyed→Nat→X}{o2:Array Keyed}{j2:Nat}{C H:Array Keyed→Nat→Prop}(key:∀o j,C o j→p (f o j))(h0:¬c→C o2 j2)(h1:∀o j,H o j→c1 j→p (x1 o j))(h3:∀o j,H o j→¬c1 j→C o j):
  ∀j1 o1,H o1 j1→p (if c then(if c1 j1 then x1 o1 j1 else f o1 j1)else f o2 j2):=fun j1 o1 h=>by
 by_cases hc:c
 ·rw[if_pos hc]
  by_cases hc1:c1 j1
  ·rw[if_pos hc1];exact h1 _ _ h hc1
  ·rw[if_neg hc1];exact key _ _ (h3 _ _ h hc1)
 ·rw[if_neg hc];exact key _ _ (h0 hc)
theorem sel2{X:Type _}{p:X→Prop}{c:Prop}{c1 c2:Nat→Prop}{dc:Decidable c}{dc1:∀j,Decidable (c1 j)}{dc2:∀j,Decidable (c2 j)}{x1 x2 f:Array Keyed→Nat→X}{o2:Array Keyed}{j2:Nat}{C H:Array Keyed→Nat→Prop}(key:∀o j,C o j→p (f o j))(h0:¬c→C o2 j2)(h1:∀o j,H o j→c1 j→p (x1 o j))(h2:∀o j,H o j→¬c1 j→¬c2 j)(h3:∀o j,H o j→¬c1 j→C o j):
  ∀j1 o1,H o1 j1→p (if c then(if c1 j1 then x1 o1 j1 else if c2 j1 then x2 o1 j1 else f o1 j1)else f o2 j2):=fun j1 o1 h=>by
 by_cases hc:c
 ·rw[if_pos hc]
  by_cases hc1:c1 j1
  ·rw[if_pos hc1];exact h1 _ _ h hc1
  ·rw[if_neg hc1,if_neg (h2 _ _ h hc1)];exact key _ _ (h3 _ _ h hc1)
 ·rw[if_neg hc];exact key _ _ (h0 hc)
section
variable {prog:Program}{w:World}{A:Around}{E:Value→Shared→Prop}{s:Shared}{st:SortSt}{κ:SortKind}{P:Keyed→Prop}{K:Keyed→Nat}{a b:Array Keyed}
theorem a9F'(C:Cmp prog w A s κ P K)(hk:kindOf st=κ)(ha:∀x∈a.toList,P x)(hb:∀x∈b.toList,P x)(sa:LS K a.toList)(sb:LS K b.toList)(a1:1≤a.size)(b1:1≤b.size)
  (h0:R K b 0<R K a 0) (hl:∀y∈b.toList,K y<R K a (a.size-1)) {Q:Array Keyed→SortSt→Prop} (h:∀r g,Good K (a.toList++b.toList) r→Q r (a0J' st g)):wpS (model prog w) A E s (b5a' a b) Q st:=by
 have hB:∀{i:Nat} (hi:i<b.size),R K b i=K b[i]:=fun hi=>R_of hi
 have hA:∀{i:Nat} (hi:i<a.size),R K a i=K a[i]:=fun hi=>R_of hi
 have pA:∀{i:Nat} (hi:i<a.size),P a[i]:=fun hi=>ha _ (by simp)
 have pB:∀{i:Nat} (hi:i<b.size),P b[i]:=fun hi=>hb _ (by simp)
 have lA:∀{i j:Nat},i≤j→j<a.size→R K a i≤R K a j:=fun h1 h2=>sa.mono h1 h2
 have lB:∀{i j:Nat},i≤j→j<b.size→R K b i≤R K b j:=fun h1 h2=>sb.mono h1 h2
 have dA:∀{i:Nat} {c:Nat},(∀j,i≤j→j<a.size→c≤R K a j)→∀y∈a.toList.drop i,c≤K y:=fun hc y hy=>by
  obtain⟨j,h1,h2,e⟩:=a8a' (K:=K) hy
  rw[e];exact hc j h1 h2
 have dB:∀{i:Nat} {c:Nat},(∀j,i≤j→j<b.size→c≤R K b j)→∀y∈b.toList.drop i,c≤K y:=fun hc y hy=>by
  obtain⟨j,h1,h2,e⟩:=a8a' (K:=K) hy
  rw[e];exact hc j h1 h2
 have hlb:∀{i:Nat} (hi:i<b.size),R K b i<R K a (a.size-1):=fun hi=>by rw[hB hi];exact hl _ (by simp)
 have m0:MI K (a.toList++b.toList) #[b[0]].toList (a.toList.drop 0) (b.toList.drop 1):=by
  have m:MI K (a.toList++b.toList) (#[]:Array Keyed).toList (a.toList.drop 0) (b.toList.drop 0):=⟨.refl _,.nil,sa,sb,fun x hx=>by simp at hx,fun x hx=>by simp at hx⟩
  exact mi_b m (by lia) (dA fun j h1 h2=>by rw[←hB];have:=lA (i:=0) (j:=j) (by lia) h2;lia)
 have kg:∀g,kindOf (a0J' st g)=κ:=fun g=>hk
 have gg:∀g g',a0J' (a0J' st g) g'=a0J' st g':=fun _ _=>rfl
 refine Zp (wpS_lift (wpAny_rule ⟨rfl,?_⟩))
 refine Zp (a0r' (by lia) ?_)
 dsimp only
 by_cases e1:1=b.size
 ·rw[if_pos (by simpa using e1)]
  exact Zw (h _ (gallopOf st) (a4q' m0 e1))
 rw[if_neg (by simpa using e1)]
 by_cases e2:0+1=a.size
 ·rw[if_pos (by simpa using e2)]
  exact Zw (h _ (gallopOf st) (a4r' hl m0 e2))
 rw[if_neg (by simpa using e2)]
 refine Zp (wpS_get ?_)
 refine Zp (wpS_mono (Z9 (I:=fun x c st'=>(∃g,st'=a0J' st g)∧∃out ia ib mg,c=(none,out,ia,ib,mg)∧ML K a b out ia ib∧x≤ia+ib)
  (Q:=fun c st'=>(∃g,st'=a0J' st g)∧∃r c',c=(some r,c')∧Good K (a.toList++b.toList) r) ?_ ?_ ⟨⟨gallopOf st,rfl⟩,_,_,_,_,rfl,⟨m0,by lia,by lia⟩,by lia⟩) ?_)
 case _=>
  rintro x c st' _ hx ⟨⟨g,rfl⟩,out,ia,ib,mg,rfl,m,hp⟩
  dsimp only
  refine Zp (wpS_mono (Z9 (I:=fun y c st'=>st'=a0J' st g∧∃out ia' ib' ac bc,c=(none,out,ia',ib',ac,bc)∧ML K a b out ia' ib'∧ia+ib+y≤ia'+ib')
   (Q:=fun c st'=>st'=a0J' st g∧((∃r c',c=(some r,c')∧Good K (a.toList++b.toList) r)∨∃out ia' ib' ac bc,c=(none,out,ia',ib',ac,bc)∧ML K a b out ia' ib'∧ia+ib+1≤ia'+ib')) ?_ ?_ ⟨rfl,_,_,_,_,_,rfl,m,by lia⟩) ?_)
  ·rintro y c st' _ hy ⟨rfl,out,ia',ib',ac,bc,rfl,m,hp'⟩
   have la:=m.la
   have lb:=m.lb
   dsimp only
   refine Zp (a0r' lb ?_)
   refine Zp (a0r' (by lia) ?_)
   refine Zp (b1b' C (pB lb) (pA (by lia)) (kg g) ?_)
   by_cases hw:K b[ib']<K a[ia']
   ·rw[Zy hw]
    refine Zp (a0r' lb ?_)
    have m':=mi_b m.mi lb (dA fun j h1 h2=>by have:=lA h1 h2;rw[hA (show ia'<a.size by lia)]at this;lia)
    by_cases e:ib'+1=b.size
    ·rw[if_pos (by simpa using e)]
     exact Zw ⟨rfl,.inl ⟨_,_,rfl,a4q' m' e⟩⟩
    ·rw[if_neg (by simpa using e)]
     by_cases hg:bc+1≥mg
     ·rw[if_pos hg];exact Zw ⟨rfl,.inr ⟨_,_,_,_,_,rfl,⟨m',la,by lia⟩,by lia⟩⟩
     ·rw[if_neg hg];exact Zw ⟨rfl,_,_,_,_,_,rfl,⟨m',la,by lia⟩,by lia⟩
   ·rw[Zz hw]
    refine Zp (a0r' (by lia) ?_)
    have m':=mi_a m.mi (show ia'<a.size by lia) (dB fun j h1 h2=>by have:=lB h1 h2;rw[hB lb]at this;lia)
    by_cases e:ia'+1+1=a.size
    ·rw[if_pos (by simpa using e)]
     exact Zw ⟨rfl,.inl ⟨_,_,rfl,a4r' hl m' e⟩⟩
    ·rw[if_neg (by simpa using e)]
     by_cases hg:ac+1≥mg
     ·rw[if_pos hg];exact Zw ⟨rfl,.inr ⟨_,_,_,_,_,rfl,⟨m',by lia,lb⟩,by lia⟩⟩
     ·rw[if_neg hg];exact Zw ⟨rfl,_,_,_,_,_,rfl,⟨m',by lia,lb⟩,by lia⟩
  ·rintro c st' ⟨rfl,out,ia',ib',ac,bc,rfl,m,hp'⟩
   have la:=m.la
   have lb:=m.lb
   exfalso;lia
  ·rintro c st' ⟨rfl,⟨r,c',rfl,gd⟩| ⟨out,ia',ib',ac,bc,rfl,m,hp'⟩⟩
   ·exact Zw ⟨⟨g,rfl⟩,r,_,rfl,gd⟩
   ·refine Zp (wpS_lift (wpAny_rule ⟨rfl,?_⟩))
    refine Zp (wpS_mono (Z9 (I:=fun y=>YG K a b st (ia'+ib'+y)) (Q:=DG K a b st (ia'+ib')) ?_ ?_ ⟨⟨g,rfl⟩,_,_,_,_,_,_,rfl,m,by dsimp only;lia⟩) ?_)
    ·rintro y c st' _ hy ⟨⟨g1,rfl⟩,out,ja,jb,mg1,ac1,bc1,rfl,m,hq⟩
     have la:=m.la
     have lb:=m.lb
     dsimp only
     show wpS (model prog w) A E s _ (Post (DG K a b st (ia'+ib')) (YG K a b st (ia'+ib'+(y+1)))) (a0J' st g1)
     generalize mg1-1=q
     revert q
     refine sel0 (p:=fun m=>wpS (model prog w) A E s m (Post (DG K a b st (ia'+ib')) (YG K a b st (ia'+ib'+(y+1)))) (a0J' st g1)) fun mg2=>?_
     refine Zp (wpS_modify (show wpS _ _ _ _ _ _ (a0J' st mg2)from ?_))
     refine Zp (a0r' lb ?_)
     refine Zp (a1E' C ha (pB lb) (kg mg2) (by lia) (by lia) (fun i j h1 h2=>lA (by lia) (by lia)) fun k k1 k2 k3=>?_)
     have t1:thr K false b[jb]=R K b jb+1:=by rw[hB lb];rfl
     rw[t1]at k2 k3
     have kn:k<a.size-ja:=by
      rcases Nat.lt_or_ge k (a.size-ja)with z|z
      ·exact z
      ·have h1:=k2 (a.size-ja-1) (by lia)
       have e:=hlb lb
       rw[show ja+(a.size-ja-1)=a.size-1 by lia]at h1
       lia
     have z0:∀j,ja+k≤j→j<a.size→R K b jb≤R K a j:=fun j h1 h2=>by
      have:=k3 (j-ja) (by lia) (by lia)
      rw[show ja+(j-ja)=j by lia]at this
      lia
     have mk:=mi_as m.mi (k:=k) fun i hi y hy=>by
      have h1:=k2 i hi
      have:=dB (i:=jb) (c:=R K b jb) (fun j h1 h2=>lB h1 h2) y hy
      lia
     dsimp only
     have H1:MI K (a.toList++b.toList) (out++a.extract ja (ja+k)).toList (a.toList.drop (ja+k)) (b.toList.drop jb)∧ja≤ja+k∧ja+k<a.size∧∀j,ja+k≤j→j<a.size→R K b jb≤R K a j:=⟨mk,by lia,by lia,z0⟩
     have c0:¬k>0→ML K a b out ja jb∧ia'+ib'+y≤ja+jb∧∀i,ja≤i→i<a.size→R K b jb≤R K a i:=fun hk0=>⟨m,hq,fun j h1 h2=>z0 j (by lia) h2⟩
     revert H1
     generalize ja+k=ja1
     generalize out++a.extract ja ja1=out1
     revert out1 ja1
     refine sel2 (p:=fun m=>wpS (model prog w) A E s m (Post (DG K a b st (ia'+ib')) (YG K a b st (ia'+ib'+(y+1)))) (a0J' st mg2)) (C:=fun o j=>ML K a b o j jb∧ia'+ib'+y≤j+jb∧∀i,j≤i→i<a.size→R K b jb≤R K a i) (H:=fun o j=>MI K (a.toList++b.toList) o.toList (a.toList.drop j) (b.toList.drop jb)∧ja≤j∧j<a.size∧∀i,j≤i→i<a.size→R K b jb≤R K a i) (fun out ja hC=>?_) c0 (fun o j hH e=>?_) (fun o j hH e=>?_) (fun o j hH e=>?_)
     rotate_left
     ·exact Zw ⟨⟨mg2,rfl⟩,.inl ⟨_,_,rfl,a4r' hl hH.1 (by simpa using e)⟩⟩
     ·have:=hH.2.2.1;simp;lia
     ·exact⟨⟨hH.1,by have:=hH.2.2.1;simp at e;lia,lb⟩,by have:=hH.2.1;lia,hH.2.2.2⟩
     clear mk z0 kn k2 k3 hq m
     obtain⟨m,hq,hge⟩:=hC
     have la:=m.la
     refine Zp (a0r' lb ?_)
     have m':=mi_b m.mi lb (dA fun j h1 h2=>by rw[←hB lb];exact hge j h1 h2)
     by_cases e:jb+1=b.size
     ·rw[if_pos (by simpa using e)]
      exact Zw ⟨⟨mg2,rfl⟩,.inl ⟨_,_,rfl,a4q' m' e⟩⟩
     rw[if_neg (by simpa using e)]
     refine Zp (a0r' (show ja<a.size by lia) ?_)
     refine Zp (a1E' C hb (pA (show ja<a.size by lia)) (kg mg2) (by lia) (by lia) (fun i j h1 h2=>lB (by lia) (by lia)) fun k' k1' k2' k3'=>?_)
     have t2:thr K true a[ja]=R K a ja:=by rw[hA (show ja<a.size by lia)];rfl
     rw[t2]at k2' k3'
     have z1:∀j,jb+1+k'≤j→j<b.size→R K a ja≤R K b j:=fun j h1 h2=>by
      have:=k3' (j-(jb+1)) (by lia) (by lia)
      rwa [show jb+1+(j-(jb+1))=j by lia]at this
     have mk:=mi_bs m' (k:=k') fun i hi y hy=>by
      have h1:=k2' i hi
      have:=dA (i:=ja) (c:=R K a ja) (fun j h1 h2=>lA h1 h2) y hy
      lia
     dsimp only
     have H2:MI K (a.toList++b.toList) (out.push b[jb]++b.extract (jb+1) (jb+1+k')).toList (a.toList.drop ja) (b.toList.drop (jb+1+k'))∧jb+1+k'≤b.size∧jb+1≤jb+1+k'∧∀j,jb+1+k'≤j→j<b.size→R K a ja≤R K b j:=⟨mk,by lia,by lia,z1⟩
     have c0:¬k'>0→MI K (a.toList++b.toList) (out.push b[jb]).toList (a.toList.drop ja) (b.toList.drop (jb+1))∧jb+1<b.size∧jb+1≤jb+1∧∀i,jb+1≤i→i<b.size→R K a ja≤R K b i:=fun hk0=>⟨m',by lia,by lia,fun j h1 h2=>z1 j (by lia) h2⟩
     revert H2
     generalize jb+1+k'=jb1
     generalize out.push b[jb]++b.extract (jb+1) jb1=out1
     revert out1 jb1
     refine sel1 (p:=fun m=>wpS (model prog w) A E s m (Post (DG K a b st (ia'+ib')) (YG K a b st (ia'+ib'+(y+1)))) (a0J' st mg2)) (C:=fun o j=>MI K (a.toList++b.toList) o.toList (a.toList.drop ja) (b.toList.drop j)∧j<b.size∧jb+1≤j∧∀i,j≤i→i<b.size→R K a ja≤R K b i) (H:=fun o j=>MI K (a.toList++b.toList) o.toList (a.toList.drop ja) (b.toList.drop j)∧j≤b.size∧jb+1≤j∧∀i,j≤i→i<b.size→R K a ja≤R K b i) (fun out jb' hC=>?_) c0 (fun o j hH e'=>?_) (fun o j hH e'=>?_)
     rotate_left
     ·exact Zw ⟨⟨mg2,rfl⟩,.inl ⟨_,_,rfl,a4q' hH.1 (by simpa using e')⟩⟩
     ·exact⟨hH.1,by have:=hH.2.1;simp at e';lia,hH.2.2.1,hH.2.2.2⟩
     obtain⟨m2,hb',hq',hge'⟩:=hC
     refine Zp (a0r' (show ja<a.size by lia) ?_)
     have m3:=mi_a m2 (show ja<a.size by lia) (dB fun j h1 h2=>by rw[←hA (show ja<a.size by lia)];exact hge' j h1 h2)
     by_cases e:ja+1+1=a.size
     ·rw[if_pos (by simpa using e)]
      exact Zw ⟨⟨mg2,rfl⟩,.inl ⟨_,_,rfl,a4r' hl m3 e⟩⟩
     rw[if_neg (by simpa using e)]
     by_cases hg:(decide (k<7)&&decide (k'<7))=true
     ·rw[if_pos hg]
      exact Zw ⟨⟨mg2,rfl⟩,.inr ⟨_,_,_,_,_,_,rfl,⟨m3,by lia,hb'⟩,by lia⟩⟩
     ·rw[if_neg hg]
      exact Zw ⟨⟨mg2,rfl⟩,_,_,_,_,_,_,rfl,⟨m3,by lia,hb'⟩,by lia⟩
    ·rintro c st' ⟨⟨g1,rfl⟩,out,ja,jb,mg1,ac1,bc1,rfl,m,hq⟩
     have la:=m.la
     have lb:=m.lb
     exfalso;lia
    ·rintro c st' ⟨⟨g1,rfl⟩,⟨r,c',rfl,gd⟩| ⟨out,ja,jb,mg1,ac1,bc1,rfl,m,hq⟩⟩
     ·exact Zw ⟨⟨g1,rfl⟩,r,_,rfl,gd⟩
     ·refine Zp (wpS_modify (?_:wpS _ _ _ _ _ _ (a0J' st (mg1+1))))
      exact Zw ⟨⟨_,rfl⟩,_,_,_,_,rfl,m,by dsimp only;lia⟩
 case _=>
  rintro c st' ⟨⟨g,rfl⟩,out,ia,ib,mg,rfl,m,hp⟩
  have la:=m.la
  have lb:=m.lb
  exfalso;lia
 case _=>
  rintro c st' ⟨⟨g,rfl⟩,r,c',rfl,gd⟩
  exact Zw (h r g gd)
end
end Srt
end
section
set_option autoImplicit false
namespace Srt
open PySem PyProof.Rows
section
variable {K:Keyed→Nat}
structure MH (K:Keyed→Nat)(tot ra rb o:List Keyed):Prop where
 perm:(ra++rb++o).Perm tot
 sa:LS K ra
 sb:LS K rb
 so:LS K o
 ao:∀x∈ra,∀y∈o,K x≤K y
 bo:∀x∈rb,∀y∈o,K x≤K y
variable {tot o ra rb c:List Keyed}
theorem MH.stepA(h:MH K tot (ra++c) rb o)(hc:∀x∈rb,∀y∈c,K x≤K y):MH K tot ra rb (c++o):=by
 have sa:=ZP.mp h.sa
 refine⟨?_,sa.1,h.sb,ZP.mpr ⟨sa.2.1,h.so,fun x hx y hy=>h.ao x (ZE _ hx) y hy⟩,fun x hx y hy=>?_,fun x hx y hy=>?_⟩
 ·refine List.Perm.trans ?_ h.perm
  rw[Zu,Zu,Zu]
  refine List.Perm.append_left _ ?_
  rw[←Zu,←Zu]
  exact List.Perm.append_right _ List.perm_append_comm
 ·rcases ZB.mp hy with z|z
  ·exact sa.2.2 x hx y z
  ·exact h.ao x (Z0 _ hx) y z
 ·rcases ZB.mp hy with z|z
  ·exact hc x hx y z
  ·exact h.bo x hx y z
theorem MH.stepB(h:MH K tot ra (rb++c) o)(hc:∀x∈ra,∀y∈c,K x≤K y):MH K tot ra rb (c++o):=by
 have sb:=ZP.mp h.sb
 refine⟨?_,h.sa,sb.1,ZP.mpr ⟨sb.2.1,h.so,fun x hx y hy=>h.bo x (ZE _ hx) y hy⟩,fun x hx y hy=>?_,fun x hx y hy=>?_⟩
 ·have:=h.perm
  rw[←Zu,Zu (ra++rb)]at this
  exact this
 ·rcases ZB.mp hy with z|z
  ·exact hc x hx y z
  ·exact h.ao x hx y z
 ·rcases ZB.mp hy with z|z
  ·exact sb.2.2 x hx y z
  ·exact h.bo x (Z0 _ hx) y z
theorem a8Q'{a:Array Keyed}{i:Nat}(h:i<a.size):a.toList.take (i+1)=a.toList.take i++[a[i]]:=by
 rw[List.take_succ,Ze (by simpa using h)]
 rfl
theorem a8R'{a:Array Keyed}{i j:Nat}(h:i≤j):a.toList.take j=a.toList.take i++(a.extract i j).toList:=by
 rw[Array.toList_extract]
 unfold List.extract
 rw[←List.take_add,show i+(j-i)=j by lia]
theorem a6f'{a:Array Keyed}{j:Nat}:(a.extract 0 j).toList=a.toList.take j:=by
 rw[Array.toList_extract]
 unfold List.extract
 simp
theorem a8b'{a:Array Keyed}{i:Nat}{x:Keyed}(h:x∈a.toList.take i):∃j,j<i∧j<a.size∧K x=R K a j:=by
 obtain⟨j,hj,rfl⟩:=ZV.mp h
 simp only[Z8,ZI]at hj
 refine⟨j,by lia,by lia,?_⟩
 rw[R_of (show j<a.size by lia)]
 simp
theorem b1d'{a:Array Keyed}{i j:Nat}{x:Keyed}(h:x∈(a.extract i j).toList):∃n,i≤n∧n<j∧n<a.size∧K x=R K a n:=by
 rw[Array.toList_extract]at h
 unfold List.extract at h
 obtain⟨n,h1,h2,e⟩:=a2j' (K:=K) h
 exact⟨i+n,by lia,by lia,h2,e⟩
end
section
variable {prog:Program}{w:World}{A:Around}{E:Value→Shared→Prop}{s:Shared}{st:SortSt}{κ:SortKind}{P:Keyed→Prop}{K:Keyed→Nat}
abbrev MT(K:Keyed→Nat)(a b out:Array Keyed)(na nb:Nat):Prop:=MH K (a.toList++b.toList) (a.toList.take na) (b.toList.take nb) out.toList.reverse
structure MR (K:Keyed→Nat)(a b out:Array Keyed)(na nb:Nat):Prop where
 mt:MT K a b out na nb
 la:1≤na
 lb:2≤nb
 za:na≤a.size
 zb:nb≤b.size
variable {a b out:Array Keyed}{na nb:Nat}
theorem a3u'(h:MT K a b out na nb)(e:na=0):Good K (a.toList++b.toList) (a.extract 0 na++b.extract 0 nb++out.reverse):=by
 unfold Good
 rw[ZY,ZY,a6f',a6f',Array.toList_reverse]
 refine⟨h.perm,?_⟩
 subst e
 rw[List.take_zero,List.nil_append]
 exact ZP.mpr ⟨h.sb,h.so,h.bo⟩
theorem a3v'(h0:∀y∈a.toList,R K b 0≤K y)(h:MT K a b out na nb)(e:nb=1):Good K (a.toList++b.toList) (b.extract 0 nb++a.extract 0 na++out.reverse):=by
 unfold Good
 rw[ZY,ZY,a6f',a6f',Array.toList_reverse]
 refine⟨List.Perm.trans (List.Perm.append_right _ List.perm_append_comm) h.perm,ZP.mpr ⟨ZP.mpr ⟨h.sb,h.sa,fun x hx y hy=>?_⟩,h.so,fun x hx y hy=>?_⟩⟩
 ·obtain⟨j,h1,h2,e2⟩:=a8b' (K:=K) hx
  rw[e2,show j=0 by lia]
  exact h0 y (List.mem_of_mem_take hy)
 ·rcases ZB.mp hx with z|z
  ·exact h.bo x z y hy
  ·exact h.ao x z y hy
theorem mt_a(h:MT K a b out (na+1) nb)(hi:na<a.size)(hc:∀x∈b.toList.take nb,K x≤R K a na):MT K a b (out.push a[na]) na nb:=by
 unfold MT at h⊢
 rw[Array.toList_push,List.reverse_append]
 rw[a8Q' hi]at h
 exact h.stepA fun x hx y hy=>by rw[ZR.mp hy,←R_of (K:=K) hi];exact hc x hx
theorem mt_b(h:MT K a b out na (nb+1))(hi:nb<b.size)(hc:∀x∈a.toList.take na,K x≤R K b nb):MT K a b (out.push b[nb]) na nb:=by
 unfold MT at h⊢
 rw[Array.toList_push,List.reverse_append]
 rw[a8Q' hi]at h
 exact h.stepB fun x hx y hy=>by rw[ZR.mp hy,←R_of (K:=K) hi];exact hc x hx
theorem mt_as{t:Nat}(h:MT K a b out na nb)(ht:t≤na)(hc:∀i,t≤i→i<na→i<a.size→∀x∈b.toList.take nb,K x≤R K a i):MT K a b (out++(a.extract t na).reverse) t nb:=by
 unfold MT at h⊢
 rw[ZY,Array.toList_reverse,List.reverse_append,List.reverse_reverse]
 rw[a8R' ht]at h
 exact h.stepA fun x hx y hy=>by
  obtain⟨n,h1,h2,h3,e⟩:=b1d' (K:=K) hy
  rw[e];exact hc n h1 h2 h3 x hx
theorem mt_bs{t:Nat}(h:MT K a b out na nb)(ht:t≤nb)(hc:∀i,t≤i→i<nb→i<b.size→∀x∈a.toList.take na,K x≤R K b i):MT K a b (out++(b.extract t nb).reverse) na t:=by
 unfold MT at h⊢
 rw[ZY,Array.toList_reverse,List.reverse_append,List.reverse_reverse]
 rw[a8R' ht]at h
 exact h.stepB fun x hx y hy=>by
  obtain⟨n,h1,h2,h3,e⟩:=b1d' (K:=K) hy
  rw[e];exact hc n h1 h2 h3 x hx
abbrev GH7:=Option (Array Keyed)×Nat×Nat×Array Keyed×Nat×Nat×Nat
def YH(K:Keyed→Nat)(a b:Array Keyed)(st:SortSt)(n:Nat)(c:GH7)(st':SortSt):Prop:=(∃g,st'=a0J' st g)∧∃out ja jb mg ac bc,c=(none,ja,jb,out,mg,ac,bc)∧MR K a b out ja jb∧n+ja+jb≤a.size+b.size
def DH(K:Keyed→Nat)(a b:Array Keyed)(st:SortSt)(n:Nat)(c:GH7)(st':SortSt):Prop:=(∃g,st'=a0J' st g)∧((∃r c',c=(some r,c')∧Good K (a.toList++b.toList) r)∨∃out ja jb mg ac bc,c=(none,ja,jb,out,mg,ac,bc)∧MR K a b out ja jb∧n+ja+jb≤a.size+b.size)
theorem a9G'(C:Cmp prog w A s κ P K)(hk:kindOf st=κ)(ha:∀x∈a.toList,P x)(hb:∀x∈b.toList,P x)(sa:LS K a.toList)(sb:LS K b.toList)(a1:1≤a.size)(b1:1≤b.size)
  (h0:R K b 0<R K a 0) (hl:∀y∈b.toList,K y<R K a (a.size-1)) {Q:Array Keyed→SortSt→Prop} (h:∀r g,Good K (a.toList++b.toList) r→Q r (a0J' st g)):wpS (model prog w) A E s (b5b' a b) Q st:=by
 have hB:∀{i:Nat} (hi:i<b.size),R K b i=K b[i]:=fun hi=>R_of hi
 have hA:∀{i:Nat} (hi:i<a.size),R K a i=K a[i]:=fun hi=>R_of hi
 have pA:∀{i:Nat} (hi:i<a.size),P a[i]:=fun hi=>ha _ (by simp)
 have pB:∀{i:Nat} (hi:i<b.size),P b[i]:=fun hi=>hb _ (by simp)
 have lA:∀{i j:Nat},i≤j→j<a.size→R K a i≤R K a j:=fun h1 h2=>sa.mono h1 h2
 have lB:∀{i j:Nat},i≤j→j<b.size→R K b i≤R K b j:=fun h1 h2=>sb.mono h1 h2
 have dA:∀{i:Nat} {c:Nat},(∀j,j<i→j<a.size→R K a j≤c)→∀y∈a.toList.take i,K y≤c:=fun hc y hy=>by
  obtain⟨j,h1,h2,e⟩:=a8b' (K:=K) hy
  rw[e];exact hc j h1 h2
 have dB:∀{i:Nat} {c:Nat},(∀j,j<i→j<b.size→R K b j≤c)→∀y∈b.toList.take i,K y≤c:=fun hc y hy=>by
  obtain⟨j,h1,h2,e⟩:=a8b' (K:=K) hy
  rw[e];exact hc j h1 h2
 have hf:∀y∈a.toList,R K b 0≤K y:=fun y hy=>by
  obtain⟨j,hj,rfl⟩:=ZV.mp hy
  have hj':j<a.size:=by simpa using hj
  have:=lA (i:=0) (j:=j) (by lia) hj'
  rw[hA hj']at this
  have e:a.toList[j]=a[j]:=by simp
  rw[e];lia
 obtain⟨na0,hna⟩:∃n,a.size=n+1:=⟨a.size-1,by lia⟩
 have ea:a.size-1=na0:=by lia
 have m0:MT K a b #[a[na0]] na0 b.size:=by
  have m:MT K a b #[] (na0+1) b.size:=by
   refine⟨?_,?_,?_,.nil,fun _ _ y hy=>by simp at hy,fun _ _ y hy=>by simp at hy⟩
   ·rw[List.take_of_length_le (by simp;lia),List.take_of_length_le (by simp)]
    simp
   ·rw[List.take_of_length_le (by simp;lia)];exact sa
   ·rw[List.take_of_length_le (by simp)];exact sb
  exact mt_a m (by lia) (dB fun j h1 h2=>by have:=hl b[j] (by simp);rw[hB h2];rw[ea]at this;lia)
 have kg:∀g,kindOf (a0J' st g)=κ:=fun g=>hk
 refine Zp (wpS_lift (wpAny_rule ⟨rfl,?_⟩))
 refine Zp (a0r' (by lia) ?_)
 simp only[ea]
 by_cases e1:na0=0
 ·rw[if_pos (by simpa using e1)]
  exact Zw (h _ (gallopOf st) (a3u' m0 e1))
 rw[if_neg (by simpa using e1)]
 by_cases e2:b.size=1
 ·rw[if_pos (by simpa using e2)]
  exact Zw (h _ (gallopOf st) (a3v' hf m0 e2))
 rw[if_neg (by simpa using e2)]
 refine Zp (wpS_get ?_)
 refine Zp (wpS_mono (Z9 (I:=fun x c st'=>(∃g,st'=a0J' st g)∧∃out na nb mg,c=(none,na,nb,out,mg)∧MR K a b out na nb∧x+na+nb≤a.size+b.size)
  (Q:=fun c st'=>(∃g,st'=a0J' st g)∧∃r c',c=(some r,c')∧Good K (a.toList++b.toList) r) ?_ ?_ ⟨⟨gallopOf st,rfl⟩, #[a[na0]],na0,b.size,_,rfl,⟨m0,by lia,by lia,by lia,Zj _⟩,(by lia:0+na0+b.size≤a.size+b.size)⟩) ?_)
 case _=>
  rintro x c st' _ hx ⟨⟨g,rfl⟩,out,na,nb,mg,rfl,m,hp⟩
  dsimp only
  refine Zp (wpS_mono (Z9 (I:=fun y c st'=>st'=a0J' st g∧∃out na' nb' ac bc,c=(none,na',nb',out,ac,bc)∧MR K a b out na' nb'∧y+na'+nb'≤na+nb)
   (Q:=fun c st'=>st'=a0J' st g∧((∃r c',c=(some r,c')∧Good K (a.toList++b.toList) r)∨∃out na' nb' ac bc,c=(none,na',nb',out,ac,bc)∧MR K a b out na' nb'∧1+na'+nb'≤na+nb)) ?_ ?_ ⟨rfl,_,_,_,_,_,rfl,m,by lia⟩) ?_)
  ·rintro y c st' _ hy ⟨rfl,out,na',nb',ac,bc,rfl,m,hp'⟩
   obtain⟨i,rfl⟩:∃i,na'=i+1:=⟨na'-1,by have:=m.la;lia⟩
   obtain⟨j,rfl⟩:∃j,nb'=j+1:=⟨nb'-1,by have:=m.lb;lia⟩
   have lb:=m.lb
   have za:=m.za
   have zb:=m.zb
   dsimp only
   simp only[Nat.add_sub_cancel]
   refine Zp (a0r' (show j<b.size by lia) ?_)
   refine Zp (a0r' (show i<a.size by lia) ?_)
   refine Zp (b1b' C (pB (by lia)) (pA (by lia)) (kg g) ?_)
   rw[←hA (show i<a.size by lia),←hB (show j<b.size by lia)]
   by_cases hw:R K b j<R K a i
   ·rw[Zy hw]
    refine Zp (a0r' (show i<a.size by lia) ?_)
    have m':=mt_a m.mt (by lia) (dB fun n h1 h2=>by have:=lB (show n≤j by lia) (by lia);lia)
    by_cases e:i=0
    ·rw[if_pos (by simpa using e)]
     exact Zw ⟨rfl,.inl ⟨_,_,rfl,a3u' m' e⟩⟩
    ·rw[if_neg (by simpa using e)]
     by_cases hg:ac+1≥mg
     ·rw[if_pos hg];exact Zw ⟨rfl,.inr ⟨_,_,_,_,_,rfl,⟨m',by lia,lb,by lia,zb⟩,by lia⟩⟩
     ·rw[if_neg hg];exact Zw ⟨rfl,_,_,_,_,_,rfl,⟨m',by lia,lb,by lia,zb⟩,by lia⟩
   ·rw[Zz hw]
    refine Zp (a0r' (show j<b.size by lia) ?_)
    have m':=mt_b m.mt (by lia) (dA fun n h1 h2=>by have:=lA (show n≤i by lia) (by lia);lia)
    by_cases e:j=1
    ·rw[if_pos (by simpa using e)]
     exact Zw ⟨rfl,.inl ⟨_,_,rfl,a3v' hf m' e⟩⟩
    ·rw[if_neg (by simpa using e)]
     by_cases hg:bc+1≥mg
     ·rw[if_pos hg];exact Zw ⟨rfl,.inr ⟨_,_,_,_,_,rfl,⟨m',by lia,by lia,za,by lia⟩,by lia⟩⟩
     ·rw[if_neg hg];exact Zw ⟨rfl,_,_,_,_,_,rfl,⟨m',by lia,by lia,za,by lia⟩,by lia⟩
  ·rintro c st' ⟨rfl,out,na',nb',ac,bc,rfl,m,hp'⟩
   have la:=m.la
   have lb:=m.lb
   exfalso;lia
  ·rintro c st' ⟨rfl,⟨r,c',rfl,gd⟩| ⟨out,na',nb',ac,bc,rfl,m,hp'⟩⟩
   ·exact Zw ⟨⟨g,rfl⟩,r,_,rfl,gd⟩
   ·refine Zp (wpS_lift (wpAny_rule ⟨rfl,?_⟩))
    refine Zp (wpS_mono (Z9 (I:=fun y=>YH K a b st (x+1+y)) (Q:=DH K a b st (x+1)) ?_ ?_ ⟨⟨g,rfl⟩,_,_,_,_,_,_,rfl,m,by dsimp only;lia⟩) ?_)
    ·rintro y c st' _ hy ⟨⟨g1,rfl⟩,out,ja,jb,mg1,ac1,bc1,rfl,m,hq⟩
     have la:=m.la
     have za:=m.za
     have zb:=m.zb
     obtain⟨j,rfl⟩:∃j,jb=j+1:=⟨jb-1,by have:=m.lb;lia⟩
     have lb:=m.lb
     dsimp only
     simp only[Nat.add_sub_cancel]
     show wpS (model prog w) A E s _ (Post (DH K a b st (x+1)) (YH K a b st (x+1+(y+1)))) (a0J' st g1)
     generalize mg1-1=q
     revert q
     refine sel0 (p:=fun m=>wpS (model prog w) A E s m (Post (DH K a b st (x+1)) (YH K a b st (x+1+(y+1)))) (a0J' st g1)) fun mg2=>?_
     refine Zp (wpS_modify (show wpS _ _ _ _ _ _ (a0J' st mg2)from ?_))
     refine Zp (a0r' (show j<b.size by lia) ?_)
     refine Zp (a1E' C ha (pB (show j<b.size by lia)) (kg mg2) (by lia) (by lia) (fun i j h1 h2=>lA (by lia) (by lia)) fun t k1 k2 k3=>?_)
     simp only[Nat.zero_add]at k2 k3
     have t1:thr K false b[j]=R K b j+1:=by rw[hB (show j<b.size by lia)];rfl
     rw[t1]at k2 k3
     have mk:=mt_as m.mt k1 fun i h1 h2 h3=>dB fun n h4 h5=>by
      have:=k3 i h1 h2
      have:=lB (show n≤j by lia) (by lia)
      lia
     dsimp only
     have H1:MT K a b (out++(a.extract t ja).reverse) t (j+1)∧t≤ja∧∀i,i<t→R K a i≤R K b j:=⟨mk,k1,fun i hi=>by have:=k2 i hi;lia⟩
     generalize hkk:ja-t=k
     have c0:¬k>0→MR K a b out ja (j+1)∧x+1+y+ja+(j+1)≤a.size+b.size∧∀i,i<ja→R K a i≤R K b j:=fun hk0=>⟨m,hq,fun i hi=>by have:=k2 i (by lia);lia⟩
     revert H1
     generalize out++(a.extract t ja).reverse=out1
     generalize t=na1
     revert out1
     revert na1
     refine sel1 (p:=fun m=>wpS (model prog w) A E s m (Post (DH K a b st (x+1)) (YH K a b st (x+1+(y+1)))) (a0J' st mg2)) (C:=fun o i=>MR K a b o i (j+1)∧x+1+y+i+(j+1)≤a.size+b.size∧∀n,n<i→R K a n≤R K b j) (H:=fun o i=>MT K a b o i (j+1)∧i≤ja∧∀n,n<i→R K a n≤R K b j) (fun out ja hC=>?_) c0 (fun o i hH e=>?_) (fun o i hH e=>?_)
     rotate_left
     ·exact Zw ⟨⟨mg2,rfl⟩,.inl ⟨_,_,rfl,a3u' hH.1 (by simpa using e)⟩⟩
     ·exact⟨⟨hH.1,by simp at e;lia,lb,by have:=hH.2.1;lia,zb⟩,by have:=hH.2.1;lia,hH.2.2⟩
     clear mk k1 k2 k3 hq m hkk c0 la za
     obtain⟨m,hq,hge⟩:=hC
     obtain⟨i,rfl⟩:∃i,ja=i+1:=⟨ja-1,by have:=m.la;lia⟩
     have za:=m.za
     simp only[Nat.add_sub_cancel]
     refine Zp (a0r' (show j<b.size by lia) ?_)
     have m':=mt_b m.mt (by lia) (dA fun n h1 h2=>hge n h1)
     by_cases e:j=1
     ·rw[if_pos (by simpa using e)]
      exact Zw ⟨⟨mg2,rfl⟩,.inl ⟨_,_,rfl,a3v' hf m' e⟩⟩
     rw[if_neg (by simpa using e)]
     refine Zp (a0r' (show i<a.size by lia) ?_)
     refine Zp (a1E' C hb (pA (show i<a.size by lia)) (kg mg2) (by lia) (by lia) (fun i j h1 h2=>lB (by lia) (by lia)) fun t' k1' k2' k3'=>?_)
     simp only[Nat.zero_add]at k2' k3'
     have t2:thr K true a[i]=R K a i:=by rw[hA (show i<a.size by lia)];rfl
     rw[t2]at k2' k3'
     have t0:1≤t':=by
      rcases Nat.eq_zero_or_pos t' with z|z
      ·have h1:=k3' 0 (by lia) (by lia)
       have h2:=lA (show 0≤i by lia) (by lia)
       lia
      ·exact z
     have mk:=mt_bs m' k1' fun n h1 h2 h3=>dA fun l h4 h5=>by
      have:=k3' n h1 h2
      have:=lA (show l≤i by lia) (by lia)
      lia
     dsimp only
     have H2:MT K a b (out.push b[j]++(b.extract t' j).reverse) (i+1) t'∧1≤t'∧t'≤j∧∀n,n<t'→R K b n≤R K a i:=⟨mk,t0,k1',fun n hn=>by have:=k2' n hn;lia⟩
     generalize hkk':j-t'=k'
     have c0:¬k'>0→MT K a b (out.push b[j]) (i+1) j∧2≤j∧j≤j∧∀n,n<j→R K b n≤R K a i:=fun hk0=>⟨m',by lia,Zj _,fun n hn=>by have:=k2' n (by lia);lia⟩
     revert H2
     generalize out.push b[j]++(b.extract t' j).reverse=out1
     generalize t'=nb1
     revert out1
     revert nb1
     refine sel2 (p:=fun m=>wpS (model prog w) A E s m (Post (DH K a b st (x+1)) (YH K a b st (x+1+(y+1)))) (a0J' st mg2)) (C:=fun o n=>MT K a b o (i+1) n∧2≤n∧n≤j∧∀l,l<n→R K b l≤R K a i) (H:=fun o n=>MT K a b o (i+1) n∧1≤n∧n≤j∧∀l,l<n→R K b l≤R K a i) (fun out jb' hC=>?_) c0 (fun o n hH e'=>?_) (fun o n hH e'=>?_) (fun o n hH e'=>?_)
     rotate_left
     ·exact Zw ⟨⟨mg2,rfl⟩,.inl ⟨_,_,rfl,a3v' hf hH.1 (by simpa using e')⟩⟩
     ·have:=hH.2.1;simp;lia
     ·exact⟨hH.1,by have:=hH.2.1;simp at e';lia,hH.2.2.1,hH.2.2.2⟩
     obtain⟨m2,hb',hq',hge'⟩:=hC
     refine Zp (a0r' (show i<a.size by lia) ?_)
     have m3:=mt_a m2 (show i<a.size by lia) (dB fun n h1 h2=>hge' n h1)
     by_cases e:i=0
     ·rw[if_pos (by simpa using e)]
      exact Zw ⟨⟨mg2,rfl⟩,.inl ⟨_,_,rfl,a3u' m3 e⟩⟩
     rw[if_neg (by simpa using e)]
     by_cases hg:(decide (k<7)&&decide (k'<7))=true
     ·rw[if_pos hg]
      exact Zw ⟨⟨mg2,rfl⟩,.inr ⟨_,_,_,_,_,_,rfl,⟨m3,by lia,hb',by lia,by lia⟩,by lia⟩⟩
     ·rw[if_neg hg]
      exact Zw ⟨⟨mg2,rfl⟩,_,_,_,_,_,_,rfl,⟨m3,by lia,hb',by lia,by lia⟩,by lia⟩
    ·rintro c st' ⟨⟨g1,rfl⟩,out,ja,jb,mg1,ac1,bc1,rfl,m,hq⟩
     have la:=m.la
     have lb:=m.lb
     exfalso;lia
    ·rintro c st' ⟨⟨g1,rfl⟩,⟨r,c',rfl,gd⟩| ⟨out,ja,jb,mg1,ac1,bc1,rfl,m,hq⟩⟩
     ·exact Zw ⟨⟨g1,rfl⟩,r,_,rfl,gd⟩
     ·refine Zp (wpS_modify (?_:wpS _ _ _ _ _ _ (a0J' st (mg1+1))))
      exact Zw ⟨⟨_,rfl⟩,_,_,_,_,rfl,m,by dsimp only;lia⟩
 case _=>
  rintro c st' ⟨⟨g,rfl⟩,out,ia,ib,mg,rfl,m,hp⟩
  have la:=m.la
  have lb:=m.lb
  exfalso;lia
 case _=>
  rintro c st' ⟨⟨g,rfl⟩,r,c',rfl,gd⟩
  exact Zw (h r g gd)
end
end Srt
end
section
set_option autoImplicit false
namespace Srt
open PySem PyProof.Rows
section
variable {prog:Program}{w:World}{A:Around}{E:Value→Shared→Prop}{s:Shared}{st:SortSt}{κ:SortKind}{K:Keyed→Nat}{a0 xs ys:Array Keyed}
theorem a1x'{i j:Nat}(h:xs[i]?=ys[j]?):R K xs i=R K ys j:=by
 have e:∀(zs:Array Keyed) n,zs.getD n dK=(zs[n]?).getD dK:=fun zs n=>by simp
 unfold R;rw[e,e,h]
def SR(K:Keyed→Nat)(xs:Array Keyed)(lo hi:Nat):Prop:=∀i j,lo≤i→i≤j→j<hi→R K xs i≤R K xs j
def Fr(lo hi:Nat)(xs ys:Array Keyed):Prop:=∀i,i<lo∨hi≤i→ys[i]?=xs[i]?
theorem Fr.refl{lo hi:Nat}:Fr lo hi xs xs:=fun _ _=>rfl
theorem Fr.trans{lo hi:Nat}{zs:Array Keyed}(h:Fr lo hi xs ys)(k:Fr lo hi ys zs):Fr lo hi xs zs:=fun i hi=>(k i hi).trans (h i hi)
structure SB (a0:Array Keyed)(κ:SortKind)(st:SortSt):Prop where
 perm:(arrOf st).Perm a0
 failed:failedOf st=none
 kind:kindOf st=κ
theorem SB.size(h:SB a0 κ st):(arrOf st).size=a0.size:=h.perm.size_eq
theorem SB.arr(h:SB a0 κ st)(hp:ys.Perm (arrOf st)):SB a0 κ (setArr st ys):=⟨hp.trans h.perm,h.failed,h.kind⟩
theorem SB.all(h:SB a0 κ st):∀x∈(arrOf st).toList,x∈a0.toList:=fun x hx=>(Array.perm_iff_toList_perm.mp h.perm).mem_iff.mp hx
theorem wpS_T{α:Type}{c:Prop}{d:Decidable c}{x y:StateT SortSt Sem α}{Q:α→SortSt→Prop}(h:c)(k:wpS (model prog w) A E s x Q st):wpS (model prog w) A E s (@ite _ c d x y) Q st:=by rw[if_pos h];exact k
theorem wpS_F{α:Type}{c:Prop}{d:Decidable c}{x y:StateT SortSt Sem α}{Q:α→SortSt→Prop}(h:¬c)(k:wpS (model prog w) A E s y Q st):wpS (model prog w) A E s (@ite _ c d x y) Q st:=by rw[if_neg h];exact k
theorem selD{α:Type}{c:Prop}{d:Decidable c}{T m:StateT SortSt Sem α}{Q:α→SortSt→Prop}{C:Array Keyed→Prop}(key:∀ys,C ys→wpS (model prog w) A E s m Q (setArr st ys))(h1:c→(∀ys,C ys→wpS (model prog w) A E s m Q (setArr st ys))→wpS (model prog w) A E s T Q st)(h2:¬c→C (arrOf st)):wpS (model prog w) A E s (@ite _ c d T m) Q st:=by
 by_cases h:c
 ·rw[if_pos h];exact h1 h key
 ·rw[if_neg h];exact key _ (h2 h)
theorem a4s'(C:Cmp prog w A s κ (· ∈a0.toList) K)(hB:SB a0 κ st){i j:Nat}(hi:i<a0.size)(hj:j<a0.size){Q:Option Bool→SortSt→Prop}(h1:R K (arrOf st) i<R K (arrOf st) j→Q (some true) st)(h2:¬R K (arrOf st) i<R K (arrOf st) j→Q (some false) st):
  wpS (model prog w) A E s (ltAt' i j) Q st:=by
 rw[←hB.size]at hi hj
 rw[ltAt'_eq]
 refine Zp (wpS_get ?_)
 refine Zp (a0r' hi (Zp (a0r' hj ?_)))
 refine b1b' C (hB.all _ (by simp)) (hB.all _ (by simp)) hB.kind ?_
 rw[R_of hi,R_of hj]at h1 h2
 by_cases h:K (arrOf st)[i]<K (arrOf st)[j]
 ·rw[Zy h];exact h1 h
 ·rw[Zz h];exact h2 h
theorem a3a'{i j:Nat}(hj:j≤xs.size)(k:Nat):R K (mirror xs i j ((j-i)/2)) k=if i≤k∧k<j then R K xs (i+j-1-k)else R K xs k:=by
 have h:=getElem?_mirror_all (xs:=xs) (i:=i) hj k
 by_cases c:i≤k∧k<j
 ·rw[if_pos c]at h⊢;exact a1x' h
 ·rw[if_neg c]at h⊢;exact a1x' h
theorem a4t'{lo hi i j:Nat}(hj:j≤xs.size)(h1:lo≤i)(h2:j≤hi):Fr lo hi xs (mirror xs i j ((j-i)/2)):=fun k hk=>by
 rw[getElem?_mirror_all hj,if_neg (by lia)]
theorem a8S'{i j:Nat}{Q:Unit→SortSt→Prop}(h:Q () (setArr st (mirror (arrOf st) i j ((j-i)/2)))):wpS (model prog w) A E s (reverseSlice' i j) Q st:=by
 rw[reverseSlice'_eq]
 exact wpS_modify h
theorem b3F'{lo nrem a:Nat}{f:Nat→AscSt→StateT SortSt Sem (ForInStep AscSt)}(hf:∀x n,1≤n→n<nrem→∀Q':ForInStep AscSt→SortSt→Prop,(R K (arrOf st) (lo+n)<R K (arrOf st) (lo+n-1)→Q' (.done (none,n)) st)→(¬R K (arrOf st) (lo+n)<R K (arrOf st) (lo+n-1)→Q' (.yield (none,n+1)) st)→wpS (model prog w) A E s (f x (none,n)) Q' st)
  (h1:1≤a) (h2:a≤nrem) (hs:SR K (arrOf st) lo (lo+a)) {Q:AscSt→SortSt→Prop} (h:∀n,a≤n→n≤nrem→SR K (arrOf st) lo (lo+n)→(n=nrem∨R K (arrOf st) (lo+n)<R K (arrOf st) (lo+n-1))→Q (none,n) st):
  wpS (model prog w) A E s (forIn [a:nrem] (none,a) f) Q st:=by
 refine Z9 (I:=fun x c st'=>st'=st∧c=(none,x)∧x≤nrem∧SR K (arrOf st) lo (lo+x)) ?_ ?_ ⟨rfl,rfl,h2,hs⟩
 ·rintro x c st' hx hx2 ⟨rfl,rfl,_,hs⟩
  refine hf x x (by lia) hx2 _ (fun hw=>h x hx (by lia) hs (.inr hw)) (fun hw=>⟨rfl,rfl,by lia,fun i j k1 k2 k3=>?_⟩)
  by_cases e:j=lo+x
  ·subst e
   by_cases e2:i=lo+x
   ·subst e2;exact Zj _
   ·have:=hs i (lo+x-1) k1 (by lia) (by lia)
    lia
  ·exact hs i j k1 k2 (by lia)
 ·rintro c st' ⟨rfl,rfl,hx,hs⟩
  rw[Nat.max_eq_right h2]at*
  exact h nrem h2 (Zj _) hs (.inl rfl)
theorem a6R'(C:Cmp prog w A s κ (· ∈a0.toList) K)(hB:SB a0 κ st){lo nrem:Nat}(hz:lo+nrem≤a0.size)(h1:1≤nrem){Q:Option Nat→SortSt→Prop}
  (h:∀m ys,ys.Perm (arrOf st)→Fr lo (lo+nrem) (arrOf st) ys→1≤m→m≤nrem→SR K ys lo (lo+m)→Q (some m) (setArr st ys)):wpS (model prog w) A E s (countRun' lo nrem) Q st:=by
 have asc3:∀{st':SortSt},SB a0 κ st'→∀n,1≤n→n<nrem→∀{α:Type} {Q':α→SortSt→Prop} {f:Option Bool→StateT SortSt Sem α},(R K (arrOf st') (lo+n)<R K (arrOf st') (lo+n-1)→wpS (model prog w) A E s (f (some true)) Q' st')→(¬R K (arrOf st') (lo+n)<R K (arrOf st') (lo+n-1)→wpS (model prog w) A E s (f (some false)) Q' st')→wpS (model prog w) A E s (ltAt' (lo+n) (lo+n-1)>>=f) Q' st':=fun hB' n n1 n2 α Q' f q1 q2=>Zp (a4s' C hB' (by lia) (by lia) q1 q2)
 rw[countRun'_eq]
 refine Zp (b3F' (lo:=lo) (K:=K) (fun x n n1 n2 Q' q1 q2=>asc3 hB n n1 n2 (fun hw=>wpS_T rfl (Zw (q1 hw))) (fun hw=>wpS_F (by decide) (Zw (q2 hw)))) (Zj 1) h1 (fun i j k1 k2 k3=>by have:i=j:=(by lia);subst this;exact Zj _) fun n n1 n2 hs hor=>?_)
 by_cases hnn:n=nrem
 ·exact wpS_T (by simpa using hnn) (Zw (h n _ (.refl _) .refl n1 n2 hs))
 refine wpS_F (by simpa using hnn) ?_
 have hlt:=hor.resolve_left hnn
 have hsz:=hB.size
 refine selD (C:=fun ys=>ys.Perm (arrOf st)∧Fr lo (lo+nrem) (arrOf st) ys∧∀i j,lo≤i→i≤j→j<lo+n+1→R K ys j≤R K ys i) (fun ys hC=>?_) (fun hgt key=>?_) (fun hgt=>⟨.refl _,.refl,fun i j k1 k2 k3=>?_⟩)
 ·obtain⟨hp,hF,hN⟩:=hC
  have hB1:=hB.arr hp
  have hz1:ys.size=a0.size:=hB1.size
  refine Zp (wpS_lift (wpAny_rule ⟨rfl,?_⟩))
  refine Zp (wpS_mono (Z9 (I:=fun x c st'=>∃zs q,st'=setArr st zs∧c=(none,x,q)∧zs.Perm (arrOf st)∧Fr lo (lo+nrem) (arrOf st) zs∧x≤nrem∧q<x∧(∀i j,lo≤i→i≤j→j<lo+x→R K zs j≤R K zs i)∧∀k,lo+x-(q+1)≤k→k<lo+x→R K zs k=R K zs (lo+x-1))
   (Q:=fun c st'=>∃zs m q,st'=setArr st zs∧c=(none,m,q)∧zs.Perm (arrOf st)∧Fr lo (lo+nrem) (arrOf st) zs∧1≤m∧m≤nrem∧q<m∧(∀i j,lo≤i→i≤j→j<lo+m→R K zs j≤R K zs i)∧∀k,lo+m-(q+1)≤k→k<lo+m→R K zs k=R K zs (lo+m-1)) ?_ ?_ ?_) ?_)
  ·rintro x c st' hx hx2 ⟨zs,q,rfl,rfl,hp',hF',_,hq,hN',hE⟩
   have hB2:=hB.arr hp'
   have hz2:zs.size=a0.size:=hB2.size
   have up:∀ws:Array Keyed,(∀k,k≤lo+x→lo≤k→R K ws k=R K zs k)→R K zs (lo+x)≤R K zs (lo+x-1)→∀i j,lo≤i→i≤j→j<lo+(x+1)→R K ws j≤R K ws i:=fun ws hw hl i j k1 k2 k3=>by
    rw[hw i (by lia) k1,hw j (by lia) (by lia)]
    by_cases e:j=lo+x
    ·subst e
     by_cases e2:i=lo+x
     ·subst e2;exact Zj _
     ·exact ZL hl (hN' i (lo+x-1) k1 (by lia) (by lia))
    ·exact hN' i j k1 k2 (by lia)
   refine asc3 hB2 x (by lia) hx2 (fun hw=>wpS_T rfl ?_) (fun hw=>wpS_F (by decide) ?_)
   ·have hw:R K zs (lo+x)<R K zs (lo+x-1):=hw
    refine selD (st:=setArr st zs) (C:=fun ws=>ws.Perm (arrOf st)∧Fr lo (lo+nrem) (arrOf st) ws∧∀k,k≤lo+x→lo≤k→R K ws k=R K zs k) (fun ws hC=>?_) (fun hg key=>?_) (fun hg=>⟨hp',hF',fun _ _ _=>rfl⟩)
    ·refine Zw ⟨ws,0,rfl,rfl,hC.1,hC.2.1,by lia,by lia,up ws hC.2.2 (by lia),fun k k1 k2=>by rw[show k=lo+(x+1)-1 by lia]⟩
    ·refine Zp (a8S' (key _ ⟨(mirror_perm _ _ _ _).trans hp',hF'.trans (a4t' (i:=lo+x-(q+1)) (j:=lo+x) (by rw[hz2];lia) (by lia) (by lia)),fun k k1 k2=>?_⟩))
     show R K (mirror zs (lo+x-(q+1)) (lo+x) ((lo+x-(lo+x-(q+1)))/2)) k=_
     rw[a3a' (by rw[hz2];lia)]
     by_cases c:lo+x-(q+1)≤k∧k<lo+x
     ·rw[if_pos c,hE k c.1 c.2,hE _ (by lia) (by lia)]
     ·rw[if_neg c]
   ·have hw:¬R K zs (lo+x)<R K zs (lo+x-1):=hw
    refine Zp (a4s' (i:=lo+x-1) (j:=lo+x) C hB2 (by lia) (by lia) (fun hw2=>wpS_T rfl (Zw ⟨zs,x,q,rfl,rfl,hp',hF',by lia,by lia,hq,hN',hE⟩)) (fun hw2=>wpS_F (by decide) (Zw ⟨zs,q+1,rfl,rfl,hp',hF',by lia,by lia,?_,fun k k1 k2=>?_⟩)))
    ·have hw2:¬R K zs (lo+x-1)<R K zs (lo+x):=hw2
     exact up zs (fun _ _ _=>rfl) (by lia)
    ·have hw2:¬R K zs (lo+x-1)<R K zs (lo+x):=hw2
     rw[show lo+(x+1)-1=lo+x by lia]
     by_cases e:k=lo+x
     ·rw[e]
     ·rw[hE k (by lia) (by lia)];lia
  ·rintro c st' ⟨zs,q,rfl,rfl,hp',hF',hx,hq,hN',hE⟩
   exact⟨zs,_,q,rfl,rfl,hp',hF',by lia,hx,hq,hN',hE⟩
  ·exact⟨ys,0,rfl,rfl,hp,hF,by lia,by lia,fun i j k1 k2 k3=>hN i j k1 k2 (by lia),fun k k1 k2=>by rw[show k=lo+(n+1)-1 by lia]⟩
  ·rintro c st' ⟨zs,m,q,rfl,rfl,hp',hF',m1,m2,hq,hN',hE⟩
   have hB2:=hB.arr hp'
   have hz2:zs.size=a0.size:=hB2.size
   refine selD (st:=setArr st zs) (C:=fun ws=>ws.Perm (arrOf st)∧Fr lo (lo+nrem) (arrOf st) ws∧∀k,k<lo+m→lo≤k→R K ws k=R K zs k) (fun ws hC=>?_) (fun hg key=>?_) (fun hg=>⟨hp',hF',fun _ _ _=>rfl⟩)
   ·obtain⟨hp3,hF3,hE3⟩:=hC
    have hB3:=hB.arr hp3
    have hz3:ws.size=a0.size:=hB3.size
    refine Zp (a8S' ?_)
    show wpS (model prog w) A E s _ Q (setArr st (mirror ws lo (lo+m) ((lo+m-lo)/2)))
    have hp4:(mirror ws lo (lo+m) ((lo+m-lo)/2)).Perm (arrOf st):=(mirror_perm _ _ _ _).trans hp3
    have hF4:Fr lo (lo+nrem) (arrOf st) (mirror ws lo (lo+m) ((lo+m-lo)/2)):=hF3.trans (a4t' (by rw[hz3];lia) (Zj _) (by lia))
    have hs4:SR K (mirror ws lo (lo+m) ((lo+m-lo)/2)) lo (lo+m):=fun i j k1 k2 k3=>by
     rw[a3a' (by rw[hz3];lia),a3a' (by rw[hz3];lia),if_pos ⟨k1,by lia⟩,if_pos ⟨by lia,k3⟩,hE3 _ (by lia) (by lia),hE3 _ (by lia) (by lia)]
     exact hN' _ _ (by lia) (by lia) (by lia)
    revert hp4 hF4 hs4
    generalize mirror ws lo (lo+m) ((lo+m-lo)/2)=vs
    intro hp4 hF4 hs4
    refine Zp (b3F' (st:=setArr st vs) (lo:=lo) (K:=K) (fun x n n1 n2 Q' q1 q2=>asc3 (hB.arr hp4) n n1 n2 (fun hw=>wpS_T rfl (Zw (q1 hw))) (fun hw=>wpS_F (by decide) (Zw (q2 hw)))) m1 m2 hs4 fun n n1 n2 hs _=>?_)
    exact Zw (h n vs hp4 hF4 (by lia) n2 hs)
   ·refine Zp (a8S' (key _ ⟨(mirror_perm _ _ _ _).trans hp',hF'.trans (a4t' (i:=lo+m-(q+1)) (j:=lo+m) (by rw[hz2];lia) (by lia) (by lia)),fun k k1 k2=>?_⟩))
    show R K (mirror zs (lo+m-(q+1)) (lo+m) ((lo+m-(lo+m-(q+1)))/2)) k=_
    rw[a3a' (by rw[hz2];lia)]
    by_cases c:lo+m-(q+1)≤k∧k<lo+m
    ·rw[if_pos c,hE k c.1 c.2,hE _ (by lia) (by lia)]
    ·rw[if_neg c]
 ·refine Zp (a4s' C hB (by lia) (by lia) (fun hr=>wpS_T rfl (Zw (h n _ (.refl _) .refl n1 n2 hs))) (fun hr=>wpS_F (by decide) ?_))
  have hr:¬R K (arrOf st) lo<R K (arrOf st) (lo+n-1):=hr
  have hlt:R K (arrOf st) (lo+n)<R K (arrOf st) (lo+n-1):=hlt
  refine Zp (a8S' (key _ ⟨mirror_perm _ _ _ _,a4t' (by lia) (Zj _) (by lia),fun i j k1 k2 k3=>?_⟩))
  have eq:∀k,lo≤k→k<lo+n→R K (mirror (arrOf st) lo (lo+n) ((lo+n-lo)/2)) k=R K (arrOf st) lo:=fun k k1 k2=>by
   rw[a3a' (by lia),if_pos ⟨k1,k2⟩]
   have e1:=hs lo (lo+(lo+n)-1-k) (by lia) (by lia) (by lia)
   have e2:=hs (lo+(lo+n)-1-k) (lo+n-1) (by lia) (by lia) (by lia)
   lia
  show R K (mirror (arrOf st) lo (lo+n) ((lo+n-lo)/2)) j≤R K (mirror (arrOf st) lo (lo+n) ((lo+n-lo)/2)) i
  by_cases e:j<lo+n
  ·rw[eq i k1 (by lia),eq j (by lia) e];exact Zj _
  ·have e':j=lo+n:=by lia
   subst e'
   rw[a3a' (by lia) (lo+n),if_neg (by lia)]
   by_cases e2:i=lo+n
   ·subst e2;rw[a3a' (by lia) (lo+n),if_neg (by lia)];exact Zj _
   ·rw[eq i k1 (by lia)]
    have e1:=hs lo (lo+n-1) (by lia) (by lia) (by lia)
    lia
 ·have hlt:R K (arrOf st) (lo+n)<R K (arrOf st) (lo+n-1):=hlt
  have hgt:¬n>1:=hgt
  have e1:n=1:=by lia
  subst e1
  by_cases e:i=j
  ·subst e;exact Zj _
  ·rw[show i=lo+1-1 by lia,show j=lo+1 by lia];lia
end
end Srt
end
section
set_option autoImplicit false
namespace Srt
open PySem PyProof.Rows
section
variable {prog:Program}{w:World}{A:Around}{E:Value→Shared→Prop}{s:Shared}{st:SortSt}{κ:SortKind}{K:Keyed→Nat}{a0 xs ys:Array Keyed}
theorem b5c'{src d:Nat}(hs:src<xs.size)(hd:d≤src)(k:Nat):R K (bubble xs src d) k=if k=src-d then R K xs src else if src-d<k∧k≤src then R K xs (k-1)else R K xs k:=by
 have h:=getElem?_bubble hs d hd k
 by_cases c:k=src-d
 ·rw[if_pos c]at h⊢;exact a1x' h
 ·rw[if_neg c]at h⊢
  by_cases c2:src-d<k∧k≤src
  ·rw[if_pos c2]at h⊢;exact a1x' h
  ·rw[if_neg c2]at h⊢;exact a1x' h
theorem b2L'{lo hi src d:Nat}(hs:src<xs.size)(hd:d≤src)(h1:lo≤src-d)(h2:src<hi):Fr lo hi xs (bubble xs src d):=fun k hk=>by
 rw[getElem?_bubble hs d hd,if_neg (by lia),if_neg (by lia)]
theorem a5e'(C:Cmp prog w A s κ (· ∈a0.toList) K)(hB:SB a0 κ st){lo n ok:Nat}(hz:lo+n≤a0.size)(hok:ok≤n)(hs:SR K (arrOf st) lo (lo+ok)){Q:Bool→SortSt→Prop}
  (h:∀ys,ys.Perm (arrOf st)→Fr lo (lo+n) (arrOf st) ys→SR K ys lo (lo+n)→Q true (setArr st ys)):wpS (model prog w) A E s (binarySort' lo n ok) Q st:=by
 rw[binarySort'_eq]
 refine Zp (wpS_mono (Z9 (I:=fun k c st'=>∃zs,st'=setArr st zs∧c=(none,())∧zs.Perm (arrOf st)∧Fr lo (lo+n) (arrOf st) zs∧SR K zs lo (lo+min k n))
  (Q:=fun c st'=>∃zs,st'=setArr st zs∧c=(none,())∧zs.Perm (arrOf st)∧Fr lo (lo+n) (arrOf st) zs∧SR K zs lo (lo+n)) ?_ ?_ ?_) ?_)
 ·rintro k c st' hk hk2 ⟨zs,rfl,rfl,hp,hF,hs'⟩
  rw[Nat.min_eq_left (by lia)]at hs'
  have hB2:=hB.arr hp
  have hz2:zs.size=a0.size:=hB2.size
  refine Zp (wpS_mono (Z9 (I:=fun x c st'=>st'=setArr st zs∧∃l r,c=(none,l,r)∧l≤r∧r≤k∧r-l≤k-x∧(∀i,i<l→R K zs (lo+i)≤R K zs (lo+k))∧(∀i,r≤i→i<k→R K zs (lo+k)<R K zs (lo+i)))
   (Q:=fun c st'=>st'=setArr st zs∧∃l r,c=(none,l,r)∧l≤k∧(∀i,i<l→R K zs (lo+i)≤R K zs (lo+k))∧(∀i,l≤i→i<k→R K zs (lo+k)<R K zs (lo+i))) ?_ ?_ ⟨rfl,0,k,rfl,by lia,by lia,by lia,fun i hi=>by lia,fun i h1 h2=>by lia⟩) ?_)
  ·rintro x c st' _ hx ⟨rfl,l,r,rfl,k1,k2,k3,k4,k5⟩
   by_cases hlr:l≥r
   ·have:l=r:=by lia
    subst this
    exact wpS_T hlr (Zw ⟨rfl,l,l,rfl,k2,k4,k5⟩)
   ·refine wpS_F hlr (Zp (a4s' (i:=lo+k) (j:=lo+(l+r)/2) C hB2 (by lia) (by lia) (fun hw=>wpS_T rfl (Zw ⟨rfl,l,(l+r)/2,rfl,by lia,by lia,by lia,k4,fun i h1 h2=>?_⟩)) (fun hw=>wpS_F (by decide) (Zw ⟨rfl,(l+r)/2+1,r,rfl,by lia,k2,by lia,fun i h1=>?_,k5⟩))))
    ·have hw:R K zs (lo+k)<R K zs (lo+(l+r)/2):=hw
     have:=hs' (lo+(l+r)/2) (lo+i) (by lia) (by lia) (by lia)
     lia
    ·have hw:¬R K zs (lo+k)<R K zs (lo+(l+r)/2):=hw
     have:=hs' (lo+i) (lo+(l+r)/2) (by lia) (by lia) (by lia)
     lia
  ·rintro c st' ⟨rfl,l,r,rfl,k1,k2,k3,k4,k5⟩
   have:l=r:=by lia
   subst this
   exact⟨rfl,l,l,rfl,k2,k4,k5⟩
  ·rintro c st' ⟨rfl,l,r,rfl,k2,k4,k5⟩
   refine Zp (m:=moveDown' (lo+k) (lo+l)) ?_
   rw[moveDown'_eq]
   refine wpS_modify (Zw ⟨bubble zs (lo+k) (lo+k-(lo+l)),rfl,rfl,(bubble_perm _ _ _).trans hp,hF.trans (b2L' (by rw[hz2];lia) (by lia) (by lia) (by lia)),?_⟩)
   rw[Nat.min_eq_left (by lia)]
   have e:∀i,R K (bubble zs (lo+k) (lo+k-(lo+l))) i=if i=lo+l then R K zs (lo+k)else if lo+l<i∧i≤lo+k then R K zs (i-1)else R K zs i:=fun i=>by
    rw[b5c' (by rw[hz2];lia) (by lia),show lo+k-(lo+k-(lo+l))=lo+l by lia]
   have a1:∀i,lo≤i→i<lo+l→R K zs i≤R K zs (lo+k):=fun i h1 h2=>by have:=k4 (i-lo) (by lia);rwa [show lo+(i-lo)=i by lia]at this
   have a2:∀i,lo+l≤i→i<lo+k→R K zs (lo+k)<R K zs i:=fun i h1 h2=>by have:=k5 (i-lo) (by lia) (by lia);rwa [show lo+(i-lo)=i by lia]at this
   intro i j h1 h2 h3
   rw[e i,e j]
   by_cases c1:i=lo+l
   ·rw[if_pos c1]
    by_cases c2:j=lo+l
    ·rw[if_pos c2];exact Zj _
    ·rw[if_neg c2,if_pos ⟨by lia,by lia⟩]
     exact Nat.le_of_lt (a2 _ (by lia) (by lia))
   ·rw[if_neg c1]
    by_cases c3:lo+l<i∧i≤lo+k
    ·rw[if_pos c3,if_neg (by lia),if_pos ⟨by lia,by lia⟩]
     exact hs' _ _ (by lia) (by lia) (by lia)
    ·rw[if_neg c3]
     by_cases c2:j=lo+l
     ·rw[if_pos c2];exact a1 i h1 (by lia)
     ·rw[if_neg c2]
      by_cases c4:lo+l<j∧j≤lo+k
      ·rw[if_pos c4];exact hs' _ _ h1 (by lia) (by lia)
      ·rw[if_neg c4];exact hs' _ _ h1 h2 (by lia)
 ·rintro c st' ⟨zs,rfl,rfl,hp,hF,hs'⟩
  rw[show min (max (max ok 1) n) n=n by lia]at hs'
  exact⟨zs,rfl,rfl,hp,hF,hs'⟩
 ·refine⟨arrOf st,rfl,rfl,.refl _,.refl,fun i j h1 h2 h3=>?_⟩
  by_cases e:i=j
  ·subst e;exact Zj _
  ·exact hs i j h1 h2 (by lia)
 ·rintro c st' ⟨zs,rfl,rfl,hp,hF,hs'⟩
  exact Zw (h zs hp hF hs')
end
end Srt
end
section
set_option autoImplicit false
namespace Srt
open PySem PyProof.Rows
section
variable {prog:Program}{w:World}{A:Around}{E:Value→Shared→Prop}{s:Shared}{st:SortSt}{κ:SortKind}{K:Keyed→Nat}{a0 xs ys:Array Keyed}
theorem b1e'{base:Nat}:∀(l:List Keyed) (k:Nat) (arr:Array Keyed),base+k+l.length≤arr.size→((l.zipIdx k).foldl (fun a (x:Keyed×Nat)=>a.setIfInBounds (base+x.2) x.1) arr).toList=arr.toList.take (base+k)++l++arr.toList.drop (base+k+l.length)
 | [],k,arr,h=>by simp
 |x::l,k,arr,h=>by
  rw[Zs]at h
  rw[List.zipIdx_cons,List.foldl_cons,b1e' l (k+1) _ (by rw[Array.size_setIfInBounds];lia)]
  rw[Array.toList_setIfInBounds]
  have hl:base+k<arr.toList.length:=by rw[ZI];lia
  have e1:(arr.toList.set (base+k) x).take (base+(k+1))=arr.toList.take (base+k)++[x]:=by
   rw[show base+(k+1)=(base+k)+1 by lia,List.take_succ,List.take_set_of_le (Zj _),Z5 hl]
   rfl
  have e2:(arr.toList.set (base+k) x).drop (base+(k+1)+l.length)=arr.toList.drop (base+k+(x::l).length):=by
   rw[List.drop_set_of_lt (by lia),Zs,show base+(k+1)+l.length=base+k+(l.length+1)by lia]
  rw[e1,e2]
  simp
theorem b1f'{i j:Nat}(h1:i≤j)(h2:j≤xs.size):(xs.extract i j).size=j-i:=by
 rw[Array.size_extract,Nat.min_eq_left h2]
theorem R_ext{i j n:Nat}(h2:j≤xs.size)(hn:i+n<j):R K (xs.extract i j) n=R K xs (i+n):=by
 refine a1x' ?_
 rw[Array.getElem?_extract,if_pos (by lia)]
theorem LS_ext{i j:Nat}(h2:j≤xs.size)(hs:SR K xs i j):LS K (xs.extract i j).toList:=by
 refine List.pairwise_iff_getElem.mpr fun n m hn hm h=>?_
 have hm':m<(xs.extract i j).size:=by rw[←ZI];exact hm
 have hn':n<(xs.extract i j).size:=by lia
 have e:(xs.extract i j).size≤j-i:=by rw[Array.size_extract];lia
 have k1:=R_ext (K:=K) h2 (show i+n<j by lia)
 have k2:=R_ext (K:=K) h2 (show i+m<j by lia)
 have:=hs (i+n) (i+m) (by lia) (by lia) (by lia)
 rw[←k1,←k2,R_of hn',R_of hm']at this
 simpa using this
theorem b1g'{i j:Nat}(h2:j≤xs.size){x:Keyed}(h:x∈(xs.extract i j).toList):∃n,i≤n∧n<j∧K x=R K xs n:=by
 obtain⟨n,h1,h3,_,e⟩:=b1d' (K:=K) h
 exact⟨n,h1,h3,e⟩
theorem wpS_set{x:SortSt}{Q:PUnit→SortSt→Prop}(h:Q ⟨⟩ x):wpS (model prog w) A E s (set x:StateT SortSt Sem PUnit) Q st:=by
 unfold wpS;rw[StateT.run_set];exact Zl ⟨rfl,h⟩
def a8T'(st:SortSt)(p:Array (Nat×Nat×Nat)):SortSt:=SortSt.mk' (kindOf st) (arrOf st) p (gallopOf st) (failedOf st)
theorem a9H'(C:Cmp prog w A s κ (· ∈a0.toList) K)(hB:SB a0 κ st){i sa na pw nb pw':Nat}(hi:(pendingOf st)[i]?=some (sa,na,pw))(hi':(pendingOf st)[i+1]?=some (sa+na,nb,pw'))(a1:1≤na)(b1:1≤nb)(hz:sa+na+nb≤a0.size)
  (ha:SR K (arrOf st) sa (sa+na)) (hb:SR K (arrOf st) (sa+na) (sa+na+nb)) {Q:Bool→SortSt→Prop}
  (h:∀ys g,ys.Perm (arrOf st)→Fr sa (sa+na+nb) (arrOf st) ys→SR K ys sa (sa+na+nb)→Q true (a0J' (setArr (a8T' st (((pendingOf st).setIfInBounds i (sa,na+nb,pw)).eraseIdxIfInBounds (i+1))) ys) g)):wpS (model prog w) A E s (mergeAt' i) Q st:=by
 have hsz:=hB.size
 have hall:=hB.all
 have pe:∀{n:Nat} (hn:n<(arrOf st).size),(arrOf st)[n]∈a0.toList:=fun hn=>hall _ (by simp)
 refine Zp (wpS_get ?_)
 have e0:((pendingOf st)[i]?,(pendingOf st)[i+1]?)=(some (sa,na,pw),some (sa+na,nb,pw')):=by rw[hi,hi']
 rw[hi,hi']
 refine Zp (wpS_set ?_)
 show wpS (model prog w) A E s _ Q (a8T' st (((pendingOf st).setIfInBounds i (sa,na+nb,pw)).eraseIdxIfInBounds (i+1)))
 generalize((pendingOf st).setIfInBounds i (sa,na+nb,pw)).eraseIdxIfInBounds (i+1)=p' at h⊢
 have hkP:kindOf (a8T' st p')=κ:=hB.kind
 refine Zp (a0r' (show sa+na<(arrOf st).size by lia) ?_)
 refine Zp (a1E' C hall (pe (by lia)) hkP (by lia) (by lia) (fun i j k1 k2=>ha _ _ (by lia) (by lia) (by lia)) fun k k1 k2 k3=>?_)
 have t1:thr K false (arrOf st)[sa+na]=R K (arrOf st) (sa+na)+1:=by rw[R_of (show sa+na<(arrOf st).size by lia)];rfl
 rw[t1]at k2 k3
 have q2:∀n,sa≤n→n<sa+k→R K (arrOf st) n≤R K (arrOf st) (sa+na):=fun n h1 h2=>by
  have:=k2 (n-sa) (by lia)
  rw[show sa+(n-sa)=n by lia]at this
  lia
 have bb:∀n,sa+na≤n→n<sa+na+nb→R K (arrOf st) (sa+na)≤R K (arrOf st) n:=fun n h1 h2=>hb _ _ (Zj _) h1 h2
 have fin:∀c,c≤R K (arrOf st) (sa+na)→(∀n,sa≤n→n<sa+na→R K (arrOf st) n≤c)→SR K (arrOf st) sa (sa+na+nb):=fun c hc hn i j h1 h2 h3=>by
  by_cases c1:j<sa+na
  ·exact ha i j h1 h2 c1
  ·by_cases c2:i<sa+na
   ·have:=hn i h1 c2
    have:=bb j (by lia) h3
    lia
   ·exact hb i j (by lia) h2 h3
 by_cases e1:na-k=0
 ·refine wpS_T (by simpa using e1) (Zw (h _ (gallopOf st) (.refl _) .refl (fin _ (Zj _) fun n h1 h2=>q2 n h1 (by lia))))
 refine wpS_F (by simpa using e1) ?_
 have q3:R K (arrOf st) (sa+na)<R K (arrOf st) (sa+k):=by have:=k3 k (Zj _) (by lia);lia
 refine Zp (a0r' (show sa+k+(na-k)-1<(arrOf st).size by lia) ?_)
 refine Zp (a1E' C hall (pe (by lia)) hkP (by lia) (by lia) (fun i j k1 k2=>hb _ _ (by lia) (by lia) (by lia)) fun m m1 m2 m3=>?_)
 have t2:thr K true ((arrOf st)[sa+k+(na-k)-1]'(by lia))=R K (arrOf st) (sa+na-1):=by rw[show sa+na-1=sa+k+(na-k)-1 by lia,R_of (show sa+k+(na-k)-1<(arrOf st).size by lia)];rfl
 rw[t2]at m2 m3
 have q4:∀n,sa+na≤n→n<sa+na+m→R K (arrOf st) n<R K (arrOf st) (sa+na-1):=fun n h1 h2=>by
  have:=m2 (n-(sa+na)) (by lia)
  rwa [show sa+na+(n-(sa+na))=n by lia]at this
 have q5:∀n,sa+na+m≤n→n<sa+na+nb→R K (arrOf st) (sa+na-1)≤R K (arrOf st) n:=fun n h1 h2=>by
  have:=m3 (n-(sa+na)) (by lia) (by lia)
  rwa [show sa+na+(n-(sa+na))=n by lia]at this
 by_cases e2:m=0
 ·have:=q5 (sa+na) (by lia) (by lia)
  have:=ha (sa+k) (sa+na-1) (by lia) (by lia) (by lia)
  exfalso;lia
 refine wpS_F (by simpa using e2) ?_
 have hxz:((arrOf st).extract (sa+k) (sa+na)).size=na-k:=by rw[b1f' (by lia) (by lia)];lia
 have hyz:((arrOf st).extract (sa+na) (sa+na+m)).size=m:=by rw[b1f' (by lia) (by lia)];lia
 have hxl:=LS_ext (K:=K) (xs:=arrOf st) (i:=sa+k) (j:=sa+na) (by lia) (fun i j h1 h2 h3=>ha i j (by lia) h2 h3)
 have hyl:=LS_ext (K:=K) (xs:=arrOf st) (i:=sa+na) (j:=sa+na+m) (by lia) (fun i j h1 h2 h3=>hb i j (by lia) h2 (by lia))
 have hxm:∀x∈((arrOf st).extract (sa+k) (sa+na)).toList,x∈a0.toList:=fun x hx=>by
  rw[Array.toList_extract]at hx
  exact hall x (List.mem_of_mem_drop (List.mem_of_mem_take hx))
 have hym:∀x∈((arrOf st).extract (sa+na) (sa+na+m)).toList,x∈a0.toList:=fun x hx=>by
  rw[Array.toList_extract]at hx
  exact hall x (List.mem_of_mem_drop (List.mem_of_mem_take hx))
 have r0:R K ((arrOf st).extract (sa+na) (sa+na+m)) 0<R K ((arrOf st).extract (sa+k) (sa+na)) 0:=by
  rw[R_ext (by lia) (by lia),R_ext (by lia) (by lia)]
  exact q3
 have rl:∀y∈((arrOf st).extract (sa+na) (sa+na+m)).toList,K y<R K ((arrOf st).extract (sa+k) (sa+na)) (((arrOf st).extract (sa+k) (sa+na)).size-1):=fun y hy=>by
  obtain⟨n,h1,h2,e⟩:=b1g' (K:=K) (by lia) hy
  rw[e,hxz,R_ext (by lia) (by lia),show sa+k+(na-k-1)=sa+na-1 by lia]
  exact q4 n h1 h2
 have key:∀(r:Array Keyed) (g:Nat),Good K (((arrOf st).extract (sa+k) (sa+na)).toList++((arrOf st).extract (sa+na) (sa+na+m)).toList) r→Q true (a0J' (setArr (a8T' st p') ((r.toList.zipIdx).foldl (fun a (x:Keyed×Nat)=>a.setIfInBounds (sa+k+x.2) x.1) (arrOf st))) g):=fun r g gd=>by
  have hrl:r.toList.length=na-k+m:=by
   rw[gd.1.length_eq,Zm,ZI,ZI,hxz,hyz]
  have hel:∀n,n<r.toList.length→∃j,sa+k≤j∧j<sa+na+m∧R K r n=R K (arrOf st) j:=fun n hn=>by
   have hn':n<r.size:=by rwa [ZI]at hn
   have hm:r[n]∈r.toList:=by simp
   rw[R_of hn']
   rcases ZB.mp (gd.1.mem_iff.mp hm)with z|z
   ·obtain⟨j,h1,h2,e⟩:=b1g' (K:=K) (by lia) z
    exact⟨j,h1,by lia,e⟩
   ·obtain⟨j,h1,h2,e⟩:=b1g' (K:=K) (by lia) z
    exact⟨j,by lia,h2,e⟩
  have hfp:=b1e' (base:=sa+k) r.toList 0 (arrOf st) (by lia)
  generalize(r.toList.zipIdx).foldl (fun a (x:Keyed×Nat)=>a.setIfInBounds (sa+k+x.2) x.1) (arrOf st)=ys at hfp⊢
  rw[Nat.add_zero]at hfp
  have hl1:((arrOf st).toList.take (sa+k)).length=sa+k:=by rw[Z8,ZI];lia
  have o1:∀n,n<sa+k→ys[n]?=(arrOf st)[n]? :=fun n hn=>by
   rw[←ZT,hfp,Zu,Zo (by lia),List.getElem?_take_of_lt hn,ZT]
  have o2:∀n,sa+na+m≤n→ys[n]?=(arrOf st)[n]? :=fun n hn=>by
   rw[←ZT,hfp,Zv (by rw[Zm];lia),List.getElem?_drop,Zm,hl1,hrl,←ZT]
   congr 1;lia
  have o3:∀n,sa+k≤n→n<sa+na+m→ys[n]?=r[n-(sa+k)]? :=fun n h1 h2=>by
   rw[←ZT,hfp,Zu,Zv (by lia),hl1,Zo (by lia),ZT]
  refine h ys g ?_ (fun n hn=>?_) (fun i j h1 h2 h3=>?_)
  ·refine Array.perm_iff_toList_perm.mpr ?_
   rw[hfp]
   have e:(arrOf st).toList=(arrOf st).toList.take (sa+k)++(((arrOf st).extract (sa+k) (sa+na)).toList++((arrOf st).extract (sa+na) (sa+na+m)).toList)++(arrOf st).toList.drop (sa+k+r.toList.length):=by
    rw[←Zu,←a8R' (by lia),←a8R' (by lia),show sa+k+r.toList.length=sa+na+m by lia,List.take_append_drop]
   exact((List.Perm.append_left _ gd.1).append_right _).trans (List.Perm.of_eq e.symm)
  ·rcases hn with z|z
   ·exact o1 n (by lia)
   ·exact o2 n (by lia)
  ·have ri:∀n,n<sa+k→R K ys n=R K (arrOf st) n:=fun n hn=>a1x' (o1 n hn)
   have ro:∀n,sa+na+m≤n→R K ys n=R K (arrOf st) n:=fun n hn=>a1x' (o2 n hn)
   have rm:∀n,sa+k≤n→n<sa+na+m→R K ys n=R K r (n-(sa+k)):=fun n h1 h2=>a1x' (o3 n h1 h2)
   by_cases c1:j<sa+k
   ·rw[ri i (by lia),ri j c1];exact ha i j h1 h2 (by lia)
   by_cases c2:sa+na+m≤i
   ·rw[ro i c2,ro j (by lia)];exact hb i j (by lia) h2 h3
   by_cases c3:i<sa+k
   ·rw[ri i c3]
    have u1:=q2 i h1 c3
    by_cases c4:sa+na+m≤j
    ·rw[ro j c4];have:=bb j (by lia) h3;lia
    ·rw[rm j (by lia) (by lia)]
     obtain⟨n,n1,n2,e⟩:=hel (j-(sa+k)) (by lia)
     rw[e]
     by_cases c5:n<sa+na
     ·exact ha i n h1 (by lia) c5
     ·have:=bb n (by lia) (by lia);lia
   ·rw[rm i (by lia) (by lia)]
    by_cases c4:sa+na+m≤j
    ·rw[ro j c4]
     obtain⟨n,n1,n2,e⟩:=hel (i-(sa+k)) (by lia)
     rw[e]
     by_cases c5:n<sa+na
     ·have:=ha n (sa+na-1) (by lia) (by lia) (by lia)
      have:=q5 j c4 h3
      lia
     ·exact hb n j (by lia) (by lia) h3
    ·rw[rm j (by lia) (by lia)]
     exact gd.2.mono (by lia) (by rw[←ZI];lia)
 have hs1:sa+k+(na-k)=sa+na:=by lia
 by_cases e3:na-k≤m
 ·refine wpS_T e3 (Zp (a9F' C hkP hxm hym hxl hyl (by lia) (by lia) r0 rl fun r g gd=>?_))
  refine Zp (wpS_modify (Zp (wpS_get (Zw ?_))))
  have:=key r g gd
  show Q (failedOf st).isNone _
  rw[hB.failed]
  exact this
 ·refine wpS_F e3 (Zp (a9G' C hkP hxm hym hxl hyl (by lia) (by lia) r0 rl fun r g gd=>?_))
  refine Zp (wpS_modify (Zp (wpS_get (Zw ?_))))
  have:=key r g gd
  show Q (failedOf st).isNone _
  rw[hB.failed]
  exact this
end
end Srt
end
section
set_option autoImplicit false
namespace Srt
open PySem PyProof.Rows
def Ch(K:Keyed→Nat)(xs:Array Keyed):Nat→List (Nat×Nat×Nat)→Nat→Prop
 |a,[],e=>a=e
 |a,t::r,e=>t.1=a∧1≤t.2.1∧SR K xs a (a+t.2.1)∧Ch K xs (a+t.2.1) r e
section
variable {K:Keyed→Nat}{xs ys:Array Keyed}
theorem Ch.len:∀{l:List (Nat×Nat×Nat)} {a e:Nat},Ch K xs a l e→a+l.length≤e
 | [],a,e,h=>by cases h;simp
 |t::r,a,e,h=>by
  have:=Ch.len h.2.2.2
  have:=h.2.1
  rw[Zs];lia
theorem Ch.app:∀{l r:List (Nat×Nat×Nat)} {a e:Nat},Ch K xs a (l++r) e→∃m,Ch K xs a l m∧Ch K xs m r e
 | [],r,a,e,h=>⟨a,rfl,h⟩
 |t::l,r,a,e,h=>by
  obtain⟨m,h1,h2⟩:=Ch.app (l:=l) h.2.2.2
  exact⟨m,⟨h.1,h.2.1,h.2.2.1,h1⟩,h2⟩
theorem Ch.join:∀{l r:List (Nat×Nat×Nat)} {a m e:Nat},Ch K xs a l m→Ch K xs m r e→Ch K xs a (l++r) e
 | [],r,a,m,e,h,k=>by cases h;exact k
 |t::l,r,a,m,e,h,k=>⟨h.1,h.2.1,h.2.2.1,Ch.join h.2.2.2 k⟩
theorem Ch.same:∀{l:List (Nat×Nat×Nat)} {a e:Nat},(∀i,a≤i→i<e→R K ys i=R K xs i)→Ch K xs a l e→Ch K ys a l e
 | [],a,e,_,h=>h
 |t::r,a,e,hs,h=>by
  have:=h.2.2.2.len
  refine⟨h.1,h.2.1,fun i j k1 k2 k3=>?_,Ch.same (fun i k1 k2=>hs i (by lia) k2) h.2.2.2⟩
  rw[hs i k1 (by lia),hs j (by lia) (by lia)]
  exact h.2.2.1 i j k1 k2 k3
theorem Ch.modify{f:Nat×Nat×Nat→Nat×Nat×Nat}(hf:∀t,(f t).1=t.1∧(f t).2.1=t.2.1):∀{l:List (Nat×Nat×Nat)} {i a e:Nat},Ch K xs a l e→Ch K xs a (l.modify i f) e
 | [],i,a,e,h=>by rw[List.modify_nil];exact h
 |t::r,0,a,e,h=>by
  rw[List.modify_zero_cons]
  obtain⟨h1,h2,h3,h4⟩:=h
  refine⟨(hf t).1.trans h1,by rw[(hf t).2];exact h2,by rw[(hf t).2];exact h3,by rw[(hf t).2];exact h4⟩
 |t::r,i+1,a,e,h=>by
  rw[List.modify_succ_cons]
  exact⟨h.1,h.2.1,h.2.2.1,Ch.modify hf h.2.2.2⟩
theorem b2M'{L:List (Nat×Nat×Nat)}{j:Nat}(h:j+1<L.length):L=L.take j++L[j]::L[j+1]::L.drop (j+2):=by
 rw[←ZZ h,←ZZ (show j<L.length by lia),List.take_append_drop]
theorem b2N'{L:List (Nat×Nat×Nat)}{j:Nat}{x:Nat×Nat×Nat}(h:j+1<L.length):(L.set j x).eraseIdx (j+1)=L.take j++x::L.drop (j+2):=by
 rw[List.eraseIdx_eq_take_drop_succ,List.take_succ,List.take_set_of_le (Zj _),Z5 (by lia),List.drop_set_of_lt (by lia)]
 simp
end
section
variable {prog:Program}{w:World}{A:Around}{E:Value→Shared→Prop}{s:Shared}{st:SortSt}{κ:SortKind}{K:Keyed→Nat}{a0:Array Keyed}
structure SI (a0:Array Keyed)(κ:SortKind)(K:Keyed→Nat)(lo:Nat)(st:SortSt):Prop where
 b:SB a0 κ st
 ch:Ch K (arrOf st) 0 (pendingOf st).toList lo
 le:lo≤a0.size
theorem a6S'(C:Cmp prog w A s κ (· ∈a0.toList) K){lo j:Nat}(I:SI a0 κ K lo st)(hj:j+1<(pendingOf st).size){Q:Bool→SortSt→Prop}(h:∀st',SI a0 κ K lo st'→(pendingOf st').size+1=(pendingOf st).size→(∀i,lo≤i→(arrOf st')[i]?=(arrOf st)[i]?)→Q true st'):wpS (model prog w) A E s (mergeAt' j) Q st:=by
 have hl:j+1<(pendingOf st).toList.length:=by rwa [ZI]
 have e:=b2M' hl
 have hc:=I.ch
 rw[e]at hc
 obtain⟨m,h1,h2⟩:=hc.app
 have g1:(pendingOf st)[j]?=some ((pendingOf st).toList[j].1,(pendingOf st).toList[j].2.1,(pendingOf st).toList[j].2.2):=by
  rw[←ZT,Ze]
 have g2:(pendingOf st)[j+1]?=some ((pendingOf st).toList[j+1].1,(pendingOf st).toList[j+1].2.1,(pendingOf st).toList[j+1].2.2):=by
  rw[←ZT,Ze]
 have e2:=b2N' (L:=(pendingOf st).toList) (j:=j) (x:=((pendingOf st).toList[j].1,(pendingOf st).toList[j].2.1+(pendingOf st).toList[j+1].2.1,(pendingOf st).toList[j].2.2)) hl
 generalize(pendingOf st).toList[j]=t at*
 generalize(pendingOf st).toList[j+1]=u at*
 obtain⟨t1,t2,t3⟩:=t
 obtain⟨u1,u2,u3⟩:=u
 obtain⟨rfl,k2,k3,k4⟩:=h2
 obtain⟨rfl,k6,k7,k8⟩:=k4
 dsimp only at*
 have hle:=k8.len
 refine a9H' C I.b g1 g2 k2 k6 (by have:=I.le;lia) k3 k7 fun ys g hp hF hs=>?_
 have ep:(((pendingOf st).setIfInBounds j (t1,t2+u2,t3)).eraseIdxIfInBounds (j+1)).toList=(pendingOf st).toList.take j++(t1,t2+u2,t3)::(pendingOf st).toList.drop (j+2):=by
  rw[Array.toList_eraseIdxIfInBounds,Array.toList_setIfInBounds,e2]
 have hle1:=h1.len
 refine h _ ⟨⟨hp.trans I.b.perm,I.b.failed,I.b.kind⟩,?_,I.le⟩ ?_ fun i hi=>hF i (.inr (by lia))
 ·show Ch K ys 0 (((pendingOf st).setIfInBounds j (t1,t2+u2,t3)).eraseIdxIfInBounds (j+1)).toList lo
  rw[ep]
  refine(h1.same fun i _ hi=>a1x' (hF i (.inl hi))).join ⟨rfl,by dsimp only;lia,?_,?_⟩
  ·dsimp only;rw[←Nat.add_assoc];exact hs
  ·dsimp only;rw[←Nat.add_assoc];exact k8.same fun i hi _=>a1x' (hF i (.inr hi))
 ·show(((pendingOf st).setIfInBounds j (t1,t2+u2,t3)).eraseIdxIfInBounds (j+1)).size+1=_
  rw[←ZI,ep,←ZI]
  simp only[Zm,Z8,Zs,List.length_drop]
  lia
end
end Srt
end
section
set_option autoImplicit false
namespace Srt
open PySem PyProof.Rows
section
variable {prog:Program}{w:World}{A:Around}{E:Value→Shared→Prop}{s:Shared}{st:SortSt}{κ:SortKind}{K:Keyed→Nat}{a0:Array Keyed}
theorem selN{α:Type}{c:Nat→Prop}{dc:∀n,Decidable (c n)}{f T:Nat→StateT SortSt Sem α}{Q:α→SortSt→Prop}{C:Nat→SortSt→Prop}{H:Nat→Prop}(key:∀n st',C n st'→wpS (model prog w) A E s (f n) Q st')(h1:∀n,H n→c n→(∀n st',C n st'→wpS (model prog w) A E s (f n) Q st')→wpS (model prog w) A E s (T n) Q st)(h2:∀n,H n→¬c n→C n st):
  ∀n,H n→wpS (model prog w) A E s (if c n then T n else f n) Q st:=fun n hn=>by
 by_cases h:c n
 ·rw[if_pos h];exact h1 n hn h key
 ·rw[if_neg h];exact key n st (h2 n hn h)
theorem a6T'(C:Cmp prog w A s κ (· ∈a0.toList) K)(hB:SB a0 κ st)(hpe:pendingOf st= #[])(h2:2≤a0.size){Q:Unit→SortSt→Prop}(h:∀st',SB a0 κ st'→SR K (arrOf st') 0 a0.size→Q () st'):wpS (model prog w) A E s sortRuns' Q st:=by
 have hsz:=hB.size
 rw[sortRuns'_eq]
 refine Zp (wpS_get ?_)
 dsimp-zeta only
 rw[hsz]
 refine Zp (wpS_mono (Z9 (I:=fun x c st'=>∃lo,c=(none,lo)∧SI a0 κ K lo st'∧x≤lo) (Q:=fun c st'=>∃lo,c=(none,lo)∧SI a0 κ K lo st'∧a0.size≤lo) ?_ ?_ ⟨0,rfl,⟨hB,by rw[hpe];rfl,by lia⟩,by lia⟩) ?_)
 ·rintro x c st1 _ hx ⟨lo,rfl,I,hxl⟩
  by_cases hlo:lo≥a0.size
  ·exact wpS_T hlo (Zw ⟨lo,rfl,I,hlo⟩)
  refine wpS_F hlo (Zp (a6R' C I.b (lo:=lo) (nrem:=a0.size-lo) (by lia) (by lia) fun m ys hp hF m1 m2 hs=>?_))
  have chF:∀{zs:Array Keyed},(∀i,i<lo→zs[i]?=(arrOf st1)[i]?)→Ch K zs 0 (pendingOf st1).toList lo:=fun hz=>I.ch.same fun i _ hi=>a1x' (hz i hi)
  have H:1≤m∧m≤a0.size-lo∧SR K ys lo (lo+m):=⟨m1,m2,hs⟩
  revert H
  clear m1 m2 hs
  generalize m=m'
  revert m'
  refine selN (C:=fun n st2=>(SB a0 κ st2∧Ch K (arrOf st2) 0 (pendingOf st2).toList lo)∧SR K (arrOf st2) lo (lo+n)∧1≤n∧lo+n≤a0.size) (fun n st2 hC=>?_) (fun n hH hc key=>?_) (fun n hH hc=>⟨⟨I.b.arr hp,chF fun i hi=>hF i (.inl hi)⟩,hH.2.2,hH.1,by have:=hH.2.1;lia⟩)
  ·obtain⟨hJ,hs,n1,n2⟩:=hC
   have push:∀st3,SB a0 κ st3→Ch K (arrOf st3) 0 (pendingOf st3).toList lo→SR K (arrOf st3) lo (lo+n)→SI a0 κ K (lo+n) (setPending st3 ((pendingOf st3).push (lo,n,0))):=fun st3 b3 c3 s3=>⟨⟨b3.perm,b3.failed,b3.kind⟩,by
    show Ch K (arrOf st3) 0 ((pendingOf st3).push (lo,n,0)).toList (lo+n)
    rw[Array.toList_push]
    exact c3.join ⟨rfl,n1,s3,rfl⟩,n2⟩
   refine Zp (wpS_get ?_)
   cases hbk:(pendingOf st2).back? with
   |none=>exact Zp (wpS_modify (Zw ⟨lo+n,rfl,push st2 hJ.1 hJ.2 hs,by lia⟩))
   |some t=>
    refine Zp (wpS_mono (Z9 (I:=fun y c st3=>c=(none,())∧(SB a0 κ st3∧Ch K (arrOf st3) 0 (pendingOf st3).toList lo)∧SR K (arrOf st3) lo (lo+n)) (Q:=fun c st3=>c=(none,())∧(SB a0 κ st3∧Ch K (arrOf st3) 0 (pendingOf st3).toList lo)∧SR K (arrOf st3) lo (lo+n)) ?_ ?_ ⟨rfl,hJ,hs⟩) ?_)
    ·rintro y c st3 _ hy ⟨rfl,hJ3,hs3⟩
     refine Zp (wpS_get ?_)
     dsimp only
     by_cases hp1:(pendingOf st3).size>1
     ·have e1:(if(pendingOf st3).size>1 then(pendingOf st3)[(pendingOf st3).size-2]? else none)=some ((pendingOf st3)[(pendingOf st3).size-2]'(by lia)):=by rw[if_pos hp1,getElem?_pos]
      rw[e1]
      generalize((pendingOf st3)[(pendingOf st3).size-2]'(by lia))=u
      by_cases ho:u.2.2≤power' a0.size (2*t.1+t.2.1) (2*t.1+t.2.1+t.2.1+n) a0.size
      ·exact wpS_T ho (Zw ⟨rfl,hJ3,hs3⟩)
      ·refine wpS_F ho (Zp (a6S' C ⟨hJ3.1,hJ3.2,by lia⟩ (by lia) fun st4 I4 _ hF4=>?_))
       refine wpS_F (by decide) (Zw ⟨rfl,⟨I4.b,I4.ch⟩,fun i j k1 k2 k3=>?_⟩)
       rw[a1x' (hF4 i k1),a1x' (hF4 j (by lia))]
       exact hs3 i j k1 k2 k3
     ·rw[if_neg hp1]
      exact Zw ⟨rfl,hJ3,hs3⟩
    ·rintro c st3 hh
     exact hh
    ·rintro c st3 ⟨rfl,hJ3,hs3⟩
     refine Zp (wpS_modify ?_)
     refine Zp (wpS_modify (Zw ⟨lo+n,rfl,push _ ⟨hJ3.1.perm,hJ3.1.failed,hJ3.1.kind⟩ ?_ hs3,by lia⟩))
     show Ch K (arrOf st3) 0 ((pendingOf st3).modify _ _).toList lo
     rw[Array.toList_modify]
     exact Ch.modify (f:=fun x=>(x.1,x.2.1,power' a0.size (2*t.1+t.2.1) (2*t.1+t.2.1+t.2.1+n) a0.size)) (fun _=>⟨rfl,rfl⟩) hJ3.2
  ·refine Zp (wpS_lift (wpAny_rule ⟨rfl,?_⟩))
   obtain⟨hm1,hm2,hms⟩:=hH
   have hc:n<minRun' a0.size a0.size 0:=hc
   refine Zp (a5e' C (I.b.arr hp) (lo:=lo) (by lia) (by lia) hms fun zs hp2 hF2 hs2=>?_)
   refine wpS_F (by decide) (key _ _ ⟨⟨I.b.arr (hp2.trans hp),chF fun i hi=>(hF2 i (.inl hi)).trans (hF i (.inl hi))⟩,hs2,by lia,by lia⟩)
 ·rintro c st' ⟨lo,rfl,I,hx⟩
  exact⟨lo,rfl,I,by lia⟩
 ·rintro c st1 ⟨lo,rfl,I,hx⟩
  have elo:lo=a0.size:=by have:=I.le;lia
  subst elo
  refine Zp (wpS_mono (Z9 (I:=fun y c st2=>c=(none,())∧SI a0 κ K a0.size st2∧(pendingOf st2).size≤1+(a0.size-y)) (Q:=fun c st2=>c=(none,())∧SI a0 κ K a0.size st2∧(pendingOf st2).size≤1) ?_ ?_ ⟨rfl,I,?_⟩) ?_)
  ·rintro y c st2 _ hy ⟨rfl,I2,hz⟩
   refine Zp (wpS_get ?_)
   by_cases hp1:(pendingOf st2).size≤1
   ·exact wpS_T hp1 (Zw ⟨rfl,I2,hp1⟩)
   ·refine wpS_F hp1 (Zp (a6S' C I2 (by have hif:∀(c:Prop) [Decidable c] (x y:Nat),x≤y→(if c then x else y)≤y:=(fun c _ x y hxy=>by split<;>lia);exact Nat.lt_of_le_of_lt (Nat.succ_le_succ (hif _ _ _ (Nat.sub_le _ 1))) (by lia)) fun st3 I3 hz3 _=>?_))
    exact wpS_F (by decide) (Zw ⟨rfl,I3,by lia⟩)
  ·rintro c st2 ⟨rfl,I2,hz⟩
   exact⟨rfl,I2,by lia⟩
  ·have:=I.ch.len
   rw[ZI]at this
   lia
  ·rintro c st2 ⟨rfl,I2,hz⟩
   refine Zw (h st2 I2.b ?_)
   have hc:=I2.ch
   have hl:(pendingOf st2).toList.length≤1:=by rwa [ZI]
   generalize(pendingOf st2).toList=L at hc hl
   cases L with
   |nil=>exact absurd (show 0=a0.size from hc) (by lia)
   |cons t r=>
    cases r with
    |nil=>
     obtain⟨e1,e2,e3,e4⟩:=hc
     have e4:0+t.2.1=a0.size:=e4
     rw[e4]at e3
     exact e3
    |cons _ _=>simp at hl
end
end Srt
end
section
set_option autoImplicit false
namespace Py
open PySem PySem.W PySem.Spec PyProof.Rows Srt
structure SOrd (n:Nat)(c:Nat→Nat→Bool):Prop where
 irr:∀i,i<n→c i i=false
 asym:∀i j,i<n→j<n→c i j=true→c j i=false
 ntr:∀i j k,i<n→j<n→k<n→c i j=false→c j k=false→c i k=false
def rankN(n:Nat)(c:Nat→Nat→Bool)(i:Nat):Nat:=((List.range n).filter fun j=>c j i).length
theorem b5d'{f g:Nat→Bool}:∀(l:List Nat),(∀x∈l,f x=true→g x=true)→(l.filter f).length≤(l.filter g).length
 | [],_=>Zj _
 |x::l,h=>by
  have ih:=b5d' l fun y hy=>h y (Za _ hy)
  have hx:=h x Zb
  rw[List.filter_cons,List.filter_cons]
  cases e1:f x<;>cases e2:g x
  ·exact ih
  ·exact Nat.le_succ_of_le ih
  ·rw[e1,e2]at hx;cases hx rfl
  ·exact Nat.succ_le_succ ih
theorem b5e'{f g:Nat→Bool}:∀(l:List Nat),(∀x∈l,f x=true→g x=true)→(∃x∈l,f x=false∧g x=true)→(l.filter f).length<(l.filter g).length
 | [],_,h=>by obtain⟨x,hx,_⟩:=h;cases hx
 |x::l,h,k=>by
  have hx:=h x Zb
  have hl:=fun y hy=>h y (Za x hy)
  have le:=b5d' l hl
  rw[List.filter_cons,List.filter_cons]
  cases e1:f x<;>cases e2:g x
  ·obtain⟨y,hy,k1,k2⟩:=k
   rcases Zn.mp hy with rfl|hy
   ·rw[e2]at k2;cases k2
   ·exact b5e' l hl ⟨y,hy,k1,k2⟩
  ·exact Nat.lt_succ_of_le le
  ·rw[e1,e2]at hx;cases hx rfl
  ·obtain⟨y,hy,k1,k2⟩:=k
   rcases Zn.mp hy with rfl|hy
   ·rw[e1]at k1;cases k1
   ·exact Nat.succ_lt_succ (b5e' l hl ⟨y,hy,k1,k2⟩)
theorem b3G'{n:Nat}{c:Nat→Nat→Bool}(o:SOrd n c){i j:Nat}(hi:i<n)(hj:j<n):c i j=decide (rankN n c i<rankN n c j):=by
 cases e:c i j with
 |true=>
  refine(Zy (b5e' (f:=fun k=>c k i) (g:=fun k=>c k j) _ (fun k hk h=>?_) ⟨i,Ya.mpr hi,o.irr i hi,e⟩)).symm
  have hk:=Ya.mp hk
  cases e2:c k j with
  |true=>rfl
  |false=>
   have:=o.ntr k j i hk hj hi e2 (o.asym i j hi hj e)
   rw[h]at this;cases this
 |false=>
  refine(Zz (Nat.not_lt.mpr (b5d' (f:=fun k=>c k j) (g:=fun k=>c k i) _ fun k hk h=>?_))).symm
  have hk:=Ya.mp hk
  cases e2:c k i with
  |true=>rfl
  |false=>
   have:=o.ntr k i j hk hi hj e2 e
   rw[h]at this;cases this
theorem a9I'{α β:Type}{f:α→β}:∀{l2 m:List β},l2.Perm m→∀l1:List α,m=l1.map f→∃l:List α,l.Perm l1∧l.map f=l2:=by
 intro l2 m p
 induction p with
 |nil=>intro l1 e;cases l1 with
  |nil=>exact⟨[],.refl _,rfl⟩
  |cons _ _=>cases e
 |cons x p ih=>
  intro l1 e
  cases l1 with
  |nil=>cases e
  |cons a l1=>
   rw[ZA]at e
   obtain⟨e1,e2⟩:=List.cons.inj e
   subst e1
   obtain⟨l,h1,h2⟩:=ih l1 e2
   exact⟨a::l,h1.cons a,by rw[ZA,h2]⟩
 |swap x y l=>
  intro l1 e
  cases l1 with
  |nil=>cases e
  |cons a l1=>
   rw[ZA]at e
   obtain⟨e1,e2⟩:=List.cons.inj e
   subst e1
   cases l1 with
   |nil=>cases e2
   |cons b l1=>
    rw[ZA]at e2
    obtain⟨e3,e4⟩:=List.cons.inj e2
    subst e3
    exact⟨b::a::l1,.swap a b l1,by rw[ZA,ZA,e4]⟩
 |trans p q ih1 ih2=>
  intro l1 e
  obtain⟨l,h1,h2⟩:=ih2 l1 e
  obtain⟨l',h3,h4⟩:=ih1 l h2.symm
  exact⟨l',h3.trans h1,h4⟩
open Classical in
def idxOf(its:List Value)(x:Keyed):Nat:=if h:∃i,i<its.length∧its.getD i Value.none=x.1 then h.choose else 0
section
variable {prog:Program}{w:World}{A:Around}{E:Value→Shared→Prop}{s:Shared}{κ:SortKind}
theorem run_any{its:List Value}{c:Nat→Nat→Bool}(o:SOrd its.length c)(same:∀i j,i<its.length→j<its.length→its.getD i Value.none=its.getD j Value.none→rankN its.length c i=rankN its.length c j)(h2:2≤its.length)
  (ask:∀i j C,i<its.length→j<its.length→C (c i j) s→kas_ask prog w A κ its i j C s) {Q:SortSt→Shared→Prop}
  (h:∀(st':SortSt) (p:List Nat),failedOf st'=none→(arrOf st').map (·.2)=List.toArray (p.map fun i=>its.getD i Value.none)→p.Perm (List.range its.length)→p.Pairwise (fun i j=>c j i=false)→Q st' s):
  wpAny (model prog w) A ((sortRuns').run (SortSt.mk' κ (its.toArray.zip its.toArray) #[] 7 none)) (fun r s'=>Q r.2 s') E s:=by
 have hidx:∀i,i<its.length→idxOf its (its.getD i Value.none,its.getD i Value.none)<its.length∧its.getD (idxOf its (its.getD i Value.none,its.getD i Value.none)) Value.none=its.getD i Value.none:=fun i hi=>by
  have hx:∃j,j<its.length∧its.getD j Value.none=its.getD i Value.none:=⟨i,hi,rfl⟩
  unfold idxOf
  rw[dif_pos hx]
  exact hx.choose_spec
 have hel:∀x∈(its.toArray.zip its.toArray).toList,∃i,i<its.length∧x=(its.getD i Value.none,its.getD i Value.none):=fun x hx=>by
  rw[Array.toList_zip]at hx
  obtain⟨i,hi,rfl⟩:=ZV.mp hx
  have hi':i<its.length:=by simp at hi;exact hi
  refine⟨i,hi',?_⟩
  have e:its.getD i Value.none=its[i]:=by simp[List.getD,hi']
  rw[e]
  simp
 have C:Cmp prog w A s κ (· ∈(its.toArray.zip its.toArray).toList) (fun x=>rankN its.length c (idxOf its x)):=⟨fun x hx y hy Q E hQ=>by
  obtain⟨i,hi,rfl⟩:=hel x hx
  obtain⟨j,hj,rfl⟩:=hel y hy
  obtain⟨i1,i2⟩:=hidx i hi
  obtain⟨j1,j2⟩:=hidx j hj
  rw[←b3G' o i1 j1]at hQ
  have:=ask _ _ Q i1 j1 hQ
  unfold kas_ask at this
  rw[i2,j2]at this
  exact wpAny_mono this (fun _ _ q=>q) fun _ _ z=>z.elim⟩
 have hz:(its.toArray.zip its.toArray).size=its.length:=by simp
 have run:=a6T' (E:=E) (st:=SortSt.mk' κ (its.toArray.zip its.toArray) #[] 7 none) C ⟨.refl _,rfl,rfl⟩ rfl (by rw[hz];exact h2) (Q:=fun _ st'=>Q st' s) fun st' B hs=>by
  have hr:(its.toArray.zip its.toArray).toList=(List.range its.length).map fun i=>(its.getD i Value.none,its.getD i Value.none):=by
   apply List.ext_getElem
   ·simp
   ·intro i h1 h2
    have hi:i<its.length:=by simpa using h2
    have e:its.getD i Value.none=its[i]:=by simp[List.getD,hi]
    simp only[List.getElem_map,List.getElem_range,e]
    simp
  obtain⟨p,p1,p2⟩:=a9I' (Array.perm_iff_toList_perm.mp B.perm) _ hr
  refine h st' p B.failed ?_ p1 ?_
  ·apply Array.toList_inj.mp
   rw[Array.toList_map,←p2,List.map_map]
   rfl
  ·refine List.pairwise_iff_getElem.mpr fun i j hi hj hij=>?_
   have hpl:p.length=its.length:=by rw[p1.length_eq,List.length_range]
   have pi:p[i]<its.length:=Ya.mp (p1.mem_iff.mp (Z3 hi))
   have pj:p[j]<its.length:=Ya.mp (p1.mem_iff.mp (Z3 hj))
   have hsz:(arrOf st').size=its.length:=by rw[B.perm.size_eq,hz]
   have:=hs i j (Nat.zero_le _) (Nat.le_of_lt hij) (by rw[hz];omega)
   have ge:∀(k:Nat) (hk:k<p.length),R (fun x=>rankN its.length c (idxOf its x)) (arrOf st') k=rankN its.length c p[k]:=fun k hk=>by
    have hk':k<(arrOf st').size:=by omega
    rw[R_of hk']
    have e:(arrOf st')[k]=(its.getD p[k] Value.none,its.getD p[k] Value.none):=by
     have e1:(arrOf st').toList[k]?=some (its.getD p[k] Value.none,its.getD p[k] Value.none):=by rw[←p2,ZN,Ze hk];rfl
     rw[ZT,getElem?_pos (arrOf st') k hk']at e1
     exact Z2 e1
    rw[e]
    have pk:p[k]<its.length:=Ya.mp (p1.mem_iff.mp (Z3 hk))
    obtain⟨q1,q2⟩:=hidx p[k] pk
    exact same _ _ q1 pk q2
   rw[ge i hi,ge j hj]at this
   rw[b3G' o pj pi]
   exact Zz (by omega)
 exact wpAny_mono run (fun r s' hr=>by obtain⟨rfl,q⟩:=hr;exact q) fun _ _ e=>e
end
end Py
end
section
namespace Py
open PySem PySem.Spec PyProof.Rows L2
structure LOrd (P:D→Prop)(f:D→D→Bool):Prop where
 irr:∀x,P x→f x x=false
 asym:∀x y,P x→P y→f x y=true→f y x=false
 ntr:∀x y z,P x→P y→P z→f x y=false→f y z=false→f x z=false
 tot:∀x y,P x→P y→f x y=false→f y x=false→x=y
section
variable {P:D→Prop}{f:D→D→Bool}
theorem b3H'(o:LOrd P f):∀(xs:List D),(∀x∈xs,P x)→lexB f xs xs=false
 | [],_=>rfl
 |x::xs,h=>by
  unfold lexB
  rw[o.irr x (h x Zb)]
  simpa using b3H' o xs fun y hy=>h y (Za _ hy)
theorem b1h'(o:LOrd P f):∀(xs ys:List D),(∀x∈xs,P x)→(∀x∈ys,P x)→lexB f xs ys=true→lexB f ys xs=false
 | [],[],_,_,h=>by cases h
 | [],_::_,_,_,_=>rfl
 |_::_,[],_,_,h=>by cases h
 |x::xs,y::ys,h1,h2,h=>by
  unfold lexB at h⊢
  have px:=h1 x Zb
  have py:=h2 y Zb
  cases e:f x y with
  |true=>rw[o.asym x y px py e];simp
  |false=>
   rw[e]at h
   cases e2:f y x with
   |true=>rw[e2]at h;simp at h
   |false=>
    rw[e2]at h
    simp only[Zx,Z4]at h⊢
    exact b1h' o xs ys (fun z hz=>h1 z (Za _ hz)) (fun z hz=>h2 z (Za _ hz)) h
theorem lex_tot(o:LOrd P f):∀(xs ys:List D),(∀x∈xs,P x)→(∀x∈ys,P x)→lexB f xs ys=false→lexB f ys xs=false→xs=ys
 | [],[],_,_,_,_=>rfl
 | [],_::_,_,_,h,_=>by cases h
 |_::_,[],_,_,_,h=>by cases h
 |x::xs,y::ys,h1,h2,h,h'=>by
  unfold lexB at h h'
  have px:=h1 x Zb
  have py:=h2 y Zb
  cases e:f x y with
  |true=>rw[e]at h;simp at h
  |false=>
   cases e2:f y x with
   |true=>rw[e2]at h';simp at h'
   |false=>
    rw[e,e2]at h h'
    simp only[Zx,Z4]at h h'
    rw[o.tot x y px py e e2,lex_tot o xs ys (fun z hz=>h1 z (Za _ hz)) (fun z hz=>h2 z (Za _ hz)) h h']
theorem b3I'(o:LOrd P f):∀(xs ys zs:List D),(∀x∈xs,P x)→(∀x∈ys,P x)→(∀x∈zs,P x)→lexB f xs ys=false→lexB f ys zs=false→lexB f xs zs=false
 | [],[],zs,_,_,_,_,h=>h
 | [],_::_,_,_,_,_,h,_=>by cases h
 |_::_,_,[],_,_,_,_,_=>rfl
 |x::xs,[],z::zs,_,_,_,_,h=>by cases h
 |x::xs,y::ys,z::zs,h1,h2,h3,ha,hb=>by
  have px:=h1 x Zb
  have py:=h2 y Zb
  have pz:=h3 z Zb
  unfold lexB at ha hb⊢
  cases e1:f x y with
  |true=>rw[e1]at ha;simp at ha
  |false=>
   cases e2:f y z with
   |true=>rw[e2]at hb;simp at hb
   |false=>
    rw[e1]at ha
    rw[e2]at hb
    simp only[Zx,Z4]at ha hb
    rw[o.ntr x y z px py pz e1 e2]
    simp only[Zx,Z4]
    cases e3:f z x with
    |true=>rfl
    |false=>
     have e4:f y x=false:=o.ntr y z x py pz px e2 e3
     have e5:f z y=false:=o.ntr z x y pz px py e3 e1
     rw[e4]at ha
     rw[e5]at hb
     simp only[Zx,Z4]at ha hb⊢
     exact b3I' o xs ys zs (fun w hw=>h1 w (Za _ hw)) (fun w hw=>h2 w (Za _ hw)) (fun w hw=>h3 w (Za _ hw)) ha hb
end
theorem a3b'{d:D}(h:hasTy .int d=true):∃i,d=.int i:=by
 cases d<;>first|exact⟨_,rfl⟩| (simp[hasTy]at h)
theorem a2k'{t:KTy}{d:D}(h:hasTy (.seq t) d=true):∃xs,d=.tup xs∧∀x∈xs,hasTy t x=true:=by
 cases d with
 |tup xs=>unfold hasTy at h;exact⟨xs,rfl,fun x hx=>ZF.mp h x hx⟩
 |_=>simp[hasTy]at h
theorem lordK:∀(t:KTy),noStr t=true→LOrd (fun d=>hasTy t d=true) (ltK t)
 | .int,_=>by
  refine⟨fun x h=>?_,fun x y h1 h2 h=>?_,fun x y z h1 h2 h3 ha hb=>?_,fun x y h1 h2 ha hb=>?_⟩
  ·obtain⟨i,rfl⟩:=a3b' h;simp[ltK]
  ·obtain⟨i,rfl⟩:=a3b' h1;obtain⟨j,rfl⟩:=a3b' h2;simp[ltK]at h⊢;omega
  ·obtain⟨i,rfl⟩:=a3b' h1;obtain⟨j,rfl⟩:=a3b' h2;obtain⟨k,rfl⟩:=a3b' h3;simp[ltK]at ha hb⊢;omega
  ·obtain⟨i,rfl⟩:=a3b' h1;obtain⟨j,rfl⟩:=a3b' h2;simp[ltK]at ha hb;congr 1;omega
 | .seq t,h=>by
  have o:=lordK t h
  refine⟨fun x h=>?_,fun x y h1 h2 h=>?_,fun x y z h1 h2 h3 ha hb=>?_,fun x y h1 h2 ha hb=>?_⟩
  ·obtain⟨xs,rfl,k⟩:=a2k' h;exact b3H' o xs k
  ·obtain⟨xs,rfl,k1⟩:=a2k' h1;obtain⟨ys,rfl,k2⟩:=a2k' h2;exact b1h' o xs ys k1 k2 h
  ·obtain⟨xs,rfl,k1⟩:=a2k' h1;obtain⟨ys,rfl,k2⟩:=a2k' h2;obtain⟨zs,rfl,k3⟩:=a2k' h3;exact b3I' o xs ys zs k1 k2 k3 ha hb
  ·obtain⟨xs,rfl,k1⟩:=a2k' h1;obtain⟨ys,rfl,k2⟩:=a2k' h2;exact congrArg D.tup (lex_tot o xs ys k1 k2 ha hb)
def eqK(t:KTy)(d e:D):Bool:= !ltK t d e&& !ltK t e d
theorem b1i'{t:KTy}(hs:noStr t=true){d e:D}(h1:hasTy t d=true)(h2:hasTy t e=true)(h:eqK t d e=true):d=e:=by
 unfold eqK at h
 simp at h
 exact(lordK t hs).tot d e h1 h2 h.1 h.2
theorem a2D'{f:D→D→Bool}{x y:D}{xs ys:List D}:lexB f (x::xs) (y::ys)=if f x y=true then true else if f y x=true then false else lexB f xs ys:=rfl
theorem b3J'{t:KTy}(hs:noStr t=true):∀(xs ys:List D),(∀x∈xs,hasTy t x=true)→(∀x∈ys,hasTy t x=true)→eqK (.seq t) (.tup xs) (.tup ys)=((List.zipWith (eqK t) xs ys).all id&&xs.length==ys.length)
 | [],[],_,_=>rfl
 | [],y::ys,_,_=>by simp[eqK,ltK,lexB]
 |x::xs,[],_,_=>by simp[eqK,ltK,lexB]
 |x::xs,y::ys,h1,h2=>by
  have ih:=b3J' hs xs ys (fun w hw=>h1 w (Za _ hw)) (fun w hw=>h2 w (Za _ hw))
  have px:=h1 x Zb
  have py:=h2 y Zb
  cases e:ltK t x y with
  |true=>
   have:eqK t x y=false:=by simp[eqK,e]
   simp[eqK,ltK,lexB,e]
  |false=>
   cases e2:ltK t y x with
   |true=>simp[eqK,ltK,lexB,e,e2]
   |false=>
    have e3:eqK t x y=true:=by simp[eqK,e,e2]
    have e4:eqK (.seq t) (.tup (x::xs)) (.tup (y::ys))=eqK (.seq t) (.tup xs) (.tup ys):=by
     show(!lexB (ltK t) (x::xs) (y::ys)&& !lexB (ltK t) (y::ys) (x::xs))=(!lexB (ltK t) xs ys&& !lexB (ltK t) ys xs)
     rw[a2D',a2D',e,e2]
     simp
    rw[e4,ih]
    simp[e3]
theorem allO_map(f:D→D→Bool):∀(xs ys:List D) (g:D→D→Option Bool),(∀x∈xs,∀y∈ys,g x y=some (f x y))→allO (List.zipWith g xs ys)=some ((List.zipWith f xs ys).all id)
 | [],_,_,_=>rfl
 |_::_,[],_,_=>rfl
 |x::xs,y::ys,g,h=>by
  have ih:=allO_map f xs ys g fun a ha b hb=>h a (Za _ ha) b (Za _ hb)
  show(match g x y,allO (List.zipWith g xs ys)with
   |some b,some c=>some (b&&c)
   |_,_=>none)=_
  rw[h x Zb y Zb,ih]
  rfl
theorem b3K'{t:KTy}(hs:noStr t=true){eq lt:D→D→Option Bool}:∀(xs ys:List D),(∀x∈xs,hasTy t x=true)→(∀x∈ys,hasTy t x=true)→(∀x∈xs,∀y∈ys,eq x y=some (eqK t x y)∧lt x y=some (ltK t x y))→ltL eq lt xs ys=some (lexB (ltK t) xs ys)
 | [],[],_,_,_=>rfl
 | [],_::_,_,_,_=>rfl
 |_::_,[],_,_,_=>rfl
 |x::xs,y::ys,h1,h2,h=>by
  have ih:=b3K' hs xs ys (fun w hw=>h1 w (Za _ hw)) (fun w hw=>h2 w (Za _ hw)) fun a ha b hb=>h a (Za _ ha) b (Za _ hb)
  obtain⟨k1,k2⟩:=h x Zb y Zb
  have px:=h1 x Zb
  have py:=h2 y Zb
  unfold ltL
  rw[k1,a2D']
  cases e:ltK t x y with
  |true=>
   have e1:eqK t x y=false:=by simp[eqK,e]
   rw[e1]
   show lt x y=_
   rw[k2,e];rfl
  |false=>
   cases e2:ltK t y x with
   |true=>
    have e1:eqK t x y=false:=by simp[eqK,e,e2]
    rw[e1]
    show lt x y=_
    rw[k2,e];rfl
   |false=>
    have e1:eqK t x y=true:=by simp[eqK,e,e2]
    rw[e1]
    exact ih
theorem asK(S:Store):∀(t:KTy),noStr t=true→∀n,depth t≤n→∀d e,hasTy t d=true→hasTy t e=true→eqF S n d e=some (eqK t d e)∧ltF S n d e=some (ltK t d e)
 | .int,_,0,h,_,_,_,_=>by simp[depth]at h
 | .int,_,n+1,_,d,e,h1,h2=>by
  obtain⟨i,rfl⟩:=a3b' h1
  obtain⟨j,rfl⟩:=a3b' h2
  refine⟨?_,rfl⟩
  show some (i==j)=some (!decide (i<j)&& !decide (j<i))
  congr 1
  by_cases z:i=j
  ·subst z;simp
  ·rcases Int.lt_or_gt_of_ne z with y|y
   ·simp[z,y]
   ·have:¬i<j:=by omega
    simp[z,y]
 | .seq t,hs,0,h,_,_,_,_=>by simp[depth]at h
 | .seq t,hs,n+1,h,d,e,h1,h2=>by
  obtain⟨xs,rfl,k1⟩:=a2k' h1
  obtain⟨ys,rfl,k2⟩:=a2k' h2
  have ih:=asK S t hs n (by simpa[depth]using h)
  refine⟨?_,b3K' (t:=t) hs xs ys k1 k2 fun x hx y hy=>ih x y (k1 x hx) (k2 y hy)⟩
  show(allO (List.zipWith (eqF S n) xs ys)).map (· &&xs.length==ys.length)=_
  rw[allO_map (eqK t) xs ys _ fun x hx y hy=>(ih x y (k1 x hx) (k2 y hy)).1,b3J' (t:=t) hs xs ys k1 k2]
  rfl
theorem a6g'(f:D→D→Bool)(x:D):∀l,(insB f x l).Perm (x::l)
 | []=>.refl _
 |y::ys=>by
  unfold insB
  split
  ·exact .refl _
  ·exact((a6g' f x ys).cons y).trans (.swap _ _ _)
theorem a1a'(f:D→D→Bool)(xs:List D):(a2Z' f xs).Perm xs:=by
 have key:∀(xs acc:List D),(xs.foldl (fun acc x=>insB f x acc) acc).Perm (acc++xs):=by
  intro xs
  induction xs with
  |nil=>intro acc;simp
  |cons x xs ih=>
   intro acc
   refine(ih (insB f x acc)).trans ?_
   refine((a6g' f x acc).append_right xs).trans ?_
   exact List.perm_middle.symm
 simpa[a2Z']using key xs []
theorem a6U'{P:D→Prop}{f:D→D→Bool}(o:LOrd P f)(x:D)(px:P x):∀l,(∀y∈l,P y)→l.Pairwise (fun a b=>f b a=false)→(insB f x l).Pairwise (fun a b=>f b a=false)
 | [],_,_=>by simp[insB]
 |y::ys,hp,h=>by
  unfold insB
  have py:=hp y Zb
  obtain⟨h1,h2⟩:=ZW.mp h
  split
  ·rename_i hlt
   refine ZW.mpr ⟨fun z hz=>?_,h⟩
   have yx:=o.asym x y px py hlt
   rcases Zn.mp hz with rfl|hz
   ·exact yx
   ·exact o.ntr z y x (hp z (Za _ hz)) py px (h1 z hz) yx
  ·rename_i hlt
   refine ZW.mpr ⟨fun z hz=>?_,a6U' o x px ys (fun w hw=>hp w (Za _ hw)) h2⟩
   rcases Zn.mp ((a6g' f x ys).mem_iff.mp hz)with rfl|hz
   ·simpa using hlt
   ·exact h1 z hz
theorem a4D'{P:D→Prop}{f:D→D→Bool}(o:LOrd P f)(xs:List D)(hp:∀x∈xs,P x):(a2Z' f xs).Pairwise (fun a b=>f b a=false):=by
 have key:∀(xs acc:List D),(∀x∈xs,P x)→(∀x∈acc,P x)→acc.Pairwise (fun a b=>f b a=false)→(xs.foldl (fun acc x=>insB f x acc) acc).Pairwise (fun a b=>f b a=false):=by
  intro xs
  induction xs with
  |nil=>intro acc _ _ h;exact h
  |cons x xs ih=>
   intro acc h1 h2 h
   have px:=h1 x Zb
   refine ih (insB f x acc) (fun y hy=>h1 y (Za _ hy)) (fun y hy=>?_) (a6U' o x px acc h2 h)
   rcases Zn.mp ((a6g' f x acc).mem_iff.mp hy)with rfl|hy
   ·exact px
   ·exact h2 y hy
 exact key xs [] hp (by simp) .nil
theorem a4E'{t:KTy}(hs:noStr t=true){xs ys:List D}(hp:∀x∈xs,hasTy t x=true)(p:ys.Perm xs)(s:ys.Pairwise (fun a b=>ltK t b a=false)):ys=a2Z' (ltK t) xs:=by
 have o:=lordK t hs
 refine List.Perm.eq_of_pairwise (le:=fun a b=>ltK t b a=false) (fun a b ha hb h1 h2=>?_) s (a4D' o xs hp) (p.trans (a1a' _ _).symm)
 exact o.tot a b (hp a (p.mem_iff.mp ha)) (hp b ((a1a' _ _).mem_iff.mp hb)) h2 h1
end Py
end
section
namespace Py
open PySem PySem.W PySem.Spec PyProof.Rows
section
variable {prog:Program}{w:World}{A:Around}{E:Value→Shared→Prop}{s:Shared}
def Outs(its:List Value)(c:Nat→Nat→Bool)(out:List Value):Prop:=∃p:List Nat,out=p.map (fun i=>its.getD i Value.none)∧p.Perm (List.range its.length)∧p.Pairwise (fun i j=>c j i=false)
theorem a8c'{a:Addr}{its:List Value}{n0:Nat}{c:Nat→Nat→Bool}{P:PySem.Fin→Shared→Prop}(ho:s.heap.get? a=some (seqObj "list" its.toArray n0))(h64:its.length≤sizeLine)
  (hk:2≤its.length→∃κ:SortKind,SOrd its.length c∧(∀i j,i<its.length→j<its.length→its.getD i Value.none=its.getD j Value.none→rankN its.length c i=rankN its.length c j)∧∀h':Heap,(∀b o,b≠a→s.heap.get? b=some o→h'.get? b=some o)→
   (∀(Q':SortKind→Shared→Prop),Q' κ {s with heap:=h'}→wpAny (model prog w) A (keyKind' its.toArray) Q' E {s with heap:=h'})∧
   ∀i j C,i<its.length→j<its.length→C (c i j) {s with heap:=h'}→kas_ask prog w A κ its i j C {s with heap:=h'})
  (hP:∀h' c2 out,(∀b o,b≠a→s.heap.get? b=some o→h'.get? b=some o)→h'.get? a=some (seqObj "list" (List.toArray out) c2)→Outs its c out→P (.done (.ret .none)) {s with heap:=h'}):
  wpAny (model prog w) A (Builtin.«list.sort» ⟨[.ref a],[]⟩) P E s:=by
 have ha:a<s.heap.objs.size:=Zq ho
 have s1:=Heap.SameBut.update s.heap a (Obj.mapSeq fun _=>(#[]:Array Value))
 obtain⟨e1,ho1⟩:∃e1,(s.heap.update a (Obj.mapSeq fun _=>(#[]:Array Value))).get? a=some (seqObj "list" #[] e1):=⟨_,get?_update_seq ho fun _=> #[]⟩
 have keep:∀b o,b≠a→s.heap.get? b=some o→(((s.heap.update a (Obj.mapSeq fun _=>(#[]:Array Value))).push (seqObj "tuple" its.toArray 0)).push (seqObj "list" #[] 0)).get? b=some o:=fun b o hb e=>
  Zd _ (Zd _ ((s1.2 b hb).trans e))
 have ho2:(((s.heap.update a (Obj.mapSeq fun _=>(#[]:Array Value))).push (seqObj "tuple" its.toArray 0)).push (seqObj "list" #[] 0)).get? a=some (seqObj "list" #[] e1):=Zd _ (Zd _ ho1)
 rw[list_sort_plain]
 refine Zc (listItems_at ho rfl ?_)
 refine Zc (listUpdate_at ho rfl ?_ (by rw[Zg];exact h64) (Nat.zero_le _))
 refine Zc (seqEpoch_at ho1 rfl ?_)
 refine Zc (wpAny_newTuple ?_ (by show its.length≤_;exact h64))
 refine Zc (wpAny_newList ?_ (Nat.zero_le _))
 refine wpAny_holding ?_
 show wpAny (model prog w) A _ P E {s with heap:=((s.heap.update a (Obj.mapSeq fun _=>(#[]:Array Value))).push (seqObj "tuple" its.toArray 0)).push (seqObj "list" #[] 0)}
 generalize((s.heap.update a (Obj.mapSeq fun _=>(#[]:Array Value))).push (seqObj "tuple" its.toArray 0)).push (seqObj "list" #[] 0)=h1 at*
 have fin:∀(st':SortSt) (out:List Value),(arrOf st').map (·.2)=List.toArray out→failedOf st'=none→out.length=its.length→Outs its c out→
   wpAny (model prog w) A (do
    let touched:=(←seqEpoch a) !=e1
    Builtin.List.listUpdate (.ref a) fun _=>(arrOf st').map (·.2)
    if let some e:=failedOf st' then rule "list.sort.comparison-raised";throw e
    if touched then rule "list.sort.modified";raiseError "ValueError" "list modified during sort"
    ret .none) P E {s with heap:=h1}:=by
  intro st' out hout hf hlen hO
  have s2:=Heap.SameBut.update h1 a (Obj.mapSeq fun _=>List.toArray out)
  obtain⟨c2,hc2⟩:∃c2,(h1.update a (Obj.mapSeq fun _=>List.toArray out)).get? a=some (seqObj "list" (List.toArray out) c2):=⟨_,get?_update_seq ho2 fun _=>List.toArray out⟩
  rw[hout]
  refine Zc (seqEpoch_at ho2 rfl ?_)
  refine Zc (listUpdate_at ho2 rfl ?_ (Nat.zero_le _) (by rw[Zg,hlen];exact Nat.le_succ_of_le h64))
  rw[hf]
  simp only[bne_self_eq_false,Zx,Z4]
  exact Zl (hP _ c2 out (fun b o hb e=>(s2.2 b hb).trans (keep b o hb e)) hc2 hO)
 by_cases h2:2≤its.length
 ·have hn2:¬its.toArray.size<2:=by rw[Zg];omega
  rw[if_neg hn2,if_neg hn2]
  obtain⟨κ,o,same,hk⟩:=hk h2
  obtain⟨k1,k2⟩:=hk h1 keep
  refine Zc (k1 _ ?_)
  have run:=run_any (E:=E) o same h2 k2 (Q:=fun st' s'=>s'={s with heap:=h1}∧failedOf st'=none∧∃out:List Value,(arrOf st').map (·.2)=List.toArray out∧out.length=its.length∧Outs its c out)
   (fun st' p hf hout hp hs=>⟨rfl,hf,_,hout,by rw[Zk,hp.length_eq,List.length_range],p,rfl,hp,hs⟩)
  refine Zc (wpAny_mono run (fun r s' hr=>?_) fun _ _ e=>e)
  obtain⟨⟨⟩,st'⟩:=r
  obtain⟨rfl,hf,out,hout,hlen,hO⟩:=hr
  exact fin st' _ hout hf hlen hO
 ·have hn2:its.toArray.size<2:=by rw[Zg];omega
  rw[if_pos hn2,if_pos hn2]
  refine Zc (Zl ?_)
  show wpAny (model prog w) A (do
    let touched:=(←seqEpoch a) !=e1
    Builtin.List.listUpdate (.ref a) fun _=>(arrOf (SortSt.mk' general' (its.toArray.zip its.toArray) #[] 7 none)).map (·.2)
    if let some e:=failedOf (SortSt.mk' general' (its.toArray.zip its.toArray) #[] 7 none)then rule "list.sort.comparison-raised";throw e
    if touched then rule "list.sort.modified";raiseError "ValueError" "list modified during sort"
    ret .none) P E {s with heap:=h1}
  refine fin _ its ?_ rfl rfl ⟨List.range its.length,?_,.refl _,?_⟩
  ·show(its.toArray.zip its.toArray).map (·.2)=its.toArray
   apply Array.toList_inj.mp
   rw[Array.toList_map,Array.toList_zip]
   exact List.map_snd_zip (Zj _)
  ·refine List.ext_getElem (by simp) fun i h1 h2=>?_
   simp[h1]
  ·match its,h2 with
   | [],_=>simp
   | [_],_=>simp
   |_::_::_,h2=>simp at h2
end
end Py
end
section
namespace Py
open PySem PySem.W PySem.Spec PyProof.Rows L2
section
variable {prog:Program}{w:World}{A:Around}{E:Value→Shared→Prop}{s:Shared}
theorem a9J'{b:Bool}{l:Addr}{its:List Value}{c:Nat→Nat→Bool}{Q:Value→Shared→Prop}(hl:IsSq b s.heap l its.toArray)(h64:its.length≤sizeLine)
  (hk:2≤its.length→∃κ:SortKind,SOrd its.length c∧(∀i j,i<its.length→j<its.length→its.getD i Value.none=its.getD j Value.none→rankN its.length c i=rankN its.length c j)∧∀h':Heap,(∀b o,s.heap.get? b=some o→h'.get? b=some o)→
   (∀(E':Value→Shared→Prop) (Q':SortKind→Shared→Prop),Q' κ {s with heap:=h'}→wpAny (model prog w) A.in1.in1 (keyKind' its.toArray) Q' E' {s with heap:=h'})∧
   ∀i j C,i<its.length→j<its.length→C (c i j) {s with heap:=h'}→kas_ask prog w A.in1.in1 κ its i j C {s with heap:=h'})
  (hQ:∀(h1 h':Heap) c2 out,(∀b o,s.heap.get? b=some o→h1.get? b=some o)→(∀b o,h1.get? b=some o→h'.get? b=some o)→h'.get? h1.objs.size=some (seqObj "list" (List.toArray out) c2)→Outs its c out→Q (.ref h1.objs.size) {s with heap:=h'}):
  wpAny (model prog w) A (call (.builtin "sorted") [.ref l]) Q E s:=by
 refine Calls.call_function_entry kind_sorted plain_sorted entry_sorted (args_sorted1 _) ?_
 unfold Builtin.«sorted»
 refine Zc (m:=checkCount "sorted" 1 1 _) (Zl ?_)
 have hsz:its.toArray.size≤sizeLine:=by rw[Zg];exact h64
 have go:∀h1:Heap,(∀b o,s.heap.get? b=some o→h1.get? b=some o)→wpAny (model prog w) A.in1 (do
   let l ←newList its
   let _ ←holding [l] (call (.builtin "list.sort") [l])
   ret l) (fun fin s'=>∃v,fin=.done (.ret v)∧Q v s') E {s with heap:=h1}:=by
  intro h1 k1
  refine Zc (wpAny_newList ?_ h64)
  have hoL:(h1.push (seqObj "list" its.toArray 0)).get? h1.objs.size=some (seqObj "list" its.toArray 0):=Zt _ rfl
  refine Zc (wpAny_holding (wpAny_call_entry slot_list_sort ⟨_,hoL,rfl⟩ entry_list_sort ?body (args_list_sort _)))
  case body=>
   refine a8c' (c:=c) (s:={s with heap:=h1.push (seqObj "list" its.toArray 0)}) hoL h64 (fun h2=>?_) fun h' c2 out kp e O=>?_
   ·obtain⟨κ,o,same,hk⟩:=hk h2
    refine⟨κ,o,same,fun h' kp=>?_⟩
    obtain⟨q1,q2⟩:=hk h' fun b o e=>kp b o (ZQ (Zq (k1 b o e))) (Zd _ (k1 b o e))
    exact⟨q1 _,q2⟩
   ·exact⟨_,rfl,Zl ⟨_,rfl,hQ h1 h' c2 out k1 (fun b o e=>kp b o (ZQ (Zq e)) (Zd _ e)) e O⟩⟩
 cases b with
 |true=>
  obtain⟨o,ho,hc,n,hd⟩:=hl
  exact Zc (wpAny_collect_seq l (.inl rfl) ho hc hd (fun h1 k1=>by simpa using go h1 k1) hsz)
 |false=>
  obtain⟨o,ho,hc,n,hd⟩:=hl
  exact Zc (wpAny_collect_seq l (.inr rfl) ho hc hd (fun h1 k1=>by simpa using go h1 k1) hsz)
end
section
variable {X:Cx}{pins:List (Addr×Obj)}{σ:L2.St}{H:Hp}{s:Shared}{F μ:List Addr}{S:Store}
theorem cmpK(I:Inv X pins σ H s)(sk:SOk X.K ⟨X.mg,F⟩ μ S H){t:KTy}(hs:noStr t=true)(hd:depth t≤40){A:Around}(hu:A.units+40<cLine){d e:D}{v v':V}{u z:Value}(h1:hasTy t d=true)(h2:hasTy t e=true)
  (r1:Rep X.K ⟨X.mg,F⟩ μ H d v) (q1:RelV v u) (r2:Rep X.K ⟨X.mg,F⟩ μ H e v') (q2:RelV v' z):PySem.SeqAt.EqAt A s u z (eqK t d e)∧LtAt A s u z (ltK t d e):=by
 obtain⟨a1,a2⟩:=asK S t hs 40 hd d e h1 h2
 exact⟨(rcF I sk 40 A hu d e v v' u z _ r1 q1 r2 q2 a1).2.2,ltF_at I sk 40 A hu d e v v' u z _ r1 q1 r2 q2 a2⟩
theorem b1j'{prog:Program}{w:World}{A:Around}{Q:Bool→Shared→Prop}{t:KTy}{b:Bool}(hb:b=true→t=.int):∀(ds es:List D) (us zs:List Value) (i:Nat),(∀d∈ds,hasTy t d=true)→(∀e∈es,hasTy t e=true)→ds.length=us.length→es.length=zs.length→
  (∀(j:Nat) d e u z,ds[j]?=some d→es[j]?=some e→us[j]?=some u→zs[j]?=some z→PySem.SeqAt.EqAt A s u z (eqK t d e)∧LtAt A s u z (ltK t d e)∧(t=.int→∃a b ta tb,d=.int a∧e=.int b∧u=.int a ta∧z=.int b tb))→
  Q (lexB (ltK t) ds es) s→KatLex prog w A b (decide (us.length<zs.length)) Q (us.zip zs) i s
 | [],[],us,zs,i,_,_,l1,l2,_,q=>by
  have e1:us=[]:=ZH l1.symm
  have e2:zs=[]:=ZH l2.symm
  subst e1;subst e2;exact kat_nil q
 | [],e::es,us,zs,i,_,_,l1,l2,_,q=>by
  have e1:us=[]:=ZH l1.symm
  subst e1
  have:decide (([]:List Value).length<zs.length)=true:=by simp at l2⊢;omega
  rw[this,List.zip_nil_left];exact kat_nil q
 |d::ds,[],us,zs,i,_,_,l1,l2,_,q=>by
  have e1:zs=[]:=ZH l2.symm
  subst e1
  have:decide (us.length<([]:List Value).length)=false:=by simp
  rw[this,List.zip_nil_right];exact kat_nil q
 |d::ds,e::es,[],zs,i,_,_,l1,_,_,_=>by simp at l1
 |d::ds,e::es,_::_,[],i,_,_,_,l2,_,_=>by simp at l2
 |d::ds,e::es,u::us,z::zs,i,h1,h2,l1,l2,h,q=>by
  obtain⟨k1,k2,k3⟩:=h 0 d e u z rfl rfl rfl rfl
  have e0:decide ((u::us).length<(z::zs).length)=decide (us.length<zs.length):=by simp
  rw[e0,List.zip_cons_cons]
  refine kat_cons (k1 prog w _ _ ?_)
  rw[a2D']at q
  have no:∀{k:Bool},ltK t d e=k→eqK t d e=false→Q k s→KatGo prog w A b (decide (us.length<zs.length)) Q u z (us.zip zs) i false s:=fun{k} hk _ qk=>by
   clear q
   refine kat_no ?_
   cases hbi:(b&&i==0)with
   |false=>exact kat_one u z (k2 prog w _ _ (by rw[hk];exact qk))
   |true=>
    simp only[Zr]at hbi
    obtain⟨a,b',ta,tb,rfl,rfl,rfl,rfl⟩:=k3 (hb hbi.1)
    have ht:=hb hbi.1
    subst ht
    exact oneLt_int (by rw[show decide (a<b')=k from hk];exact qk)
  cases e1:ltK t d e with
  |true=>
   have ee:eqK t d e=false:=by simp[eqK,e1]
   rw[e1]at q
   rw[ee]
   exact no e1 ee (by simpa using q)
  |false=>
   cases e2:ltK t e d with
   |true=>
    have ee:eqK t d e=false:=by simp[eqK,e1,e2]
    rw[e1,e2]at q
    rw[ee]
    exact no e1 ee (by simpa using q)
   |false=>
    have ee:eqK t d e=true:=by simp[eqK,e1,e2]
    rw[e1,e2]at q
    rw[ee]
    refine kat_yes (b1j' hb ds es us zs (i+1) (fun x hx=>h1 x (Za _ hx)) (fun x hx=>h2 x (Za _ hx)) (by simpa using l1) (by simpa using l2) (fun j d' e' u' z' a1 a2 a3 a4=>h (j+1) d' e' u' z' a1 a2 a3 a4) (by simpa using q))
end
end Py
end
section
namespace Py
open PySem PySem.W PySem.Spec PyProof.Rows L2
section
variable {prog:Program}{w:World}{A:Around}{E:Value→Shared→Prop}{s:Shared}
theorem a8U'{α β:Type}{M:Model}{f:α→Sem β}{g:α→β}:∀(l:List α) {Q:List β→Shared→Prop},(∀v∈l,∀(Q':β→Shared→Prop),Q' (g v) s→wpAny M A (f v) Q' E s)→Q (l.map g) s→wpAny M A (l.mapM f) Q E s
 | [],_,_,h=>by rw[List.mapM_nil];exact Zl h
 |x::l,Q,hf,h=>by
  rw[List.mapM_cons]
  exact Zc (hf x (.head _) _ (Zc (a8U' l (Q:=fun bs s'=>wpAny M A (pure (g x::bs)) Q E s') (fun v hv=>hf v (.tail _ hv)) (Zl h))))
theorem one_tup{l b:Addr}{vs ws:List Value}{k:Bool}{Q:Bool→Shared→Prop}(hl:s.heap.IsTuple l vs.toArray)(hb:s.heap.IsTuple b ws.toArray)(hu:A.units<cLine)(hx:LexAt A.in1 s vs ws k)(h:Q k s):wpAny (model prog w) A (oneLt' true (.ref l) (.ref b)) Q E s:=by
 obtain⟨⟨cls,dd,data,sl⟩,ho,hc,n,hd⟩:=id hl
 obtain⟨⟨cls2,dd2,data2,sl2⟩,ho2,hc2,n2,hd2⟩:=id hb
 simp only at hc hd hc2 hd2
 subst hc hd hc2 hd2
 rw[oneLt'_eq]
 simp only[if_true]
 refine Zc (wpAny_cRoomFor hu ?_)
 refine Zc (wpAny_callSpecialIfBound?_slot ⟨_,ho,rfl⟩ PySem.F.slot_tuple_lt (call_meets PySem.F.slot_tuple_lt ⟨_,ho,rfl⟩ PySem.F.entry_tuple_lt (PySem.F.args_tuple_lt_2 _ _) (a6H' l b vs.toArray ws.toArray n n2 dd dd2 sl sl2 k) ⟨ho,ho2,by simpa using hx,?_⟩))
 exact Yd h
end
end Py
end
section
namespace Py
open PySem PySem.W PySem.Spec PyProof.Rows L2
section
variable {X:Cx}{pins:List (Addr×Obj)}{σ:L2.St}{H:Hp}{s:Shared}{F μ:List Addr}{S:Store}
def tyOf:KTy→String
 | .int=>"int"
 |_=>"tuple"
theorem looksK(I:Inv X pins σ H s){t:KTy}(hs:noStr t=true){d:D}{v:V}{u:Value}(h:hasTy t d=true)(r:Rep X.K ⟨X.mg,F⟩ μ H d v)(q:RelV v u):Looks (model X.prog X.w) s.heap (typeOf u) (.type (tyOf t)):=by
 have tup:∀xs,d=.tup xs→Looks (model X.prog X.w) s.heap (typeOf u) (.type "tuple"):=by
  rintro xs rfl
  obtain⟨a,vs,rfl,hq,_⟩:=a0F' r
  cases q
  obtain⟨its,_,p,_⟩:=I.tuple hq
  obtain⟨o,ho,hc,_⟩:=p
  have:=(show Looks (model X.prog X.w) s.heap (typeOf (.ref a)) o.cls from(Looks.ld ho).andThen .now)
  rwa [hc]at this
 cases t with
 |int=>
  obtain⟨i,rfl⟩:=a3b' h
  cases a0e' r
  obtain⟨tk,rfl⟩:=q
  exact(show Looks (model X.prog X.w) s.heap (typeOf (.int i tk)) (.type "int")from .now)
 |seq t=>obtain⟨xs,rfl,_⟩:=a2k' h;exact tup xs rfl
theorem a6V'(I:Inv X pins σ H s){t:KTy}(hs:noStr t=true):∀(ys:List D) (vs:List V) (its:List Value),(∀d∈ys,hasTy (.seq t) d=true∧d≠.tup [])→RepL X.K ⟨X.mg,F⟩ μ H ys vs→Vals vs its→
  ∃fs,KatTups s.heap its fs∧fs.length=its.length∧∀f∈fs,Looks (model X.prog X.w) s.heap (typeOf f) (.type (tyOf t))
 | [],vs,its,_,r,q=>by
  unfold RepL at r
  subst r
  cases q
  exact⟨[],KatTups.nil,rfl,fun _ h=>nomatch h⟩
 |d::ys,vs,its,h,r,q=>by
  obtain⟨v,ws,rfl,rd,rr⟩:=r.uncons
  cases q with
  |cons q1 q2=>
   rename_i u its'
   obtain⟨fs,k1,k2,k3⟩:=a6V' I hs ys ws its' (fun e he=>h e (Za _ he)) rr q2
   obtain⟨h1,h2⟩:=h d Zb
   obtain⟨xs,rfl,hx⟩:=a2k' h1
   cases xs with
   |nil=>exact absurd rfl h2
   |cons x xs=>
    obtain⟨a,as,rfl,hq,ra⟩:=a0F' rd
    cases q1
    obtain⟨us,ru,p,_⟩:=I.tuple hq
    obtain⟨w,ws',rfl,rx,_⟩:=ra.uncons
    cases ru with
    |cons p1 p2=>
     rename_i f us'
     obtain⟨o,ho,hc,n,hd⟩:=p
     refine⟨f::fs,KatTups.cons ho hc hd (by simp) k1,by simp[k2],fun g hg=>?_⟩
     rcases Zn.mp hg with rfl|hg
     ·exact looksK I hs (hx x Zb) rx p1
     ·exact k3 g hg
theorem askK(I:Inv X pins σ H s)(sk:SOk X.K ⟨X.mg,F⟩ μ S H){t:KTy}(hs:noStr t=true)(hd:depth t≤40){A:Around}(hu:A.units+42<cLine){d e:D}{v v':V}{u z:Value}(h1:hasTy (.seq t) d=true)(h2:hasTy (.seq t) e=true)
  (r1:Rep X.K ⟨X.mg,F⟩ μ H d v) (q1:RelV v u) (r2:Rep X.K ⟨X.mg,F⟩ μ H e v') (q2:RelV v' z) {C:Bool→Shared→Prop} {E:Value→Shared→Prop} (hC:C (ltK (.seq t) d e) s):wpAny (model X.prog X.w) A (keyLt' (tuples' (Value.type (tyOf t) !=Value.type "tuple")) u z) C E s:=by
 obtain⟨xs,rfl,hx⟩:=a2k' h1
 obtain⟨ys,rfl,hy⟩:=a2k' h2
 obtain⟨a,as,rfl,ha,ra⟩:=a0F' r1
 obtain⟨b,bs,rfl,hb,rb⟩:=a0F' r2
 cases q1
 cases q2
 obtain⟨us,ru,pa,_⟩:=I.tuple ha
 obtain⟨zs,rz,pb,_⟩:=I.tuple hb
 obtain⟨oa,ea,_,na,da⟩:=pa
 obtain⟨ob,eb,_,nb,db⟩:=pb
 refine kat_lt ea da eb db ?_
 have l1:xs.length=us.length:=by rw[ra.length,ru.length]
 have l2:ys.length=zs.length:=by rw[rb.length,rz.length]
 have:=b1j' (prog:=X.prog) (w:=X.w) (A:=A) (s:=s) (Q:=C) (t:=t) (b:=(Value.type (tyOf t) !=Value.type "tuple")) (fun hb=>?_) xs ys us zs 0 hx hy l1 l2 (fun j d e u z g1 g2 g3 g4=>?_) hC
 ·simpa using this
 ·cases t with
  |int=>rfl
  |seq t=>exact absurd hb (by show ¬((Value.type "tuple" !=Value.type "tuple")=true);decide)
 ·obtain⟨w1,e1,k1⟩:=ra.get g1
  obtain⟨w2,e2,k2⟩:=rb.get g2
  obtain⟨u',e3,k3⟩:=ru.get e1
  obtain⟨z',e4,k4⟩:=rz.get e2
  rw[g3]at e3;cases e3
  rw[g4]at e4;cases e4
  obtain⟨c1,c2⟩:=cmpK I sk hs hd (A:=A) (by omega) (hx d (ZD g1)) (hy e (ZD g2)) k1 k3 k2 k4
  refine⟨c1,c2,fun ht=>?_⟩
  subst ht
  obtain⟨i,rfl⟩:=a3b' (hx d (ZD g1))
  obtain⟨j,rfl⟩:=a3b' (hy e (ZD g2))
  cases a0e' k1
  cases a0e' k2
  obtain⟨ta,rfl⟩:=k3
  obtain⟨tb,rfl⟩:=k4
  exact⟨i,j,ta,tb,rfl,rfl,rfl,rfl⟩
end
section
variable {X:Cx}{pins:List (Addr×Obj)}{σ:L2.St}{H:Hp}{s:Shared}{F μ:List Addr}{S:Store}
theorem b3L'{A:Around}{t:KTy}(hs:noStr t=true):∀(ds es:List D) (us zs:List Value),(∀d∈ds,hasTy t d=true)→(∀e∈es,hasTy t e=true)→ds.length=us.length→es.length=zs.length→(∀(j:Nat) d e u z,ds[j]?=some d→es[j]?=some e→us[j]?=some u→zs[j]?=some z→PySem.SeqAt.EqAt A s u z (eqK t d e)∧LtAt A s u z (ltK t d e))→LexAt A s us zs (lexB (ltK t) ds es)
 | [],[],us,zs,_,_,l1,l2,_=>by
  cases ZH l1.symm
  cases ZH l2.symm
  exact .nn
 | [],e::es,us,zs,_,_,l1,l2,_=>by
  cases ZH l1.symm
  cases zs with
  |nil=>cases l2
  |cons z zs=>exact .nc
 |d::ds,[],us,zs,_,_,l1,l2,_=>by
  cases ZH l2.symm
  cases us with
  |nil=>cases l1
  |cons u us=>exact .cn
 |d::ds,e::es,us,zs,h1,h2,l1,l2,hc=>by
  cases us with
  |nil=>cases l1
  |cons u us=>
   cases zs with
   |nil=>cases l2
   |cons z zs=>
    have t1:=h1 d Zb
    have t2:=h2 e Zb
    obtain⟨c1,c2⟩:=hc 0 d e u z rfl rfl rfl rfl
    have lo:=lordK t hs
    cases ek:eqK t d e with
    |true=>
     rw[ek]at c1
     have hde:=b1i' hs t1 t2 ek
     subst hde
     rw[a2D',lo.irr d t1]
     exact .eq c1 (b3L' hs ds es us zs (fun x hx=>h1 x (Za _ hx)) (fun x hx=>h2 x (Za _ hx)) (Nat.succ.inj l1) (Nat.succ.inj l2) fun j d e u z g1 g2 g3 g4=>hc (j+1) d e u z g1 g2 g3 g4)
    |false=>
     rw[ek]at c1
     have:lexB (ltK t) (d::ds) (e::es)=ltK t d e:=by
      rw[a2D']
      cases l:ltK t d e with
      |true=>rfl
      |false=>
       cases l':ltK t e d with
       |true=>rfl
       |false=>unfold eqK at ek;rw[l,l']at ek;cases ek
     rw[this]
     exact .lt c1 c2
theorem askK0(I:Inv X pins σ H s)(sk:SOk X.K ⟨X.mg,F⟩ μ S H){t:KTy}(hs:noStr t=true)(hd:depth t≤40){A:Around}(hu:A.units+42<cLine){d e:D}{v v':V}{u z:Value}(h1:hasTy (.seq t) d=true)(h2:hasTy (.seq t) e=true)
  (r1:Rep X.K ⟨X.mg,F⟩ μ H d v) (q1:RelV v u) (r2:Rep X.K ⟨X.mg,F⟩ μ H e v') (q2:RelV v' z) {C:Bool→Shared→Prop} {E:Value→Shared→Prop} (hC:C (ltK (.seq t) d e) s):wpAny (model X.prog X.w) A (keyLt' oneType' u z) C E s:=by
 obtain⟨xs,rfl,hx⟩:=a2k' h1
 obtain⟨ys,rfl,hy⟩:=a2k' h2
 obtain⟨a,as,rfl,ha,ra⟩:=a0F' r1
 obtain⟨b,bs,rfl,hb,rb⟩:=a0F' r2
 cases q1
 cases q2
 obtain⟨us,ru,pa,_⟩:=I.tuple ha
 obtain⟨zs,rz,pb,_⟩:=I.tuple hb
 have l1:xs.length=us.length:=by rw[ra.length,ru.length]
 have l2:ys.length=zs.length:=by rw[rb.length,rz.length]
 rw[keyLt'_oneType]
 refine one_tup pa pb (by omega) (b3L' hs xs ys us zs hx hy l1 l2 fun j d e u z g1 g2 g3 g4=>?_) hC
 obtain⟨w1,e1,k1⟩:=ra.get g1
 obtain⟨w2,e2,k2⟩:=rb.get g2
 obtain⟨u',e3,k3⟩:=ru.get e1
 obtain⟨z',e4,k4⟩:=rz.get e2
 rw[g3]at e3;cases e3
 rw[g4]at e4;cases e4
 exact cmpK I sk hs hd (A:=A.in1) (by show A.units+1+40<cLine;omega) (hx d (ZD g1)) (hy e (ZD g2)) k1 k3 k2 k4
theorem kind0(I:Inv X pins σ H s){A:Around}{E:Value→Shared→Prop}{t:KTy}{ys:List D}{vs:List V}{its:List Value}(h2:2≤its.length)(hty:∀y∈ys,hasTy (.seq t) y=true)(h0:isNil (ys.headD .non)=true)(rr:RepL X.K ⟨X.mg,F⟩ μ H ys vs)(hv:Vals vs its){Q:SortKind→Shared→Prop}(q:Q oneType' s):wpAny (model X.prog X.w) A (keyKind' its.toArray) Q E s:=by
 have tups:∀(i:Nat) (u:Value),its[i]?=some u→∃a us,u=.ref a∧IsTup s.heap a (List.toArray us)∧(i=0→us=[]):=fun i u hi=>by
  have hi':i<its.length:=(Zh.mp hi).1
  have hiy:i<ys.length:=by rw[rr.length,hv.length];exact hi'
  have e1:ys[i]?=some ys[i]:=Ze hiy
  obtain⟨v,e2,k⟩:=rr.get e1
  obtain⟨u',e3,k2⟩:=hv.get e2
  rw[hi]at e3;cases e3
  obtain⟨xs,ex,_⟩:=a2k' (hty _ (Z3 hiy))
  rw[ex]at k
  obtain⟨a,as,rfl,ha,ra⟩:=a0F' k
  cases k2
  obtain⟨us,ru,pa,_⟩:=I.tuple ha
  refine⟨a,us,rfl,pa,fun z=>?_⟩
  subst z
  have:ys.headD .non=.tup xs:=by
   cases ys with
   |nil=>cases e1
   |cons y ys=>exact ex
  rw[this]at h0
  cases xs with
  |nil=>
   have:=ra.length
   rw[ru.length]at this
   exact ZH this.symm
  |cons _ _=>cases h0
 have look:∀u∈its,Looks (model X.prog X.w) s.heap (typeOf u) (.type "tuple"):=fun u hu=>by
  obtain⟨i,hi,rfl⟩:=ZV.mp hu
  obtain⟨a,us,e,p,_⟩:=tups i _ (Ze hi)
  rw[e]
  obtain⟨o,ho,hc,_⟩:=p
  have:=(show Looks (model X.prog X.w) s.heap (typeOf (.ref a)) o.cls from(Looks.ld ho).andThen .now)
  rwa [hc]at this
 cases its with
 |nil=>simp at h2
 |cons u0 its=>
 obtain⟨a0,us0,rfl,p0,z0⟩:=tups 0 u0 rfl
 cases z0 rfl
 have fo:∀u∈Value.ref a0::its,∃o,(∀(Q':Option Value→Shared→Prop),Q' o s→wpAny (model X.prog X.w) A (firstOfTuple' u) Q' E s)∧(u=.ref a0→o=none):=fun u hu=>by
  obtain⟨i,hi,rfl⟩:=ZV.mp hu
  obtain⟨a,us,e,p,_⟩:=tups i _ (Ze hi)
  have pp:=id p
  obtain⟨o,ho,hc,n,hd⟩:=p
  refine⟨us[0]?,fun Q' hq=>?_,fun z=>?_⟩
  ·rw[e,kas_first_eq]
   refine Zc (Looks.here (show Looks (model X.prog X.w) s.heap (typeOf (.ref a)) o.cls from(Looks.ld ho).andThen .now) ?_)
   rw[hc,if_neg (by first|decide|simp)]
   refine Zc (listItems_at ho hd (Zl ?_))
   simpa using hq
  ·rw[e]at z
   cases z
   obtain⟨o',ho',hc',n',hd'⟩:=p0
   rw[ho]at ho'
   cases ho'
   rw[hd]at hd'
   cases hd'
   rfl
 have fo':∀u∈Value.ref a0::its,∀(Q':Option Value→Shared→Prop),Q' (open Classical in if h:u∈Value.ref a0::its then(fo u h).choose else none) s→wpAny (model X.prog X.w) A (firstOfTuple' u) Q' E s:=fun u hu Q' hq=>by
  rw[dif_pos hu]at hq
  exact(fo u hu).choose_spec.1 Q' hq
 have g0:(open Classical in if h:Value.ref a0∈Value.ref a0::its then(fo _ h).choose else none)=none:=by
  rw[dif_pos Zb]
  exact(fo _ Zb).choose_spec.2 rfl
 rw[keyKind'_eq,List.mapM_toArray,map_eq_pure_bind]
 refine Zc (Zc (a8U' _ fo' (Zl ?_)))
 rw[ZA,g0,if_neg (by simp),if_neg (by simp),oneTypeOnly'_eq,List.mapM_toArray,map_eq_pure_bind]
 refine Zc (Zc (Zc (kas_mapM (r:=.type "tuple") _ (fun v hv Q' hq=>(look v hv).here hq) (Zl ?_))))
 have hall:((List.map (fun _=>Value.type "tuple") (Value.ref a0::its)).toArray.all fun x=>x==Value.type "tuple")=true:=by
  simp only[List.all_toArray,List.all_map,ZF]
  intro _ _
  exact beq_self_eq_true _
 have h0:(List.map (fun _=>Value.type "tuple") (Value.ref a0::its)).toArray[0]?=some (Value.type "tuple"):=by simp
 rw[h0]
 simp only[hall,if_true]
 exact Zl (Zl q)
end
section
variable {X:Cx}
theorem b5f'(hu:X.A.units+64<cLine)(box:Bool)(t:KTy)(hdt:depth t≤40):CallR X (.builtin "sorted") (rC X.K X.mg (a2Y' box t)):=by
 intro pins s σ H xs us Q I r h
 obtain⟨F,μ,S,ds,sk,rl,w⟩:=h
 unfold a2Y' at w
 split at w
 ·rename_i d
  obtain⟨v,rfl,rd⟩:=rl.one
  obtain⟨u,rfl,ru⟩:=vals1 r
  split at w
  ·rename_i ys e
   split at w
   ·rename_i hc
    obtain⟨hty,h64,hso⟩:=hc
    have hty':∀y∈ys,hasTy t y=true:=fun y hy=>ZF.mp hty y hy
    obtain⟨a,vs,rfl,hq,rr⟩:=a4c' sk rd e
    cases ru
    obtain⟨b,its,hl,hv⟩:∃b its,IsSq b s.heap a (List.toArray its)∧Vals vs its:=by
     rcases hq with hq|hq
     ·obtain⟨its,r',p,_⟩:=I.list hq;exact⟨true,its,p.isList,r'⟩
     ·obtain⟨its,r',p,_⟩:=I.tuple hq;exact⟨false,its,p,r'⟩
    have l1:ys.length=vs.length:=rr.length
    have l2:vs.length=its.length:=hv.length
    have hs:noStr t=true:=by
     cases t with
     |int=>rfl
     |seq t=>unfold a3H' at hso;simp only[Zr]at hso;exact hso.1
    have lo:=lordK t hs
    have at_:∀i,i<its.length→∃d v u,ys[i]?=some d∧vs[i]?=some v∧its[i]?=some u∧hasTy t d=true∧Rep X.K ⟨X.mg,F⟩ μ H d v∧RelV v u∧ys.getD i .non=d∧its.getD i Value.none=u:=fun i hi=>by
     have e1:ys[i]?=some ys[i]:=Ze (by omega)
     obtain⟨v,e2,k⟩:=rr.get e1
     obtain⟨u,e3,k2⟩:=hv.get e2
     exact⟨_,v,u,e1,e2,e3,hty' _ (Z3 _),k,k2,by simp[List.getD,e1],by simp[List.getD,e3]⟩
    have ord:SOrd its.length (fun i j=>ltK t (ys.getD i .non) (ys.getD j .non)):=by
     have ty:∀i,i<its.length→hasTy t (ys.getD i .non)=true:=fun i hi=>by
      obtain⟨d,v,u,e1,e2,e3,k1,k2,k3,k4,k5⟩:=at_ i hi
      rw[k4];exact k1
     exact⟨fun i hi=>lo.irr _ (ty i hi),fun i j hi hj=>lo.asym _ _ (ty i hi) (ty j hj),fun i j k hi hj hk=>lo.ntr _ _ _ (ty i hi) (ty j hj) (ty k hk)⟩
    have same:∀i j,i<its.length→j<its.length→its.getD i Value.none=its.getD j Value.none→rankN its.length (fun i j=>ltK t (ys.getD i .non) (ys.getD j .non)) i=rankN its.length (fun i j=>ltK t (ys.getD i .non) (ys.getD j .non)) j:=fun i j hi hj hij=>by
     obtain⟨d,v,u,e1,e2,e3,g1,g2,g3,g4,g5⟩:=at_ i hi
     obtain⟨d',v',u',e1',e2',e3',g1',g2',g3',g4',g5'⟩:=at_ j hj
     rw[g5,g5']at hij
     subst hij
     have ev:v=v':=g3.inj g3'
     subst ev
     have:=b3x' I sk 40 d d' v _ g2 g2' (asK S t hs 40 hdt d d' g1 g1').1
     have hde:=b1i' hs g1 g1' this
     subst hde
     unfold rankN
     simp only[g4,g4']
    refine a9J' (c:=fun i j=>ltK t (ys.getD i .non) (ys.getD j .non)) hl (by rw[sizeLine_eq];omega) (fun h2=>?_) fun h1 h' c2 out k1 k2 eo O=>?_
    ·have hu2:(X.A.in1.in1).units+42<cLine:=by
      show X.A.units+1+1+42<cLine
      omega
     cases t with
     |int=>
      refine⟨oneType',ord,same,fun h' kp=>⟨fun E' Q' q=>?_,fun i j C hi hj hC=>?_⟩⟩
      ·have I':Inv X pins σ H {s with heap:=h'}:=I.kept (t':=s.toks) kp
       refine kas_kind (T:=.type "int") h2 (fun u hu=>?_) (by decide) (by decide) q
       obtain⟨i,hi,rfl⟩:=ZV.mp hu
       obtain⟨d,v,u,e1,e2,e3,g1,g2,g3,g4,g5⟩:=at_ i hi
       rw[Ze hi]at e3
       cases e3
       exact looksK (t:=.int) I' rfl g1 g2 g3
      ·obtain⟨d,v,u,e1,e2,e3,g1,g2,g3,g4,g5⟩:=at_ i hi
       obtain⟨d',v',u',e1',e2',e3',g1',g2',g3',g4',g5'⟩:=at_ j hj
       unfold kas_ask
       rw[g5,g5']
       rw[g4,g4']at hC
       obtain⟨x,rfl⟩:=a3b' g1
       obtain⟨y,rfl⟩:=a3b' g1'
       cases a0e' g2
       cases a0e' g2'
       obtain⟨ta,rfl⟩:=g3
       obtain⟨tb,rfl⟩:=g3'
       exact kat_lt_int hC
     |seq t=>
      unfold a3H' at hso
      have hso2:=(Bool.and_eq_true_iff.mp hso).2
      rcases Bool.or_eq_true_iff.mp hso2 with hso3|hso3
      rotate_left
      ·refine⟨oneType',ord,same,fun h' kp=>⟨fun E' Q' q=>?_,fun i j C hi hj hC=>?_⟩⟩
       ·have I':Inv X pins σ H {s with heap:=h'}:=I.kept (t':=s.toks) kp
        exact kind0 I' h2 hty' hso3 rr hv q
       ·have I':Inv X pins σ H {s with heap:=h'}:=I.kept (t':=s.toks) kp
        obtain⟨d,v,u,e1,e2,e3,g1,g2,g3,g4,g5⟩:=at_ i hi
        obtain⟨d',v',u',e1',e2',e3',g1',g2',g3',g4',g5'⟩:=at_ j hj
        unfold kas_ask
        rw[g5,g5']
        rw[g4,g4']at hC
        exact askK0 (t:=t) I' sk hs (by simp[depth]at hdt;omega) hu2 g1 g1' g2 g3 g2' g3' hC
      have hne:∀y∈ys,hasTy (.seq t) y=true∧y≠.tup []:=fun y hy=>⟨hty' y hy,fun z=>by
       have:=ZF.mp hso3 y hy
       rw[z]at this
       cases this⟩
      refine⟨tuples' (Value.type (tyOf t) !=Value.type "tuple"),ord,same,fun h' kp=>⟨fun E' Q' q=>?_,fun i j C hi hj hC=>?_⟩⟩
      ·have I':Inv X pins σ H {s with heap:=h'}:=I.kept (t':=s.toks) kp
       obtain⟨fs,f1,f2,f3⟩:=a6V' (t:=t) I' hs ys vs its hne rr hv
       exact kat_kind (T:=.type (tyOf t)) f1 (by omega) f3 (by simp) q
      ·have I':Inv X pins σ H {s with heap:=h'}:=I.kept (t':=s.toks) kp
       obtain⟨d,v,u,e1,e2,e3,g1,g2,g3,g4,g5⟩:=at_ i hi
       obtain⟨d',v',u',e1',e2',e3',g1',g2',g3',g4',g5'⟩:=at_ j hj
       unfold kas_ask
       rw[g5,g5']
       rw[g4,g4']at hC
       exact askK (t:=t) I' sk hs (by simp[depth]at hdt;omega) hu2 g1 g1' g2 g3 g2' g3' hC
    ·obtain⟨p,rfl,pp,pw⟩:=O
     have hp:∀i∈p,i<its.length:=fun i hi=>by simpa using pp.mem_iff.mp hi
     have hlen:p.length=its.length:=by rw[pp.length_eq];simp
     have fin:RepL X.K ⟨X.mg,F⟩ μ H (p.map fun i=>ys.getD i .non) (p.map fun i=>vs.getD i .non):=RepL.of (by simp) fun j d v h1 h2=>by
      rw[ZN]at h1 h2
      cases ej:p[j]? with
      |none=>rw[ej]at h1;cases h1
      |some i=>
       rw[ej]at h1 h2
       obtain⟨d',v',u',e1',e2',e3',g1',g2',g3',g4',g5'⟩:=at_ i (hp i (ZD ej))
       cases h1
       cases h2
       show Rep X.K ⟨X.mg,F⟩ μ H (ys.getD i .non) (vs.getD i .non)
       rw[g4']
       have:vs.getD i .non=v':=by simp[List.getD,e2']
       rw[this];exact g2'
     have fin2:Vals (p.map fun i=>vs.getD i .non) (p.map fun i=>its.getD i Value.none):=by
      have:∀(l:List Nat),(∀i∈l,i<its.length)→Vals (l.map fun i=>vs.getD i .non) (l.map fun i=>its.getD i Value.none):=by
       intro l
       induction l with
       |nil=>exact fun _=>.nil
       |cons i l ih=>
        intro h
        obtain⟨d',v',u',e1',e2',e3',g1',g2',g3',g4',g5'⟩:=at_ i (h i Zb)
        refine .cons ?_ (ih fun j hj=>h j (Za _ hj))
        have:vs.getD i .non=v':=by simp[List.getD,e2']
        show RelV (vs.getD i .non) (its.getD i Value.none)
        rw[this,g5'];exact g3'
      exact this p hp
     have srt:(p.map fun i=>ys.getD i .non)=a2Z' (ltK t) ys:=by
      refine a4E' hs hty' ?_ ?_
      ·have:=pp.map fun i=>ys.getD i .non
       refine this.trans (.of_eq ?_)
       refine List.ext_getElem (by simp;omega) fun i h1 h2=>?_
       simp[h2]
      ·rw[List.pairwise_map]
       exact pw
     rw[←srt]at w
     have I1:Inv X pins σ H {s with heap:=h1}:=I.kept (t':=s.toks) k1
     have I2:Inv X pins σ (upd H h1.objs.size (.lst (p.map fun i=>vs.getD i .non))) {s with heap:=h'}:=I1.laid (t':=s.toks) k2 (Zj _) ⟨by rw[Zk,hlen,sizeLine_eq];omega,_,c2,fin2,eo⟩
     have hfr:H h1.objs.size=none:=I1.hok.fresh (Zj _)
     refine⟨.ref h1.objs.size,_,I2,rfl,?_⟩
     cases box with
     |true=>exact Want.box w sk fin _ hfr
     |false=>exact Want.lst w sk fin _ hfr
   ·exact w.elim
  ·exact w.elim
 ·exact w.elim
end
end Py
end
section
namespace Py
open PySem PySem.Spec PyProof.Rows L2
section
variable {X:Cx}{E:XK}{CX:CXT}{Φ:FT}{Γ:Str→Option D}{N:List Str}{sc:Sc}{k:Nat}{cell:Str→Bool}
theorem blt_ok(O:XOk X cell N sc CX E Φ Γ k)(b:Blt)(hb:bltB b=true):CallR X (bltIs b) (rC X.K X.mg (bltD b)):=by
 cases b with
 |len=>exact len_D
 |tuple=>exact tuple_D
 |list box=>exact list_D box
 |int=>exact int_D
 |min=>exact b4D' O.calm rfl
 |max=>exact max_any O.calm
 |isinst=>exact b4z'
 |all=>exact all_D O.calm
 |any=>cases hb
 |sum=>exact sum_D O.calm
 |repr=>cases hb
 |abs=>cases hb
 |sorted box t=>exact b5f' O.room.units box t (by unfold bltB at hb;simpa using hb)
theorem a3K':∀{l:List Str},a9B' l=true→l.Nodup
 | [],_=>List.nodup_nil
 |x::r,h=>by
  unfold a9B' at h
  simp only[Zr,Bool.not_eq_true',List.contains_eq_mem,decide_eq_false_iff_not]at h
  exact ZJ.mpr ⟨h.1,a3K' h.2⟩
theorem b1k'(O:XOk X cell N sc CX E Φ Γ k){scope:Scope}(h:scB scope sc=true):CScope X scope:=by
 unfold scB at h
 simp only[Zr,Yb]at h
 obtain⟨h1,h2⟩:=h
 have key:∀y∈scope.names,((y.2 !=NameKind.cell||scope.names.lookup y.1==some .cell)&&(y.2 !=.local||scope.names.lookup y.1==some .local)&&(y.2 !=.free||(sc.lookup y.1==some .cell||sc.lookup y.1==some .free)))=true:=fun y hy=>ZF.mp h2 y hy
 refine⟨h1,fun y hy z=>?_,fun y hy z=>?_,fun y hy z=>?_⟩
 ·have:=key y hy
  rw[z]at this
  simp at this
  exact this
 ·have:=key y hy
  rw[z]at this
  simp at this
  exact this
 ·have:=key y hy
  rw[z]at this
  simp at this
  show X.env.scope.names.lookup y.1=_∨X.env.scope.names.lookup y.1=_
  rw[O.sc]
  exact this
theorem b1l'(O:XOk X cell N sc CX E Φ Γ k){scope:Scope}{N':List Str}{fr:List (Option Nat)}(h:frB scope.names N' N fr=true):CsOk X scope N' (csOf fr):=by
 unfold frB at h
 simp only[Zr,Yb]at h
 obtain⟨h1,h2⟩:=h
 intro σ hl
 refine⟨by simp[csOf,h1],fun i v x hx hv=>?_⟩
 have hi:i<N'.length:=(Zh.mp hx).1
 have:=ZF.mp h2 i (Ya.mpr hi)
 unfold csOf at hv
 rw[ZN]at hv
 cases e:fr[i]? with
 |none=>rw[e]at hv;cases hv
 |some o=>
  rw[e]at hv
  cases o with
  |none=>cases hv
  |some j=>
   rw[e]at this
   simp only[hx,Zr,Yb]at this
   have hv':(σ[j]?).join=some v:=Z2 hv
   refine⟨this.1,j,by rw[O.n];exact this.2,?_⟩
   cases e2:σ[j]? with
   |none=>rw[e2]at hv';cases hv'
   |some o=>rw[e2]at hv';have e3:o=some v:=hv';rw[e3]
theorem relB_eq(O:XOk X cell N sc CX E Φ Γ k){scope:Scope}:(relabel scope X.env).names=relB scope.names sc:=by
 unfold relabel relB
 show scope.names.map _=scope.names.map _
 congr 1
 funext p
 obtain⟨n,kd⟩:=p
 have e1:X.env.kindOf n=sc.lookup n:=by show X.env.scope.names.lookup n=_;rw[O.sc]
 simp only[e1,O.kd,beq_self_eq_true,Bool.and_true]
theorem b1m'(O:XOk X cell N sc CX E Φ Γ k){scope:Scope}{N':List Str}(hs:scope.kind=.function)(hn:a9B' N'=true)(C:Addr)(s0:Shared)(H0:Hp)(fp:List Addr):XOk (cxC X scope N' C s0 H0 fp) (ownB scope.names) N' (relB scope.names sc) CX E0 Φ Γ k where
 n:=rfl
 nd:=a3K' hn
 sc:=relB_eq O
 kd:=hs
 calm:=O.calm
 room:=O.room
 fn:=fun x z=>z
 mod:=O.mod
 pass:=fun _ _ _ _ _ _ _ z=>O.cx0 _ _ _ _ _ z
 cx0:=O.cx0
theorem a2E'{i:Expr}{env:Env}(h:b2A' i=true):∀x,foldedSetIterable i env x=pure x:=by
 intro x
 cases i<;>first|rfl|cases h
theorem t_val{e:Expr}{c:CE}(ha:PE X e (tE X.K X.mg E Φ Γ c))(he:∀whole,isTrue e X.env whole=(do let v ←whole;standAt e.pos;holding [v] (truthy v))){σ:L2.St}:
  PT X e (fun σ H Q=>∃F μ ρ S,SOk X.K ⟨X.mg,F⟩ μ S H∧EnvR X.K ⟨X.mg,F⟩ μ H ρ σ∧WantG X.K ⟨X.mg,F⟩ E (fun _ _ a b=>a=b) μ H Q ((den Φ Γ c ρ S).bind fun d S1=>match truD S1 d with|some k=>.ok k S1|none=>.fail)):=
 weakT (b4n' ha he) fun σ H Q zz=>ex43 zz fun F μ ρ S sk en w=>⟨F,μ,ρ,S,sk,en,(WantG.bind w).mono fun v H1 zz=>ex34 zz fun μ1 S1 d x1 s1 r1 w1=>by
  obtain⟨k,e,w2⟩:=b0K' w1
  exact⟨k,tru_D s1 r1 e,w2 μ1 H1 k .refl s1 rfl⟩⟩
theorem b5g'(O:XOk X cell N sc CX E Φ Γ k){z:Expr}{a:CE}{p1 p2 p3 p4:Pos}(h1:gloB sc "len"=true)(h2:gloB sc "set"=true)(hn:a0Z' z=true)(ha:PE X z (tE X.K X.mg E Φ Γ a)):PE X (.Call (.Name "len" p1) [.Call (.Name "set" p2) [z] [] p3] [] p4) (tE X.K X.mg E Φ Γ (.lenset a)):=
 weakE (b2K' O.calm (O.gl (a1i' h1).1) (O.gl (a1i' h2).1) (O.mod.bl _ (by decide+kernel)) (O.mod.bl _ (by decide+kernel)) hn ha) fun σ H Q zz=>ex43 zz fun F μ ρ S sk en w=>
  ⟨F,μ,ρ,S,sk,en,(WantG.bind w).mono fun v H1 zz=>ex34 zz fun μ1 S1 d x1 s1 r1 w1=>b4Z' s1 r1 (a1w' w1)⟩
end
end Py
end
section
namespace Py
open PySem PySem.Spec PyProof.Rows L2
theorem tT_fail{X:Cx}{E:XK}{Φ:FT}{Γ:Str→Option D}{c:CE}{e:Expr}(h:∀ρ S,denT Φ Γ c ρ S=.fail):PW X e (tT X.K X.mg E Φ Γ c):=fun wh pins s σ H Q I zz=>ex43 zz fun F μ ρ S sk en w=>by rw[h]at w;exact w.elim
theorem b5h'{α:Type}{l:List α}{d:Nat}{x:α}{r:List α}(h:l.drop d=x::r):l[d]?=some x:=by
 have:=congrArg (fun l=>l[0]?) h
 simpa using this
theorem b2O'{α:Type}{l:List α}{d:Nat}(h:l.drop d=[]):l[d]?=none:=by
 have:=congrArg (fun l=>l[0]?) h
 simpa using this
theorem b2P'{α:Type}{l:List α}{d:Nat}{x:α}{r:List α}(h:l.drop d=x::r):l.drop (d+1)=r:=by
 have:(l.drop d).drop 1=r:=by rw[h];rfl
 rwa [List.drop_drop]at this
section
variable {X:Cx}{E:XK}{Φ:FT}{Γ:Str→Option D}{a b:CE}{l x y:Expr}{pos:Pos}{n:Bool}
theorem em_and(ha:PE X l (tE X.K X.mg E Φ Γ a))(h1:n=true→PE X x (tE X.K X.mg E Φ Γ b))(h2:n=false→∃r rest,y=.BoolOp .And (r::rest) pos∧PE X y (tE X.K X.mg E Φ Γ b)):PE X (.BoolOp .And (l::cond n [x] (vw y).es) pos) (tE X.K X.mg E Φ Γ (.band a b)):=by
 cases n with
 |true=>exact s_and ha (pe_one (h1 rfl))
 |false=>
  obtain⟨r,rest,rfl,q⟩:=h2 rfl
  exact s_and ha q
theorem em_or(ha:PE X l (tE X.K X.mg E Φ Γ a))(h1:n=true→PE X x (tE X.K X.mg E Φ Γ b))(h2:n=false→∃r rest,y=.BoolOp .Or (r::rest) pos∧PE X y (tE X.K X.mg E Φ Γ b)):PE X (.BoolOp .Or (l::cond n [x] (vw y).es) pos) (tE X.K X.mg E Φ Γ (.bor a b)):=by
 cases n with
 |true=>exact s_or ha (pe_one (h1 rfl))
 |false=>
  obtain⟨r,rest,rfl,q⟩:=h2 rfl
  exact s_or ha q
theorem b3M'(ha:PT X l (tT X.K X.mg E Φ Γ a))(h1:n=true→PT X x (tT X.K X.mg E Φ Γ b))(h2:n=false→∃r rest,y=.BoolOp .And (r::rest) pos∧PW X y (tT X.K X.mg E Φ Γ b)):PW X (.BoolOp .And (l::cond n [x] (vw y).es) pos) (tT X.K X.mg E Φ Γ (.band a b)):=by
 cases n with
 |true=>exact t_and ha (pw_and1 (h1 rfl))
 |false=>
  obtain⟨r,rest,rfl,q⟩:=h2 rfl
  exact t_and ha q
theorem em_orT(ha:PT X l (tT X.K X.mg E Φ Γ a))(h1:n=true→PT X x (tT X.K X.mg E Φ Γ b))(h2:n=false→∃r rest,y=.BoolOp .Or (r::rest) pos∧PW X y (tT X.K X.mg E Φ Γ b)):PW X (.BoolOp .Or (l::cond n [x] (vw y).es) pos) (tT X.K X.mg E Φ Γ (.bor a b)):=by
 cases n with
 |true=>exact t_or ha (pw_or1 (h1 rfl))
 |false=>
  obtain⟨r,rest,rfl,q⟩:=h2 rfl
  exact t_or ha q
theorem b1n'{N:List Str}{es:List Expr}(h:b4J' b=true):∃r rest,emE b N (.BoolOp .And es pos)=.BoolOp .And (r::rest) pos:=by
 cases b<;>first|exact⟨_,_,rfl⟩|cases h
theorem b5i'{N:List Str}{es:List Expr}(h:isBor b=true):∃r rest,emE b N (.BoolOp .Or es pos)=.BoolOp .Or (r::rest) pos:=by
 cases b<;>first|exact⟨_,_,rfl⟩|cases h
theorem a6W'{N:List Str}{tg:CT}{e:Expr}(h:b2B' tg=true):isTup (emT tg N e)=true:=by
 cases tg with
 |var i=>cases h
 |tup ts=>rfl
theorem cond1{a b:Bool}(h:cond n a b=true)(z:n=true):a=true:=by rw[z]at h;exact h
theorem cond2{a b:Bool}(h:cond n a b=true)(z:n=false):b=true:=by rw[z]at h;exact h
end
mutual
theorem a0w'(c:CE):∀{X:Cx} {cell:Str→Bool} {N:List Str} {sc:Sc} {CX:CXT} {E:XK} {Φ:FT} {Γ:Str→Option D} {k:Nat} {e:Expr},XOk X cell N sc CX E Φ Γ k→sdE c N sc e=true→PE X (emE c N e) (tE X.K X.mg E Φ Γ c):=by
 intro X cell N sc CX E Φ Γ k e O h
 cases c with
 |var i=>exact s_var O (andB h).1 (andB (andB h).2).1 (andB (andB h).2).2
 |dct=>exact s_dct
 |odd a b c=>exact s_odd (a0w' a O (andB h).1) (a0w' b O (andB (andB h).2).1) (a0w' c O (andB (andB h).2).2)
 |rev a b=>cases h
 |lit d=>exact s_lit h
 |glob y=>exact s_glob O h
 |ty n=>exact s_ty O (andB h).1 (andB h).2
 |bin op a b=>exact s_bin (a0w' a O (andB h).1) (a0w' b O (andB h).2)
 |binB a b=>cases h
 |neg a=>exact s_neg (a0w' a O h)
 |cmp op a b=>exact s_cmp O.room.units (a0w' a O (andB h).1) (a0w' b O (andB (andB h).2).1) (notB (andB (andB h).2).2)
 |chain op op' a b c=>exact s_chain O.room.units (a0w' a O (andB h).1) (a0w' b O (andB (andB h).2).1) (a0w' c O (andB (andB (andB h).2).2).1) (notB (andB (andB (andB h).2).2).2)
 |band a b=>
  exact em_and (a0w' a O (andB h).1) (fun z=>a0w' b O (cond1 (andB h).2 z)) fun z=>by
   obtain⟨r,rest,q⟩:=b1n' (pos:=(vw e).pos) (N:=N) (es:=(vw e).es.tail) (andB (cond2 (andB h).2 z)).1
   exact⟨r,rest,q,a0w' b O (andB (cond2 (andB h).2 z)).2⟩
 |bor a b=>
  exact em_or (a0w' a O (andB h).1) (fun z=>a0w' b O (cond1 (andB h).2 z)) fun z=>by
   obtain⟨r,rest,q⟩:=b5i' (pos:=(vw e).pos) (N:=N) (es:=(vw e).es.tail) (andB (cond2 (andB h).2 z)).1
   exact⟨r,rest,q,a0w' b O (andB (cond2 (andB h).2 z)).2⟩
 |bnot a=>exact s_not (a0w' a O h)
 |ite c a b=>exact s_ite (a3L' c O (andB h).1) (a0w' a O (andB (andB h).2).1) (a0w' b O (andB (andB h).2).2)
 |tup es=>exact s_tup (decB (andB h).2) (a5f' es O (andB h).1)
 |lst box es=>exact s_lst (decB (andB h).2) (a5f' es O (andB h).1)
 |idx a b=>exact s_idx (andB (andB h).2).2 (a0w' a O (andB h).1) (a0w' b O (andB (andB h).2).1)
 |sl a lo hi=>exact s_sl (a0w' a O (andB h).1) (soundP lo O (andB (andB h).2).1 (decB (andB (andB (andB (andB h).2).2).2).1)) (soundP hi O (andB (andB (andB h).2).2).1 (decB (andB (andB (andB (andB h).2).2).2).2))
 |call f es=>
  have hL:=a5f' es O (andB (andB h).2).1
  cases es with
  |nil=>cases(andB (andB h).2).2
  |cons c cs=>exact s_call O (andB h).1 (a2h' (cs:=c::cs) (andB (andB h).2).1) hL
 |blt b es=>
  have hL:=a5f' es O (andB (andB h).2).1
  cases es with
  |nil=>cases(andB (andB (andB h).2).2).1
  |cons c cs=>exact s_blt O (blt_ok O b (andB (andB (andB h).2).2).2) (andB h).1 (a2h' (cs:=c::cs) (andB (andB h).2).1) hL
 |tix o es=>cases h
 |meth m o es=>
  have h4:=(andB (andB (andB (andB h).2).2).2).1
  exact s_meth (andB h).1 (andB (andB h).2).1 (a2h' h4) (by rw[b0L'];exact decB (andB (andB (andB (andB h).2).2).2).2) b0L'.symm (a0w' o O (andB (andB (andB h).2).2).1) (a5f' es O h4)
 |lenset a=>exact b5g' O (andB h).1 (andB (andB h).2).1 (andB (andB (andB h).2).2).2 (a0w' a O (andB (andB (andB h).2).2).1)
 |rng=>cases h
 |comp box N' fr tg it ifs body=>
  obtain⟨h1,h⟩:=andB h
  obtain⟨h2,h⟩:=andB h
  obtain⟨h3,h⟩:=andB h
  obtain⟨h4,h⟩:=andB h
  obtain⟨h5,h⟩:=andB h
  obtain⟨h6,h⟩:=andB h
  obtain⟨h7,h8⟩:=andB h
  have sc1:=b1k' O h1
  refine weakE (pe_comp (N:=N') (g:=gCT X.K tg) (tb:=tC X.K X.mg Φ Γ ifs body) O.calm sc1 (b1l' O h2) (b2R' it O h5 a6W') (fun acc env=>a6P' _ env>>=fun ok=>if ok=true then cRest _ (_::_) _ _ 0 (.ref acc) env else pure ())
   (fun it acc env=>a3J' rfl) (fun C s0 H0 fp acc=>?_) (a2E' h6)) fun σ H Q q=>c_comp (tg0:=emT tg N' ((vw e).gs.headD dG).target) q
  have O':=b1m' O sc1.kind h3 C s0 H0 fp
  exact⟨g_pg O' h4,b4W' (a8V' ifs O' h7) (b5j' body O' rfl rfl h8)⟩
 |emit e=>cases h
 |inner a b c d=>cases h
 |seq a=>cases h
 |range a=>cases h
 |zip a=>cases h
 |enum a=>cases h
 |revl a=>cases h
 |down a=>cases h
theorem a3L'(c:CE):∀{X:Cx} {cell:Str→Bool} {N:List Str} {sc:Sc} {CX:CXT} {E:XK} {Φ:FT} {Γ:Str→Option D} {k:Nat} {e:Expr},XOk X cell N sc CX E Φ Γ k→sdE c N sc e=true→PT X (emE c N e) (tT X.K X.mg E Φ Γ c):=by
 intro X cell N sc CX E Φ Γ k e O h
 cases c with
 |var i=>
  refine weakT (t_val (σ:=[]) (s_var O (andB h).1 (andB (andB h).2).1 (andB (andB h).2).2) fun _=>rfl) fun σ H Q zz=>ex43 zz fun F μ ρ S sk en w=>⟨F,μ,ρ,S,sk,en,?_⟩
  cases e1:ρ[i]? with
  |none=>simp only[denT,e1]at w;exact w.elim
  |some o=>
   cases o with
   |none=>simp only[denT,e1]at w;exact w.elim
   |some d=>
    simp only[denT,e1]at w
    simp only[den,e1]
    exact w
 |lit d=>exact weakT (t_val (Φ:=Φ) (Γ:=Γ) (σ:=[]) (s_lit h) fun _=>rfl) fun σ H Q zz=>ex43 zz fun F μ ρ S sk en w=>⟨F,μ,ρ,S,sk,en,w⟩
 |call f es=>
  have hL:=a5f' es O (andB (andB h).2).1
  cases es with
  |nil=>cases(andB (andB h).2).2
  |cons c cs=>
   refine weakT (t_val (σ:=[]) (s_call O (andB h).1 (a2h' (cs:=c::cs) (andB (andB h).2).1) hL) fun _=>rfl) fun σ H Q zz=>ex43 zz fun F μ ρ S sk en w=>⟨F,μ,ρ,S,sk,en,?_⟩
   simp only[denT]at w
   simp only[den]
   cases e1:Φ f with
   |none=>rw[e1]at w;exact w
   |some φ=>
    rw[e1]at w
    show WantG _ _ _ _ _ _ _ (((denL Φ Γ (c::cs) ρ S).bind fun ds S1=>φ ds S1).bind _)
    cases e2:denL Φ Γ (c::cs) ρ S with
    |ok ds S1=>rw[e2]at w;exact w
    |err y S1=>rw[e2]at w;exact w
    |fail=>rw[e2]at w;exact w
 |blt b es=>
  have hL:=a5f' es O (andB (andB h).2).1
  cases es with
  |nil=>cases(andB (andB (andB h).2).2).1
  |cons c cs=>
   refine weakT (t_val (σ:=[]) (s_blt O (blt_ok O b (andB (andB (andB h).2).2).2) (andB h).1 (a2h' (cs:=c::cs) (andB (andB h).2).1) hL) fun _=>rfl) fun σ H Q zz=>ex43 zz fun F μ ρ S sk en w=>⟨F,μ,ρ,S,sk,en,?_⟩
   simp only[denT]at w
   simp only[den]
   cases e2:denL Φ Γ (c::cs) ρ S with
   |ok ds S1=>rw[e2]at w;exact w
   |err y S1=>rw[e2]at w;exact w
   |fail=>rw[e2]at w;exact w
 |cmp op a b=>exact t_cmp O.room.units (a0w' a O (andB h).1) (a0w' b O (andB (andB h).2).1) (notB (andB (andB h).2).2)
 |chain op op' a b c=>exact t_chain O.room.units (a0w' a O (andB h).1) (a0w' b O (andB (andB h).2).1) (a0w' c O (andB (andB (andB h).2).2).1) (notB (andB (andB (andB h).2).2).2)
 |band a b=>
  exact(b3M' (a3L' a O (andB h).1) (fun z=>a3L' b O (cond1 (andB h).2 z)) fun z=>by
   have g:=(andB (cond2 (andB h).2 z)).1
   obtain⟨r,rest,q⟩:=b1n' (pos:=(vw e).pos) (N:=N) (es:=(vw e).es.tail) g
   exact⟨r,rest,q,b2Q' b O (andB (cond2 (andB h).2 z)).2 (by rw[g];rfl)⟩).pt
 |bor a b=>
  exact(em_orT (a3L' a O (andB h).1) (fun z=>a3L' b O (cond1 (andB h).2 z)) fun z=>by
   have g:=(andB (cond2 (andB h).2 z)).1
   obtain⟨r,rest,q⟩:=b5i' (pos:=(vw e).pos) (N:=N) (es:=(vw e).es.tail) g
   exact⟨r,rest,q,b2Q' b O (andB (cond2 (andB h).2 z)).2 (by rw[g,Bool.or_true])⟩).pt
 |bnot a=>exact t_not (a3L' a O h)
 |_=>exact(tT_fail fun _ _=>by simp only[denT]).pt
theorem b2Q'(c:CE):∀{X:Cx} {cell:Str→Bool} {N:List Str} {sc:Sc} {CX:CXT} {E:XK} {Φ:FT} {Γ:Str→Option D} {k:Nat} {e:Expr},XOk X cell N sc CX E Φ Γ k→sdE c N sc e=true→(b4J' c||isBor c)=true→PW X (emE c N e) (tT X.K X.mg E Φ Γ c):=by
 intro X cell N sc CX E Φ Γ k e O h hb
 cases c with
 |band a b=>
  exact b3M' (a3L' a O (andB h).1) (fun z=>a3L' b O (cond1 (andB h).2 z)) fun z=>by
   have g:=(andB (cond2 (andB h).2 z)).1
   obtain⟨r,rest,q⟩:=b1n' (pos:=(vw e).pos) (N:=N) (es:=(vw e).es.tail) g
   exact⟨r,rest,q,b2Q' b O (andB (cond2 (andB h).2 z)).2 (by rw[g];rfl)⟩
 |bor a b=>
  exact em_orT (a3L' a O (andB h).1) (fun z=>a3L' b O (cond1 (andB h).2 z)) fun z=>by
   have g:=(andB (cond2 (andB h).2 z)).1
   obtain⟨r,rest,q⟩:=b5i' (pos:=(vw e).pos) (N:=N) (es:=(vw e).es.tail) g
   exact⟨r,rest,q,b2Q' b O (andB (cond2 (andB h).2 z)).2 (by rw[g,Bool.or_true])⟩
 |_=>cases hb
theorem a5f'(cs:List CE):∀{X:Cx} {cell:Str→Bool} {N:List Str} {sc:Sc} {CX:CXT} {E:XK} {Φ:FT} {Γ:Str→Option D} {k:Nat} {es:List Expr},XOk X cell N sc CX E Φ Γ k→sdL cs N sc es=true→PA X (emL cs N es) (tL X.K X.mg E Φ Γ cs):=by
 intro X cell N sc CX E Φ Γ k es O h
 cases cs with
 |nil=>exact s_nil
 |cons c cs=>exact s_cons (andB (andB h).2).1 (a0w' c O (andB h).1) (a5f' cs O (andB (andB h).2).2)
theorem soundP(cs:List CE):∀{X:Cx} {cell:Str→Bool} {N:List Str} {sc:Sc} {CX:CXT} {E:XK} {Φ:FT} {Γ:Str→Option D} {k:Nat} {es:List Expr},XOk X cell N sc CX E Φ Γ k→sdL cs N sc es=true→cs.length<2→PO X (emL cs N es).head? (tPt X.K X.mg E Φ Γ cs):=by
 intro X cell N sc CX E Φ Γ k es O h hl
 cases cs with
 |nil=>exact s_part0
 |cons c cs=>cases cs with
  |nil=>exact s_part1 (a0w' c O (andB h).1)
  |cons _ _=>exact absurd hl (by simp)
theorem a8V'(cs:List CE):∀{X:Cx} {cell:Str→Bool} {N:List Str} {sc:Sc} {CX:CXT} {E:XK} {Φ:FT} {Γ:Str→Option D} {k:Nat} {es:List Expr},XOk X cell N sc CX E Φ Γ k→sdL cs N sc es=true→PTs X (emL cs N es) (cs.map (tT X.K X.mg E Φ Γ)):=by
 intro X cell N sc CX E Φ Γ k es O h
 cases cs with
 |nil=>trivial
 |cons c cs=>exact⟨a3L' c O (andB h).1,a8V' cs O (andB (andB h).2).2⟩
theorem b2R'(c:CE):∀{X:Cx} {cell:Str→Bool} {N:List Str} {sc:Sc} {CX:CXT} {E:XK} {Φ:FT} {Γ:Str→Option D} {k:Nat} {tg:CT} {t e:Expr},XOk X cell N sc CX E Φ Γ k→sdI c N sc tg e=true→(b2B' tg=true→isTup t=true)→PI X t (emI c N e) (tI X.K X.mg E Φ Γ c):=by
 intro X cell N sc CX E Φ Γ k tg t e O h ht
 cases c with
 |seq a=>exact i_seq (a0w' a O h)
 |range es=>
  have h2:=(andB (andB h).2).1
  have h3:=(andB (andB h).2).2
  have hs:=a2h' h2
  have hL:=a5f' es O h2
  cases es with
  |nil=>cases h3
  |cons a es=>cases es with
   |nil=>exact b4Q' O (andB h).1 (hs _ Zb) rfl hL
   |cons b es=>cases es with
    |nil=>exact b4R' O (andB h).1 (hs _ Zb) (hs _ (Za _ Zb)) rfl hL
    |cons d es=>cases h3
 |down es=>cases h
 |revl es=>cases h
 |enum es=>cases h
 |zip es=>
  have h2:=(andB (andB h).2).1
  have h3:=(andB (andB h).2).2
  have hs:=a2h' h2
  have hL:=a5f' es O h2
  cases es with
  |nil=>cases(andB h3).1
  |cons a es=>cases es with
   |nil=>cases(andB h3).1
   |cons b es=>cases es with
    |nil=>
     exact i_zip O (andB h).1 (ht (andB h3).2) (hs _ Zb) (hs _ (Za _ Zb)) hL
    |cons d es=>cases(andB h3).1
 |_=>cases h
theorem b5j'(c:CE):∀{X:Cx} {cell:Str→Bool} {N:List Str} {sc:Sc} {CX:CXT} {E:XK} {Φ:FT} {Γ:Str→Option D} {k:Nat} {el:Expr} {gens gs:List Comprehension} {scope:Scope} {pos:Pos} {d:Nat} {acc:Addr},XOk X cell N sc CX E Φ Γ k→X.xe=(fun _ _=>False)→gens.drop (d+1)=emBg c N gs→sdB c cell N sc gs el=true→
  PB X (cRest (emBe c N el) gens scope pos d (.ref acc) X.env) (tB X.K X.mg Φ Γ c acc):=by
 intro X cell N sc CX E Φ Γ k el gens gs scope pos d acc O hx hd h
 cases c with
 |emit a=>exact c_emit (b2O' hd) (a0w' a O h)
 |inner tg it ifs body=>
  obtain⟨h4,h⟩:=andB h
  obtain⟨h5,h⟩:=andB h
  obtain⟨h6,h⟩:=andB h
  obtain⟨h7,h8⟩:=andB h
  exact c_inner hx O.calm (b5h' hd) (b2R' it O h5 a6W') (a2E' h6) (g_pg O h4) (b4W' (a8V' ifs O h7) (b5j' body O hx (b2P' hd) h8))
 |_=>cases h
end
end Py
end
section
namespace Py
open PySem PySem.Spec PyProof.Rows L2
def WantS(K:PySem.W.Frag)(mg:GS)(E:XK)(D:Ends)(μ:List Addr)(H:Hp):Res Fl→Prop
 | .ok (.next ρ') S'=>∀μ' H' σ',Ext μ H μ' H'→SOk K mg μ' S' H'→EnvR K mg μ' H' ρ' σ'→D.nx σ' H'
 | .ok (.ret d) S'=>∀μ' H' v,Ext μ H μ' H'→SOk K mg μ' S' H'→Rep K mg μ' H' d v→D.rt v H'
 | .ok (.brk ρ') S'=>∀μ' H' σ',Ext μ H μ' H'→SOk K mg μ' S' H'→EnvR K mg μ' H' ρ' σ'→D.bk σ' H'
 | .ok (.cont ρ') S'=>∀μ' H' σ',Ext μ H μ' H'→SOk K mg μ' S' H'→EnvR K mg μ' H' ρ' σ'→D.ct σ' H'
 | .err x S'=>∀μ' H',Ext μ H μ' H'→SOk K mg μ' S' H'→exOf mg.mg E x H'
 | .fail=>False
def tS(K:PySem.W.Frag)(mg:Str→Option Value)(E:XK)(Φ:FT)(Γ:Str→Option D)(c:CS):TS:=fun D σ H=>∃F μ ρ S,SOk K ⟨mg,F⟩ μ S H∧EnvR K ⟨mg,F⟩ μ H ρ σ∧WantS K ⟨mg,F⟩ E D μ H (denS Φ Γ c ρ S)
def tSs(K:PySem.W.Frag)(mg:Str→Option Value)(E:XK)(Φ:FT)(Γ:Str→Option D)(cs:List CS):TS:=fun D σ H=>∃F μ ρ S,SOk K ⟨mg,F⟩ μ S H∧EnvR K ⟨mg,F⟩ μ H ρ σ∧WantS K ⟨mg,F⟩ E D μ H (denSs Φ Γ cs ρ S)
section
variable {K:PySem.W.Frag}{mg:GS}{E:XK}{μ μ':List Addr}{H H':Hp}{D D':Ends}
theorem WantS.ext{r:Res Fl}(x:Ext μ H μ' H')(w:WantS K mg E D μ H r):WantS K mg E D μ' H' r:=by
 cases r with
 |ok f S=>
  cases f with
  |next ρ=>exact fun m h s y=>w m h s (x.trans y)
  |ret d=>exact fun m h s y=>w m h s (x.trans y)
  |brk ρ=>exact fun m h s y=>w m h s (x.trans y)
  |cont ρ=>exact fun m h s y=>w m h s (x.trans y)
 |err z S=>exact fun m h y=>w m h (x.trans y)
 |fail=>exact w
theorem WantS.bind{α β:Type}{Rel:List Addr→Hp→α→β→Prop}{r:Res α}{f:α→Store→Res Fl}(w:WantS K mg E D μ H (r.bind f)):
  WantG K mg E Rel μ H (fun b H'=>∃μ' S' a,Ext μ H μ' H'∧SOk K mg μ' S' H'∧Rel μ' H' a b∧WantS K mg E D μ' H' (f a S')) r:=by
 cases r with
 |ok a S'=>exact fun μ2 H2 b x s r=>⟨μ2,S',a,x,s,r,WantS.ext x (show WantS K mg E D μ H (f a S')from w)⟩
 |err y S'=>exact w
 |fail=>exact w
theorem WantS.seq{r:Res Fl}{f:Rho→Store→Res Fl}{N:L2.St→Hp→Prop}(w:WantS K mg E D μ H (r.bind fun fl S1=>match fl with
   | .next ρ'=>f ρ' S1
   |fl=>.ok fl S1)) (hN:∀μ' H' σ' ρ' S',Ext μ H μ' H'→SOk K mg μ' S' H'→EnvR K mg μ' H' ρ' σ'→WantS K mg E D μ' H' (f ρ' S')→N σ' H'):WantS K mg E {D with nx:=N} μ H r:=by
 cases r with
 |ok fl S=>
  cases fl with
  |next ρ=>exact fun m h s x k en=>hN m h s ρ S x k en (WantS.ext x (show WantS K mg E D μ H (f ρ S)from w))
  |ret d=>exact w
  |brk ρ=>exact w
  |cont ρ=>exact w
 |err z S=>exact w
 |fail=>exact w
end
theorem weakS{X:Cx}{st:Stmt}{t t':TS}(h:PS X st t)(w:∀D σ H,t' D σ H→t D σ H):PS X st t':=fun pins s σ H D I q=>h pins s σ H D I (w D σ H q)
theorem weakSs{X:Cx}{st:List Stmt}{t t':TS}(h:PSs X st t)(w:∀D σ H,t' D σ H→t D σ H):PSs X st t':=fun pins s σ H D I q=>h pins s σ H D I (w D σ H q)
def a4g':Expr→Bool
 | .ListComp .. =>false
 | .SetComp .. =>false
 | .DictComp .. =>false
 |_=>true
def isComp:Expr→Bool
 | .ListComp .. =>true
 |_=>false
def locB(sc:Sc)(x:Str):Bool:=sc.lookup x==some .local||sc.lookup x==some .cell
def swB(sc:Sc)(x:Str)(p:Pos)(v:Expr):Bool:=sc.lookup x==some .local&&(p.line==(vw v).pos.line&& !((vw v).sc.names.any fun(n,k)=>n==x&&(k== .local||k== .cell)))
def dS:Stmt:=.Pass ⟨0,0,0,0⟩
structure NdS where
 e0:Expr:=dE
 e1:Expr:=dE
 a:List Stmt:=[]
 b:List Stmt:=[]
 pos:Pos:=⟨0,0,0,0⟩
def vs:Stmt→NdS
 | .Assign ts v p=>{e0:=ts.headD dE,e1:=v,pos:=p}
 | .AugAssign t _ v p=>{e0:=t,e1:=v,pos:=p}
 | .Expr v p=>{e0:=v,pos:=p}
 | .Return v p=>{e0:=v.getD dE,pos:=p}
 | .Pass p=>{pos:=p}
 | .Break p=>{pos:=p}
 | .Continue p=>{pos:=p}
 | .If t x y p=>{e0:=t,a:=x,b:=y,pos:=p}
 | .For t i x _ p=>{e0:=t,e1:=i,a:=x,pos:=p}
 | .While t x _ p=>{e0:=t,a:=x,pos:=p}
 |_=>{}
def emSub(o i:CE)(N:List Str)(e:Expr):Expr:=.Subscript (emE o N (vw e).e0) (emE i N (vw e).e1) (vw e).pos
def sdSub(o i:CE)(N:List Str)(sc:Sc)(e:Expr):Bool:=a3I' (emE i N (vw e).e1)&&(sdE o N sc (vw e).e0&&sdE i N sc (vw e).e1)
mutual
def emS:CS→List Str→Stmt→Stmt
 | .asg i e,N,st=>.Assign [.Name (N.getD i "") (vw (vs st).e0).pos] (emE e N (vs st).e1) (vs st).pos
 | .asgT t e,N,st=>.Assign [emT t N (vs st).e0] (emE e N (vs st).e1) (vs st).pos
 | .par _ _,_,st=>st
 | .aug i e,N,st=>.AugAssign (.Name (N.getD i "") (vw (vs st).e0).pos) .Add (emE e N (vs st).e1) (vs st).pos
 | .set o i v,N,st=>.Assign [emSub o i N (vs st).e0] (emE v N (vs st).e1) (vs st).pos
 | .set2 _ _ _ _ _,_,st=>st
 | .expr e,N,st=>.Expr (emE e N (vs st).e0) (vs st).pos
 | .ret e,N,st=>.Return (some (emE e N (vs st).e0)) (vs st).pos
 | .retN,_,st=>.Return none (vs st).pos
 | .pass,_,st=>.Pass (vs st).pos
 | .brk,_,st=>.Break (vs st).pos
 | .cont,_,st=>.Continue (vs st).pos
 | .ite c a b,N,st=>.If (emE c N (vs st).e0) (emSs a N (vs st).a) (emSs b N (vs st).b) (vs st).pos
 | .for_ t it body,N,st=>.For (emT t N (vs st).e0) (emI it N (vs st).e1) (emSs body N (vs st).a) [] (vs st).pos
 | .while_ _ c body,N,st=>.While (emE c N (vs st).e0) (emSs body N (vs st).a) [] (vs st).pos
 | .never,_,st=>st
def emSs:List CS→List Str→List Stmt→List Stmt
 | [],_,_=>[]
 |c::cs,N,st=>emS c N (st.headD dS)::emSs cs N st.tail
end
def foldB:Expr→Bool
 | .Tuple xs _ _=>xs.all (foldedForSure 8)
 |_=>true
mutual
def sdS:CS→List Str→Sc→Stmt→Bool
 | .asg i e,N,sc,st=>N[i]?==some (N.getD i "")&&(locB sc (N.getD i "")&&(sdE e N sc (vs st).e1&&(a4g' (emE e N (vs st).e1)||(isCmp e&&(sc.lookup (N.getD i "")==some .cell||swB sc (N.getD i "") (vw (vs st).e0).pos (emE e N (vs st).e1))))))
 | .asgT t e,N,sc,st=>b2B' t&&(foldB (emE e N (vs st).e1)&&(a4g' (emE e N (vs st).e1)&&(sdT (fun _=>true) N sc t&&sdE e N sc (vs st).e1)))
 | .par _ _,_,_,_=>false
 | .aug i e,N,sc,st=>N[i]?==some (N.getD i "")&&(locB sc (N.getD i "")&&sdE e N sc (vs st).e1)
 | .set o i v,N,sc,st=>sdSub o i N sc (vs st).e0&&(a4g' (emE v N (vs st).e1)&&sdE v N sc (vs st).e1)
 | .set2 _ _ _ _ _,_,_,_=>false
 | .expr e,N,sc,st=>a4g' (emE e N (vs st).e0)&&sdE e N sc (vs st).e0
 | .ret e,N,sc,st=>sdE e N sc (vs st).e0
 | .retN,_,_,_=>true
 | .pass,_,_,_=>true
 | .brk,_,_,_=>true
 | .cont,_,_,_=>true
 | .ite c a b,N,sc,st=>sdE c N sc (vs st).e0&&(sdSs a N sc (vs st).a&&sdSs b N sc (vs st).b)
 | .for_ t it body,N,sc,st=>sdT (fun _=>true) N sc t&&(sdI it N sc t (vs st).e1&&(b2A' (emI it N (vs st).e1)&&sdSs body N sc (vs st).a))
 | .while_ _ c body,N,sc,st=>sdE c N sc (vs st).e0&&sdSs body N sc (vs st).a
 | .never,_,_,_=>true
def sdSs:List CS→List Str→Sc→List Stmt→Bool
 | [],_,_,_=>true
 |c::cs,N,sc,st=>sdS c N sc (st.headD dS)&&sdSs cs N sc st.tail
end
section
variable {X:Cx}{E:XK}{CX:CXT}{Φ:FT}{Γ:Str→Option D}{N:List Str}{sc:Sc}{k:Nat}{cell:Str→Bool}{pos:Pos}
theorem b2S'{v:Expr}{o:Option Expr}{line:Nat}{env:Env}(h:a4g' v=true):swapsWith v o line env=pure false:=by
 cases v<;>first|rfl|cases h
theorem bk_fn(O:XOk X cell N sc CX E Φ Γ k):X.env.blockKind=.function:=by
 unfold Env.blockKind
 rw[O.kd]
 rfl
theorem sw_cell(O:XOk X cell N sc CX E Φ Γ k){v:Expr}{x:Str}{p:Pos}{line:Nat}(h:isComp v=true)(hx:sc.lookup x=some .cell):swapsWith v (some (.Name x p)) line X.env=pure false:=by
 have e1:X.env.kindOf x=some .cell:=by show X.env.scope.names.lookup x=_;rw[O.sc];exact hx
 cases v<;>first| (cases h;done)|skip
 rename_i el gs scope vp
 unfold swapsWith
 show(pure (X.env.blockKind== .function&&X.env.kindOf x==some .local&&p.line==vp.line&& !_):Sem Bool)=pure false
 rw[e1]
 have e2:(some NameKind.cell==some NameKind.local)=false:=by decide
 rw[e2,Bool.and_false,Bool.false_and,Bool.false_and]
theorem sw_yes(O:XOk X cell N sc CX E Φ Γ k){el:Expr}{gs:List Comprehension}{scope:Scope}{vp p:Pos}{x:Str}{line:Nat}(h:swB sc x p (.ListComp el gs scope vp)=true):swapsWith (.ListComp el gs scope vp) (some (.Name x p)) line X.env=pure true:=by
 obtain⟨h1,h⟩:=andB h
 obtain⟨h2,h3⟩:=andB h
 have e1:X.env.kindOf x=some .local:=by show X.env.scope.names.lookup x=_;rw[O.sc];exact Yb.mp h1
 unfold swapsWith
 show(pure (X.env.blockKind== .function&&X.env.kindOf x==some .local&&p.line==vp.line&& !_):Sem Bool)=pure true
 rw[bk_fn O,e1,show(p.line==vp.line)=true from h2]
 have h3':(!(scope.names.any fun x_1=>match x_1 with| (n,k)=>n==x&&(k== .local||k== .cell)))=true:=h3
 first|rw[h3'];rfl|simp_all
theorem loc_ok(O:XOk X (fun _=>true) N sc CX E Φ Γ k){x:Str}(h:locB sc x=true):L2.Loc X.env.scope x:=by
 unfold L2.Loc
 rw[O.sc]
 unfold locB at h
 simpa using h
theorem b3N'{σ:L2.St}{H:Hp}{D:Ends}{i:Nat}{e:CE}(h:tS X.K X.mg E Φ Γ (.asg i e) D σ H):tE X.K X.mg E Φ Γ e σ H fun v H1=>D.nx (σ.set i (some v)) H1:=by
 obtain⟨F,μ,ρ,S,sk,en,w⟩:=h
 simp only[denS]at w
 exact⟨F,μ,ρ,S,sk,en,(WantS.bind w).mono fun v H1 zz=>ex34 zz fun μ1 S1 d x1 s1 r1 w1=>w1 μ1 H1 _ .refl s1 ((en.mono x1).set r1)⟩
theorem s_asg(O:XOk X (fun _=>true) N sc CX E Φ Γ k){i:Nat}{e:CE}{st:Stmt}(h:sdS (.asg i e) N sc st=true):PS X (emS (.asg i e) N st) (tS X.K X.mg E Φ Γ (.asg i e)):=by
 obtain⟨h1,h⟩:=andB h
 obtain⟨h2,h⟩:=andB h
 obtain⟨h3,h4⟩:=andB h
 have h1:=Yb.mp h1
 have plain:swapsWith (emE e N (vs st).e1) (some (.Name (N.getD i "") (vw (vs st).e0).pos)) (vs st).pos.line X.env=pure false→PS X (emS (.asg i e) N st) (tS X.K X.mg E Φ Γ (.asg i e)):=fun hs=>
  weakS (ps_set (i:=i) (by rw[O.n];exact O.nd) (by rw[O.n];exact h1) (loc_ok O h2) (a0w' e O h3) hs (.inl (O.fn _ rfl))) fun D σ H q=>b3N' q
 rcases Bool.or_eq_true_iff.mp h4 with h4|h4
 ·exact plain (b2S' h4)
 ·obtain⟨h4,h5⟩:=andB h4
  cases e with
  |comp box N' fr tg it ifs body=>
   rcases Bool.or_eq_true_iff.mp h5 with h5|h5
   ·exact plain (sw_cell O rfl (Yb.mp h5))
   ·have hsw:=sw_yes O (line:=(vs st).pos.line) h5
    have hx:X.env.scope.names.lookup (N.getD i "")=some .local:=by rw[O.sc];exact Yb.mp (andB h5).1
    obtain⟨k1,h⟩:=andB h3
    obtain⟨k2,h⟩:=andB h
    obtain⟨k3,h⟩:=andB h
    obtain⟨k4,h⟩:=andB h
    obtain⟨k5,h⟩:=andB h
    obtain⟨k6,h⟩:=andB h
    obtain⟨k7,k8⟩:=andB h
    have sc1:=b1k' O k1
    refine weakS (ps_comp (N:=N') (j:=i) (g:=gCT X.K tg) (tb:=tC X.K X.mg Φ Γ ifs body) O.calm (by rw[O.n];exact O.nd) (by rw[O.n];exact h1) hx hsw sc1 (b1l' O k2) (b2R' it O k5 a6W') (fun acc env=>a6P' _ env>>=fun ok=>if ok=true then cRest _ (_::_) _ _ 0 (.ref acc) env else pure ())
     (fun it acc env=>a3J' rfl) (fun C s0 H0 fp acc=>?_) (a2E' k6)) fun D σ H q=>c_comp (tg0:=.Name (N.getD i "") (vw (vs st).e0).pos) (b3N' q)
    have O':=b1m' O sc1.kind k3 C s0 H0 fp
    exact⟨g_pg O' k4,b4W' (a8V' ifs O' k7) (b5j' body O' rfl rfl k8)⟩
  |_=>cases h4
end
end Py
end
section
namespace Py
open PySem PySem.Spec PyProof.Rows L2
structure YOk (X:Cx)(N:List Str)(sc:Sc)(CX:CXT)(E:XK)(Φ:FT)(Γ:Str→Option D)(k:Nat):Prop where
 x:XOk X (fun _=>true) N sc CX E Φ Γ k
 own:PassesOwn (model X.prog X.w) X.A X.env X.xe
section
variable {X:Cx}{E:XK}{CX:CXT}{Φ:FT}{Γ:Str→Option D}{N:List Str}{sc:Sc}{k:Nat}{pos:Pos}
theorem sws_tup{tg v:Expr}{env:Env}(h1:isTup tg=true)(h2:foldB v=true):swappedStores [tg] v env=pure none:=by
 cases tg<;>first| (cases h1;done)|skip
 cases v<;>first|rfl|skip
 have h:(List.all _ (foldedForSure 8))=true:=h2
 unfold swappedStores
 simp only[]
 split
 ·rfl
 ·split
  ·rfl
  ·split
   ·rfl
   ·first|rfl|rw[if_pos h]
theorem b5k'{tg:Expr}{env:Env}(h1:isTup tg=true):(assignEach [tg] env).map (·.2)=[assign tg env]:=by
 cases tg<;>first|rfl|cases h1
theorem sole{t v:Expr}{line:Nat}{env:Env}(h:swapsWith v (some t) line env=pure false):swapsWithSole [t] v line env=pure false:=h
theorem asg_sub{o i:Expr}{p:Pos}{env:Env}(h:a3I' i=true):∀v,assign (.Subscript o i p) env v=(do
   let ov ←holding [v] (eval o env)
   let iv ←holding [v,ov] (eval i env)
   standAt p
   holding [v,ov,iv] (setItem ov iv v)
   release [v,ov,iv] []):=by
 intro v
 cases i<;>first|rfl|cases h
theorem s_asgT(O:XOk X (fun _=>true) N sc CX E Φ Γ k){t:CT}{e:CE}{tg v:Expr}(h1:isTup (emT t N tg)=true)(h2:foldB v=true)(h3:a4g' v=true)(h4:sdT (fun _=>true) N sc t=true)(h5:PE X v (tE X.K X.mg E Φ Γ e)):PS X (.Assign [emT t N tg] v pos) (tS X.K X.mg E Φ Γ (.asgT t e)):=
 weakS (ps_asg h5 (g_pg O h4) (b2S' h3) (sws_tup h1 h2) (b5k' h1)) fun D σ H zz=>ex43 zz fun F μ ρ S sk en w=>by
  simp only[denS]at w
  refine⟨F,μ,ρ,S,sk,en,(WantS.bind w).mono fun v H1 zz=>ex34 zz fun μ1 S1 d x1 s1 r1 w1=>?_⟩
  cases ea:asgCT t d ρ with
  |none=>rw[ea]at w1;exact w1.elim
  |some ρ'=>
   rw[ea]at w1
   exact g_do ea r1 (en.mono x1) fun σ' en'=>w1 μ1 H1 σ' .refl s1 en'
theorem s_aug(O:XOk X (fun _=>true) N sc CX E Φ Γ k){i:Nat}{e:CE}{v:Expr}{p:Pos}(h1:(N[i]?==some (N.getD i ""))=true)(h2:locB sc (N.getD i "")=true)(hv:PE X v (tE X.K X.mg E Φ Γ e)):PS X (.AugAssign (.Name (N.getD i "") p) .Add v pos) (tS X.K X.mg E Φ Γ (.aug i e)):=
 weakS (ps_aug (i:=i) (by rw[O.n];exact O.nd) (by rw[O.n];exact eq_of_beq h1) (loc_ok O h2) hv aug_D (.inl (O.fn _ rfl))) fun D σ H zz=>ex43 zz fun F μ ρ S sk en w=>by
  simp only[denS]at w
  cases ei:ρ[i]? with
  |none=>
   rw[ei]at w
   exact w.elim
  |some o=>
   cases o with
   |none=>
    rw[ei]at w
    exact w.elim
   |some d=>
    rw[ei]at w
    obtain⟨x,hx,rx⟩:=en.2 i d ei
    refine⟨x,hx,F,μ,ρ,S,sk,en,(WantS.bind w).mono fun vv H1 zz=>ex34 zz fun μ1 S1 f x1 s1 r1 w1=>?_⟩
    exact⟨F,μ1,S1,d,f,s1,Rep.mono x1 _ _ rx,r1,a1w' ((WantS.bind w1).mono fun z H2 zz=>ex34 zz fun μ2 S2 g x2 s2 r2 w2=>w2 μ2 H2 _ .refl s2 (((en.mono x1).mono x2).set r2))⟩
theorem s_set{o i v:CE}{eo ei ev:Expr}{p:Pos}(hn:a3I' ei=true)(h0:a4g' ev=true)(ho:PE X eo (tE X.K X.mg E Φ Γ o))(hi:PE X ei (tE X.K X.mg E Φ Γ i))(hv:PE X ev (tE X.K X.mg E Φ Γ v)):PS X (.Assign [.Subscript eo ei p] ev pos) (tS X.K X.mg E Φ Γ (.set o i v)):=
 weakS (ps_asg hv (pg_sub ho hi set_D (asg_sub hn)) (sole (b2S' h0)) (by cases ev<;>rfl)) fun D σ H zz=>ex43 zz fun F μ ρ S sk en w=>by
  simp only[denS]at w
  refine⟨F,μ,ρ,S,sk,en,(WantS.bind w).mono fun vv H1 zz=>ex34 zz fun μ1 S1 f x1 s1 r1 w1=>?_⟩
  refine⟨F,μ1,ρ,S1,s1,en.mono x1,(WantS.bind w1).mono fun vo H2 zz=>ex34 zz fun μ2 S2 d x2 s2 r2 w2=>?_⟩
  refine⟨F,μ2,ρ,S2,s2,(en.mono x1).mono x2,(WantS.bind w2).mono fun vi H3 zz=>ex34 zz fun μ3 S3 e x3 s3 r3 w3=>?_⟩
  cases es:setD d e f S3 with
  |none=>rw[es]at w3;exact w3.elim
  |some S4=>
   rw[es]at w3
   exact⟨F,μ3,S3,d,e,f,s3,Rep.mono x3 _ _ r2,r3,Rep.mono (x2.trans x3) _ _ r1,S4,es,fun μ4 H4 x4 s4=>w3 μ4 H4 σ x4 s4 ((((en.mono x1).mono x2).mono x3).mono x4)⟩
theorem s_expr{e:CE}{v:Expr}(h0:a4g' v=true)(he:PE X v (tE X.K X.mg E Φ Γ e)):PS X (.Expr v pos) (tS X.K X.mg E Φ Γ (.expr e)):=
 weakS (ps_expr he (b2S' h0)) fun D σ H zz=>ex43 zz fun F μ ρ S sk en w=>by
  simp only[denS]at w
  exact⟨F,μ,ρ,S,sk,en,(WantS.bind w).mono fun v H1 zz=>ex34 zz fun μ1 S1 d x1 s1 r1 w1=>w1 μ1 H1 σ .refl s1 (en.mono x1)⟩
theorem s_ret{e:CE}{v:Expr}(he:PE X v (tE X.K X.mg E Φ Γ e)):PS X (.Return (some v) pos) (tS X.K X.mg E Φ Γ (.ret e)):=
 weakS (ps_ret he) fun D σ H zz=>ex43 zz fun F μ ρ S sk en w=>by
  simp only[denS]at w
  exact⟨F,μ,ρ,S,sk,en,(WantS.bind w).mono fun v H1 zz=>ex34 zz fun μ1 S1 d x1 s1 r1 w1=>w1 μ1 H1 v .refl s1 r1⟩
theorem s_retN:PS X (.Return none pos) (tS X.K X.mg E Φ Γ .retN):=weakS ps_retN fun D σ H zz=>ex43 zz fun F μ ρ S sk en w=>w μ H .non .refl sk b0v'
theorem s_pass:PS X (.Pass pos) (tS X.K X.mg E Φ Γ .pass):=weakS ps_pass fun D σ H zz=>ex43 zz fun F μ ρ S sk en w=>w μ H σ .refl sk en
theorem s_brk:PS X (.Break pos) (tS X.K X.mg E Φ Γ .brk):=weakS b4i' fun D σ H zz=>ex43 zz fun F μ ρ S sk en w=>w μ H σ .refl sk en
theorem s_cont:PS X (.Continue pos) (tS X.K X.mg E Φ Γ .cont):=weakS a9x' fun D σ H zz=>ex43 zz fun F μ ρ S sk en w=>w μ H σ .refl sk en
theorem s_if{c:CE}{a b:List CS}{t:Expr}{x y:List Stmt}(hc:PT X t (tT X.K X.mg E Φ Γ c))(ha:PSs X x (tSs X.K X.mg E Φ Γ a))(hb:PSs X y (tSs X.K X.mg E Φ Γ b)):PS X (.If t x y pos) (tS X.K X.mg E Φ Γ (.ite c a b)):=
 weakS (ps_if hc ha hb) fun D σ H zz=>ex43 zz fun F μ ρ S sk en w=>by
  simp only[denS]at w
  refine⟨F,μ,ρ,S,sk,en,(WantS.bind w).mono fun k H1 zz=>ex34 zz fun μ1 S1 k' x1 s1 e1 w1=>?_⟩
  subst e1
  cases k' with
  |true=>rw[if_pos rfl]at w1⊢;exact⟨F,μ1,ρ,S1,s1,en.mono x1,w1⟩
  |false=>rw[if_neg (by decide)]at w1⊢;exact⟨F,μ1,ρ,S1,s1,en.mono x1,w1⟩
theorem s_nilS:PSs X [] (tSs X.K X.mg E Φ Γ []):=weakSs pss_nil fun D σ H zz=>ex43 zz fun F μ ρ S sk en w=>w μ H σ .refl sk en
theorem s_consS{c:CS}{cs:List CS}{s:Stmt}{st:List Stmt}(h1:PS X s (tS X.K X.mg E Φ Γ c))(h2:PSs X st (tSs X.K X.mg E Φ Γ cs)):PSs X (s::st) (tSs X.K X.mg E Φ Γ (c::cs)):=
 weakSs (b4h' h1 h2) fun D σ H zz=>ex43 zz fun F μ ρ S sk en w=>by
  simp only[denSs]at w
  exact⟨F,μ,ρ,S,sk,en,WantS.seq w fun μ' H' σ' ρ' S' x k en' w'=>⟨F,μ',ρ',S',k,en',w'⟩⟩
theorem a8W'{K:PySem.W.Frag}{mg:GS}{D:Ends}{μ:List Addr}{H:Hp}{r:Res Fl}{f:Rho→Store→Res Fl}{Nx:L2.St→Hp→Prop}(w:WantS K mg E D μ H (r.bind fun fl S'=>match fl with
   | .next ρ'=>f ρ' S'
   | .cont ρ'=>f ρ' S'
   | .brk ρ'=>.ok (.next ρ') S'
   | .ret d=>.ok (.ret d) S')) (hN:∀μ' H' σ' ρ' S',Ext μ H μ' H'→SOk K mg μ' S' H'→EnvR K mg μ' H' ρ' σ'→WantS K mg E D μ' H' (f ρ' S')→Nx σ' H'):WantS K mg E {D with nx:=Nx,ct:=Nx,bk:=D.nx} μ H r:=by
 cases r with
 |ok fl S=>
  cases fl with
  |next ρ=>exact fun m h s x k en=>hN m h s ρ S x k en (WantS.ext x (show WantS K mg E D μ H (f ρ S)from w))
  |ret d=>exact w
  |brk ρ=>exact w
  |cont ρ=>exact fun m h s x k en=>hN m h s ρ S x k en (WantS.ext x (show WantS K mg E D μ H (f ρ S)from w))
 |err z S=>exact w
 |fail=>exact w
theorem s_while{n:Nat}{c:CE}{body:List CS}{t:Expr}{x:List Stmt}(hp:PassesOwn (model X.prog X.w) X.A X.env X.xe)(hc:PT X t (tT X.K X.mg E Φ Γ c))(hb:PSs X x (tSs X.K X.mg E Φ Γ body)):PS X (.While t x [] pos) (tS X.K X.mg E Φ Γ (.while_ n c body)):=
 weakS (b4k' hp hc hb) fun D σ H zz=>ex43 zz fun F μ ρ S sk en w=>by
  simp only[denS]at w
  refine⟨fun m σ H=>∃μ ρ S,SOk X.K ⟨X.mg,F⟩ μ S H∧EnvR X.K ⟨X.mg,F⟩ μ H ρ σ∧WantS X.K ⟨X.mg,F⟩ E D μ H (a2f' (denT Φ Γ c) (denSs Φ Γ body) m ρ S),⟨n,μ,ρ,S,sk,en,w⟩,?_⟩
  rintro m σ H ⟨μ,ρ,S,sk,en,w⟩
  cases m with
  |zero=>exact w.elim
  |succ m=>
   unfold a2f' at w
   refine⟨F,μ,ρ,S,sk,en,(WantS.bind w).mono fun k H1 zz=>ex34 zz fun μ1 S1 k' x1 s1 e1 w1=>?_⟩
   subst e1
   cases k' with
   |true=>
    rw[if_pos rfl]at w1⊢
    refine⟨fun σ' H'=>∃μ ρ S,SOk X.K ⟨X.mg,F⟩ μ S H'∧EnvR X.K ⟨X.mg,F⟩ μ H' ρ σ'∧WantS X.K ⟨X.mg,F⟩ E D μ H' (a2f' (denT Φ Γ c) (denSs Φ Γ body) m ρ S),fun σ' H' q=>⟨m,Nat.lt_succ_self m,q⟩,F,μ1,ρ,S1,s1,en.mono x1,?_⟩
    exact a8W' w1 fun μ' H' σ' ρ' S' x k en' w'=>⟨μ',ρ',S',k,en',w'⟩
   |false=>
    rw[if_neg (by decide)]at w1⊢
    exact w1 μ1 H1 σ .refl s1 (en.mono x1)
end
theorem a4F'(step:D→Rho→Store→Res Fl)(xs:List D):∀(n i:Nat) (ρ:Rho) (S:Store),i+n=xs.length→forB step (fun _ i=>some xs[i]?) (n+1) i ρ S=forD step (xs.drop i) ρ S
 |0,i,ρ,S,h=>by
  rw[List.drop_eq_nil_of_le (by omega)]
  unfold forB
  have:xs[i]?=none:=List.getElem?_eq_none_iff.mpr (by omega)
  rw[this]
  rfl
 |n+1,i,ρ,S,h=>by
  have hi:i<xs.length:=by omega
  rw[ZZ hi]
  unfold forB
  rw[Ze hi]
  show(step xs[i] ρ S).bind _=(step xs[i] ρ S).bind _
  congr 1
  funext fl S'
  cases fl with
  |next ρ'=>exact a4F' step xs n (i+1) ρ' S' (by omega)
  |cont ρ'=>exact a4F' step xs n (i+1) ρ' S' (by omega)
  |brk ρ'=>rfl
  |ret d=>rfl
theorem forI_eq(step:D→Rho→Store→Res Fl)(its:Its)(ρ:Rho)(S:Store):forI step its ρ S=forB step (getOf its) (b0W' its) 0 ρ S:=by
 cases its with
 |items xs=>exact(a4F' step xs xs.length 0 ρ S (by omega)).symm
 |live f get=>rfl
def stepF(Φ:FT)(Γ:Str→Option D)(t:CT)(body:List CS):D→Rho→Store→Res Fl:=fun x ρ S=>match asgCT t x ρ with
 |some ρ'=>denSs Φ Γ body ρ' S
 |none=>.fail
section
variable {X:Cx}{E:XK}{CX:CXT}{Φ:FT}{Γ:Str→Option D}{N:List Str}{sc:Sc}{k:Nat}{pos:Pos}
theorem s_for{t:CT}{it:CE}{body:List CS}{tg i:Expr}{x:List Stmt}(hp:PassesOwn (model X.prog X.w) X.A X.env X.xe)(hc:X.calm=true)(hi:PI X tg i (tI X.K X.mg E Φ Γ it))(hg:PG X tg (gCT X.K t))(hs:∀x,foldedSetIterable i X.env x=pure x)(hb:PSs X x (tSs X.K X.mg E Φ Γ body)):
  PS X (.For tg i x [] pos) (tS X.K X.mg E Φ Γ (.for_ t it body)):=
 weakS (ps_for hp hc hi hg hb hs) fun D σ H zz=>ex43 zz fun F μ ρ S sk en w=>by
  simp only[denS]at w
  refine⟨F,μ,ρ,S,sk,en,WantG.mono (Rel:=fun μ' H' its J=>ItOk X.K ⟨X.mg,F⟩ J (getOf its) μ' H') (WantS.bind w) fun J H1 h=>?_⟩
  obtain⟨μ1,S1,its,x1,s1,ok,w1⟩:=h
  have w2:WantS X.K ⟨X.mg,F⟩ E D μ1 H1 (forI (stepF Φ Γ t body) its ρ S1):=w1
  rw[forI_eq]at w2
  refine⟨fun i m σ H=>∃μ ρ S,Chg X.K F μ1 H1 F μ H∧SOk X.K ⟨X.mg,F⟩ μ S H∧EnvR X.K ⟨X.mg,F⟩ μ H ρ σ∧WantS X.K ⟨X.mg,F⟩ E D μ H (forB (stepF Φ Γ t body) (getOf its) m i ρ S),⟨b0W' its,μ1,ρ,S1,.refl,s1,en.mono x1,w2⟩,?_⟩
  rintro i m σ H ⟨μ,ρ,S,ch,sk,en,w⟩
  cases m with
  |zero=>exact w.elim
  |succ m=>
   unfold forB at w
   obtain⟨k1,k2⟩:=ok i μ S H F ch sk
   cases e:getOf its S i with
   |none=>rw[e]at w;exact w.elim
   |some o=>
    cases o with
    |none=>rw[e]at w;exact .inl ⟨k2 e,w μ H σ .refl sk en⟩
    |some y=>
     rw[e]at w
     obtain⟨go,yld⟩:=k1 y e
     refine .inr ⟨go,fun σ' H'=>∃μ ρ S,Chg X.K F μ1 H1 F μ H'∧SOk X.K ⟨X.mg,F⟩ μ S H'∧EnvR X.K ⟨X.mg,F⟩ μ H' ρ σ'∧WantS X.K ⟨X.mg,F⟩ E D μ H' (forB (stepF Φ Γ t body) (getOf its) m (i+1) ρ S),fun σ' H' q=>⟨m,Nat.lt_succ_self m,q⟩,fun v H' hv=>?_⟩
     obtain⟨x2,s2,r2⟩:=yld v H' hv
     have ch2:Chg X.K F μ1 H1 F μ H':=ch.trans (.of_ext x2 fun _ z=>.inl z)
     have w':=WantS.ext x2 w
     have w3:WantS X.K ⟨X.mg,F⟩ E D μ H' ((stepF Φ Γ t body y ρ S).bind fun fl S'=>match fl with
      | .next ρ'=>forB (stepF Φ Γ t body) (getOf its) m (i+1) ρ' S'
      | .cont ρ'=>forB (stepF Φ Γ t body) (getOf its) m (i+1) ρ' S'
      | .brk ρ'=>.ok (.next ρ') S'
      | .ret d=>.ok (.ret d) S'):=w'
     have w4:=a8W' (f:=fun ρ' S'=>forB (stepF Φ Γ t body) (getOf its) m (i+1) ρ' S') (Nx:=fun σ' H'=>∃μ ρ S,Chg X.K F μ1 H1 F μ H'∧SOk X.K ⟨X.mg,F⟩ μ S H'∧EnvR X.K ⟨X.mg,F⟩ μ H' ρ σ'∧WantS X.K ⟨X.mg,F⟩ E D μ H' (forB (stepF Φ Γ t body) (getOf its) m (i+1) ρ S)) w3
      fun μ' H'' σ' ρ' S' x3 k en' w''=>⟨μ',ρ',S',ch2.trans (.of_ext x3 fun _ z=>.inl z),k,en',w''⟩
     unfold stepF at w4
     cases ea:asgCT t y ρ with
     |none=>simp only[ea]at w4;exact w4.elim
     |some ρ'=>
      simp only[ea]at w4
      exact g_do ea r2 (en.mono x2) fun σ2 en2=>⟨F,μ,ρ',S,s2,en2,w4⟩
end
mutual
theorem soundS(c:CS):∀{X:Cx} {N:List Str} {sc:Sc} {CX:CXT} {E:XK} {Φ:FT} {Γ:Str→Option D} {k:Nat} {st:Stmt},YOk X N sc CX E Φ Γ k→sdS c N sc st=true→PS X (emS c N st) (tS X.K X.mg E Φ Γ c):=by
 intro X N sc CX E Φ Γ k st O h
 cases c with
 |asg i e=>exact s_asg O.x h
 |asgT t e=>exact s_asgT O.x (a6W' (andB h).1) ((andB (andB h).2).1) (andB (andB (andB h).2).2).1 (andB (andB (andB (andB h).2).2).2).1 (a0w' e O.x (andB (andB (andB (andB h).2).2).2).2)
 |par=>cases h
 |aug i e=>exact s_aug O.x (andB h).1 (andB (andB h).2).1 (a0w' e O.x (andB (andB h).2).2)
 |set o i v=>exact s_set (andB (andB h).1).1 (andB (andB h).2).1 (a0w' o O.x (andB (andB (andB h).1).2).1) (a0w' i O.x (andB (andB (andB h).1).2).2) (a0w' v O.x (andB (andB h).2).2)
 |set2=>cases h
 |expr e=>exact s_expr (andB h).1 (a0w' e O.x (andB h).2)
 |ret e=>exact s_ret (a0w' e O.x h)
 |retN=>exact s_retN
 |pass=>exact s_pass
 |brk=>exact s_brk
 |cont=>exact s_cont
 |ite c a b=>exact s_if (a3L' c O.x (andB h).1) (a5w' a O (andB (andB h).2).1) (a5w' b O (andB (andB h).2).2)
 |for_ t it body=>exact s_for O.own O.x.calm (b2R' it O.x (andB (andB h).2).1 a6W') (g_pg O.x (andB h).1) (a2E' (andB (andB (andB h).2).2).1) (a5w' body O (andB (andB (andB h).2).2).2)
 |while_ n c body=>exact s_while O.own (a3L' c O.x (andB h).1) (a5w' body O (andB h).2)
 |never=>exact fun pins s σ H D I zz=>ex43 zz fun F μ ρ S sk en w=>w.elim
theorem a5w'(cs:List CS):∀{X:Cx} {N:List Str} {sc:Sc} {CX:CXT} {E:XK} {Φ:FT} {Γ:Str→Option D} {k:Nat} {st:List Stmt},YOk X N sc CX E Φ Γ k→sdSs cs N sc st=true→PSs X (emSs cs N st) (tSs X.K X.mg E Φ Γ cs):=by
 intro X N sc CX E Φ Γ k st O h
 cases cs with
 |nil=>exact s_nilS
 |cons c cs=>exact s_consS (soundS c O (andB h).1) (a5w' cs O (andB h).2)
end
end Py
end
section
namespace Py
open PySem PySem.Spec PyProof.Rows L2
mutual
def lowD(k:Nat):D→Bool
 | .tup xs=>lowL k xs
 | .lst xs=>lowL k xs
 | .scr xs=>lowL k xs
 | .ref n=>decide (n<k)
 |_=>true
def lowL(k:Nat):List D→Bool
 | []=>true
 |x::xs=>lowD k x&&lowL k xs
end
def trim(k:Nat)(d:D)(S':Store):Res D:=
 if(S'.take k).all (lowL k)=true then
  (if lowD k d=true then .ok d (S'.take k)else match d with
   | .ref n=>(match S'[n]? with
    |some xs=>if lowL k xs=true∧k≤n then .ok (.ref k) (S'.take k++[xs])else .fail
    |none=>.fail)
   |_=>.fail)
 else .fail
def runD(Φ:FT)(Γ:Str→Option D)(body:List CS)(n np:Nat)(ds:List D)(S:Store):Res D:=
 if ds.length=np then
  (match denSs Φ Γ body (ds.map some++List.replicate (n-np) none) S with
  | .ok (.ret d) S'=>trim S.length d S'
  | .ok (.next _) S'=>trim S.length .non S'
  | .err x S'=>if(S'.take S.length).all (lowL S.length)=true then .err x (S'.take S.length)else .fail
  |_=>.fail)
 else .fail
section
variable {K:PySem.W.Frag}{mg:GS}{μ μ' μ'':List Addr}{H H':Hp}{k:Nat}
mutual
theorem Rep.low(hk:∀n,n<k→μ''[n]?=μ'[n]?)(hs:∀a∈μ'',a∈μ'):∀(d:D) (v:V),lowD k d=true→Rep K mg μ' H d v→Rep K mg μ'' H d v
 | .non,_,_,h=>h
 | .bl _,_,_,h=>h
 | .int _,_,_,h=>h
 | .str _,_,_,h=>h
 | .tup ds,v,l,h=>by
  unfold Rep at h⊢
  unfold lowD at l
  obtain⟨a,vs,e,q,r⟩:=h
  exact⟨a,vs,e,q,RepL.low hk hs ds vs l r⟩
 | .lst ds,v,l,h=>by
  unfold Rep at h⊢
  unfold lowD at l
  obtain⟨a,vs,e,q,n,r⟩:=h
  exact⟨a,vs,e,q,⟨fun z=>n.1 (hs a z),n.2⟩,RepL.low hk hs ds vs l r⟩
 | .scr ds,v,l,h=>by
  unfold Rep at h⊢
  unfold lowD at l
  obtain⟨a,vs,e,q,r⟩:=h
  exact⟨a,vs,e,q,RepL.low hk hs ds vs l r⟩
 | .ref n,v,l,h=>by
  unfold Rep at h⊢
  unfold lowD at l
  obtain⟨a,e,q⟩:=h
  exact⟨a,e,by rw[hk n (by simpa using l)];exact q⟩
 | .fn y,v,_,h=>h
 | .ty y,v,_,h=>h
 | .dct,v,_,h=>h
theorem RepL.low(hk:∀n,n<k→μ''[n]?=μ'[n]?)(hs:∀a∈μ'',a∈μ'):∀(ds:List D) (vs:List V),lowL k ds=true→RepL K mg μ' H ds vs→RepL K mg μ'' H ds vs
 | [],vs,_,h=>h
 |d::ds,vs,l,h=>by
  unfold RepL at h⊢
  unfold lowL at l
  simp only[Zr]at l
  obtain⟨w,ws,e,r,q⟩:=h
  exact⟨w,ws,e,Rep.low hk hs d w l.1 r,RepL.low hk hs ds ws l.2 q⟩
end
theorem Ext.cut(x:Ext μ H μ' H'):Ext μ H μ H':=⟨⟨[],by simp⟩,x.keep,x.there,fun _ h=>.inl h⟩
theorem SOk.cut{S':Store}(x:Ext μ H μ' H')(hk:μ.length=k)(s:SOk K mg μ' S' H')(l:(S'.take k).all (lowL k)=true):SOk K mg μ (S'.take k) H':=by
 obtain⟨r,rfl⟩:=x.pre
 have hl:=s.len
 simp at hl
 refine⟨s.live,by rw[Z8];omega,(ZO.mp s.nd).1,fun n a ds h1 h2=>?_⟩
 have hn:n<k:=by rw[←hk];exact(Zh.mp h1).1
 have h2':=h2
 rw[List.getElem?_take_of_lt hn]at h2
 obtain⟨vs,q,rr⟩:=s.at_ n a ds (by rw[Zo (by omega)];exact h1) h2
 exact⟨vs,q,RepL.low (k:=k) (fun m hm=>by rw[Zo (by omega)]) (fun b hb=>Z0 _ hb) _ _ (ZF.mp l ds (ZD h2')) rr⟩
theorem b3O'{E:XK}{d:D}{v:V}{S':Store}{Q:VK}(x:Ext μ H μ' H')(hk:μ.length=k)(s:SOk K mg μ' S' H')(r:Rep K mg μ' H' d v)(w:WantG K mg E (Rep K mg) μ H Q (trim k d S')):Q v H':=by
 unfold trim at w
 split at w
 ·rename_i hl
  split at w
  ·rename_i hd
   refine w μ H' v x.cut (SOk.cut x hk s hl) ?_
   obtain⟨r',rfl⟩:=x.pre
   exact Rep.low (k:=k) (fun m hm=>by rw[Zo (by omega)]) (fun b hb=>Z0 _ hb) _ _ hd r
  ·split at w
   ·rename_i n hnl
    split at w
    ·rename_i xs hx
     split at w
     ·rename_i hxl
      unfold Rep at r
      obtain⟨a,rfl,ha⟩:=r
      obtain⟨vs,q,rr⟩:=s.at_ n a xs ha hx
      have s1:=SOk.cut x hk s hl
      obtain⟨r',rfl⟩:=x.pre
      have hnd:=ZO.mp s.nd
      have hn:μ.length≤n:=by omega
      have har:a∈r':=by
       rw[Zv hn]at ha
       exact ZD ha
      have hna:a∉μ:=fun z=>hnd.2.2 a z a har rfl
      have hfr:H a=none:=by
       rcases x.fresh a (ZE _ har)with z|z
       ·exact absurd z hna
       ·exact z
      have sub:∀b∈μ++[a],b∈μ++r':=fun b hb=>by
       rcases ZB.mp hb with z|z
       ·exact Z0 _ z
       ·have:b=a:=by simpa using z
        subst this;exact ZE _ har
      have same:∀m,m<k→(μ++[a])[m]?=(μ++r')[m]? :=fun m hm=>by rw[Zo (by omega),Zo (by omega)]
      have hl2:=s.len
      simp at hl2
      refine w (μ++[a]) H' (.ref a) ⟨⟨[a],rfl⟩,x.keep,x.there,fun b hb=>?_⟩ ⟨s.live,?_,?_,fun m b ds h1 h2=>?_⟩ ?_
      ·rcases ZB.mp hb with z|z
       ·exact .inl z
       ·have:b=a:=by simpa using z
        subst this;exact .inr hfr
      ·rw[Zm,Zm,Z8];simp;omega
      ·rw[ZO]
       exact⟨hnd.1,by simp,fun b hb c hc=>by
        have:c=a:=by simpa using hc
        subst this;intro z;subst z;exact hna hb⟩
      ·by_cases hm:m<μ.length
       ·rw[Zo hm]at h1
        rw[Zo (by rw[Z8];omega)]at h2
        have h2':=h2
        rw[List.getElem?_take_of_lt (by omega)]at h2
        obtain⟨ws,q',rr'⟩:=s.at_ m b ds (by rw[Zo hm];exact h1) h2
        exact⟨ws,q',RepL.low (k:=k) same sub _ _ (ZF.mp hl ds (ZD h2')) rr'⟩
       ·have e1:m=μ.length:=by
         have:=(Zh.mp h1).1
         simp at this;omega
        subst e1
        rw[Zv (Zj _)]at h1
        rw[Zv (by rw[Z8];omega)]at h2
        have e2:μ.length-(S'.take k).length=0:=by rw[Z8];omega
        rw[e2]at h2
        simp at h1 h2
        subst h1;subst h2
        exact⟨vs,q,RepL.low (k:=k) same sub _ _ hxl.1 rr⟩
      ·unfold Rep
       exact⟨a,rfl,by rw[←hk,Zv (Zj _)];simp⟩
     ·exact w.elim
    ·exact w.elim
   ·exact w.elim
 ·exact w.elim
end
theorem b2T'{K:PySem.W.Frag}{mg:GS}{μ:List Addr}{H:Hp}{N:List Str}{ds:List D}{vs:List V}(r:RepL K mg μ H ds vs):EnvR K mg μ H (ds.map some++List.replicate (N.length-ds.length) none) (L2.start N vs):=by
 unfold L2.start
 have hl:=r.length
 refine⟨by simp[hl],fun i d e=>?_⟩
 by_cases hi:i<ds.length
 ·rw[Zo (by simpa using hi),ZN]at e
  cases e1:ds[i]? with
  |none=>rw[e1]at e;cases e
  |some d'=>
   rw[e1]at e
   cases e
   obtain⟨v,h1,h2⟩:=r.get e1
   exact⟨v,by rw[Zo (by simp;omega),ZN,h1];rfl,h2⟩
 ·rw[Zv (by simpa using hi),List.getElem?_replicate]at e
  split at e<;>cases e
section
variable {P:Program}{w:World}{K:PySem.W.Frag}{mg:Str→Option Value}{base:Heap}{Φ:FT}{Γ:Str→Option D}{k:Nat}
theorem FOk.mono{CX:CXT}{j:Nat}{f:Str}{φ:List D→Store→Res D}(F:FOk P w K mg base CX j f φ)(h:j≤k):FOk P w K mg base CX k f φ:=by
 obtain⟨fa,fd,ps,m1,m2,m3,m4,m5⟩:=F.ex
 exact⟨fa,fd,ps,m1,m2,m3,m4.mono h,m5⟩
theorem fnok{x qual:Str}{st:Stmt}{f:Addr}{fd:FuncData}{N ps:List Str}{body:List CS}(F:Fun K x qual st f fd)(S:FnScope N ps (a0v' st))(M:MOk P w K mg base CX0 Φ Γ k)(he:emSs body N (a0Y' st)=a0Y' st)(hc:sdSs body N (a0v' st).names (a0Y' st)=true):
  FnOk P w K mg base CX0 (k+1) f fd ps (spOf K mg ps.length (runD Φ Γ body N.length ps.length)):=by
 refine F.ok S (fun vs H Q E h=>h.1) (fun cdv A outer s H vs Q E hr h=>?_)
 ·obtain⟨hl,F',μ,S0,ds,sk,r,wt⟩:=h
  have O:YOk (cxOf CX0 P w K mg base N qual (a0v' st) f cdv A outer s H E).nox N (a0v' st).names CX0 E Φ Γ k:=⟨⟨rfl,S.nd,rfl,S.kind,rfl,hr,fun _ _=>rfl,M,fun _ _ _ _ _ _ _ z=>z.elim,fun _ _ _ _ _ z=>z⟩,PassesOwn.never⟩
  refine⟨_,he▸a5w' body O hc,F',μ,ds.map some++List.replicate (N.length-ds.length) none,S0,sk,b2T' r,?_⟩
  have hl2:ds.length=ps.length:=by rw[r.length];exact hl
  unfold runD at wt
  rw[if_pos hl2,←hl2]at wt
  have hkl:μ.length=S0.length:=sk.len
  show WantS K ⟨mg,F'⟩ E _ μ H (denSs Φ Γ body (ds.map some++List.replicate (N.length-ds.length) none) S0)
  cases e:denSs Φ Γ body (ds.map some++List.replicate (N.length-ds.length) none) S0 with
  |ok fl S'=>
   rw[e]at wt
   cases fl with
   |next ρ=>exact fun μ' H' σ' x s' _=>b3O' x hkl s' b0v' wt
   |ret d=>exact fun μ' H' v x s' r'=>b3O' x hkl s' r' wt
   |brk ρ=>exact wt.elim
   |cont ρ=>exact wt.elim
  |err y S'=>
   rw[e]at wt
   intro μ' H' x s'
   by_cases hz:(S'.take S0.length).all (lowL S0.length)=true
   ·simp only[hz,if_true]at wt
    exact wt μ H' x.cut (SOk.cut x hkl s' hz)
   ·simp only[hz]at wt
    exact wt.elim
  |fail=>rw[e]at wt;exact wt.elim
theorem fok{x qual:Str}{st:Stmt}{f:Addr}{fd:FuncData}{N ps:List Str}{body:List CS}(F:Fun K x qual st f fd)(S:FnScope N ps (a0v' st))(hm:mg x=some (.ref f))(hb:Binds K fd ps [])(M:MOk P w K mg base CX0 Φ Γ k)(he:emSs body N (a0Y' st)=a0Y' st)(hc:sdSs body N (a0v' st).names (a0Y' st)=true):
  FOk P w K mg base CX0 (k+1) x (runD Φ Γ body N.length ps.length):=by
 refine⟨f,fd,ps,hm,F.kp,hb,fnok F S M he hc,fun ds S' hne=>?_⟩
 unfold runD at hne
 by_cases h:ds.length=ps.length
 ·exact h
 ·rw[if_neg h]at hne;exact absurd rfl hne
theorem fok0{x qual:Str}{st:Stmt}{f:Addr}{fd:FuncData}{N ps:List Str}(F:Fun K x qual st f fd)(S:FnScope N ps (a0v' st))(hm:mg x=some (.ref f))(hb:Binds K fd ps []):FOk P w K mg base CX0 k x (fun _ _=>.fail):=
 ⟨f,fd,ps,hm,F.kp,hb,⟨fun vs H Q E h=>h.1,fun A outer s H args us vs Q E _ _ _ _ h=>by obtain⟨_,_,_,_,_,_,_,z⟩:=h;exact z.elim⟩,fun _ _ h=>absurd rfl h⟩
theorem len1{P:List Value→Prop}(h:∀a,P [a]):∀us:List Value,us.length=1→P us:=fun us hl=>by
 obtain⟨a,rfl⟩:=List.length_eq_one_iff.mp hl
 exact h a
theorem len2{P:List Value→Prop}(h:∀a b,P [a,b]):∀us:List Value,us.length=2→P us:=fun us hl=>by
 cases us with
 |nil=>cases hl
 |cons a us=>exact len1 (P:=fun us=>P (a::us)) (h a) us (Nat.succ.inj hl)
theorem len3{P:List Value→Prop}(h:∀a b c,P [a,b,c]):∀us:List Value,us.length=3→P us:=fun us hl=>by
 cases us with
 |nil=>cases hl
 |cons a us=>exact len2 (P:=fun us=>P (a::us)) (h a) us (Nat.succ.inj hl)
def tbl(l:List (Str×(List D→Store→Res D))):FT:=fun f=>l.lookup f
theorem mok{l:List (Str×(List D→Store→Res D))}(h:∀p∈l,FOk P w K mg base CX0 k p.1 p.2)(hg:∀x d,Γ x=some d→∃v u,mg x=some u∧RelV v u∧∀F μ H,Rep K ⟨mg,F⟩ μ H d v)(hb:∀x∈a2g',mg x=none):MOk P w K mg base CX0 (tbl l) Γ k:=
 ⟨fun f φ e=>h (f,φ) (ZM e),hg,hb⟩
end
end Py
end
section
namespace K21
open PySem PySem.Spec PyProof.Rows L2 Py
def G0:Str→Option D:=fun x=>[(("MOST_PLACES":Str),D.int 8)].lookup x
def a9K':List Str:=["thing"]
def a0W':List CS:=[.ret (.band (.blt .isinst [.var 0,.ty "int"]) (.bnot (.blt .isinst [.var 0,.ty "bool"])))]
def a5x':FT:=tbl []
def a1k':List D→Store→Res D:=runD a5x' G0 a0W' a9K'.length 1
def a2l':List Str:=["thing","low","high"]
def a2m':List CS:=[.ret (.band (.call "is_number" [.var 0]) (.chain .LtE .LtE (.var 1) (.var 0) (.var 2)))]
def a2n':FT:=tbl [("is_number",a1k')]
theorem a1s':a2n' "is_number"=some a1k':=rfl
def a0x':List D→Store→Res D:=runD a2n' G0 a2m' a2l'.length 3
def a6X':List Str:=["many","thing"]
def a6Y':List CS:=[.ret (.call "is_number_from" [.var 1,.lit (.int 0),.bin .Sub (.var 0) (.lit (.int 1))])]
def a6Z':FT:=tbl [("is_number_from",a0x')]
theorem a1B':a6Z' "is_number_from"=some a0x':=rfl
def a3w':List D→Store→Res D:=runD a6Z' G0 a6Y' a6X'.length 2
def a5y':List Str:=["things"]
def a5z':List CS:=[.ret (.blt .all [.comp false ["one","other"] [none,none] (.tup [.var 0,.var 1]) (.zip [.var 0,.sl (.var 0) [.lit (.int 1)] []]) [] (.emit (.cmp .Lt (.var 0) (.var 1)))])]
def a9L':FT:=tbl []
def a0C':List D→Store→Res D:=runD a9L' G0 a5z' a5y'.length 1
def a4G':List Str:=["many","thing"]
def a4H':List CS:=[.ret (.band (.blt .isinst [.var 1,.ty "tuple"]) (.blt .all [.comp false ["place","many"] [none,some 0] (.var 0) (.seq (.var 1)) [] (.emit (.call "is_place" [.var 1,.var 0]))]))]
def a4I':FT:=tbl [("is_place",a3w')]
theorem a2o':a4I' "is_place"=some a3w':=rfl
def a1n':List D→Store→Res D:=runD a4I' G0 a4H' a4G'.length 2
def a4J':List Str:=["things"]
def a4K':List CS:=[.ret (.cmp .Eq (.lenset (.var 0)) (.blt .len [.var 0]))]
def a8d':FT:=tbl []
def a1P':List D→Store→Res D:=runD a8d' G0 a4K' a4J'.length 1
def b1o':List Str:=["many","thing"]
def b1p':List CS:=[.ret (.band (.call "are_places" [.var 0,.var 1]) (.band (.cmp .Eq (.blt .len [.var 1]) (.lit (.int 2))) (.call "is_rising" [.var 1])))]
def a8e':FT:=tbl [("are_places",a1n'),("is_rising",a0C')]
theorem a3c':a8e' "are_places"=some a1n':=rfl
theorem a3x':a8e' "is_rising"=some a0C':=rfl
def a3M':List D→Store→Res D:=runD a8e' G0 b1p' b1o'.length 2
def b1q':List Str:=["thing","many","ties"]
def b1r':List CS:=[.ite (.bor (.bnot (.blt .isinst [.var 0,.ty "tuple"])) (.cmp .NotEq (.blt .len [.var 0]) (.lit (.int 2)))) [.ret (.lit (.bl false))] [],.asgT (.tup [.var 1,.var 2]) (.var 0),.ite (.bor (.bnot (.call "is_number_from" [.var 1,.lit (.int 1),.glob "MOST_PLACES"])) (.bnot (.blt .isinst [.var 2,.ty "tuple"]))) [.ret (.lit (.bl false))] [],.ret (.band (.blt .all [.comp false ["tie","many"] [none,some 1] (.var 0) (.seq (.var 2)) [] (.emit (.call "is_tie" [.var 1,.var 0]))]) (.call "is_rising" [.var 2]))]
def a6h':FT:=tbl [("is_rising",a0C'),("is_number_from",a0x'),("is_tie",a3M')]
theorem a3y':a6h' "is_rising"=some a0C':=rfl
theorem a1Q':a6h' "is_number_from"=some a0x':=rfl
theorem a2p':a6h' "is_tie"=some a3M':=rfl
def a6i':List D→Store→Res D:=runD a6h' G0 b1r' b1q'.length 1
def a7a':List Str:=["web","thing"]
def a7b':List CS:=[.ite (.bnot (.blt .isinst [.var 1,.ty "tuple"])) [.ret (.lit (.bl false))] [],.ret (.band (.blt .all [.comp false ["tie","web"] [none,some 0] (.var 0) (.seq (.var 1)) [] (.emit (.band (.call "is_tie" [.idx (.var 1) (.lit (.int 0)),.var 0]) (.cmp .In (.var 0) (.idx (.var 1) (.lit (.int 1))))))]) (.call "is_rising" [.var 1]))]
def a4L':FT:=tbl [("is_rising",a0C'),("is_tie",a3M')]
theorem a2M':a4L' "is_rising"=some a0C':=rfl
theorem a3N':a4L' "is_tie"=some a3M':=rfl
def a3z':List D→Store→Res D:=runD a4L' G0 a7b' a7a'.length 2
def a4h':List Str:=["thing"]
def a4i':List CS:=[.ite (.bnot (.call "is_web" [.var 0])) [.never] []]
def a4j':FT:=tbl [("is_web",a6i')]
theorem a2N':a4j' "is_web"=some a6i':=rfl
def a1y':List D→Store→Res D:=runD a4j' G0 a4i' a4h'.length 1
def b1s':List Str:=["one","other"]
def b1t':List CS:=[.ret (.tup [.blt .min [.var 0,.var 1],.blt .max [.var 0,.var 1]])]
def b5l':FT:=tbl []
def a6j':List D→Store→Res D:=runD b5l' G0 b1t' b1s'.length 2
def a7c':List Str:=["web","one","other"]
def a7d':List CS:=[.ret (.cmp .In (.call "tie_of" [.var 1,.var 2]) (.idx (.var 0) (.lit (.int 1))))]
def a7e':FT:=tbl [("tie_of",a6j')]
theorem a3O':a7e' "tie_of"=some a6j':=rfl
def a1b':List D→Store→Res D:=runD a7e' G0 a7d' a7c'.length 3
def a4M':List Str:=["web","thing"]
def a4N':List CS:=[.expr (.call "must_be_web" [.var 0]),.ret (.band (.call "are_ties" [.var 0,.var 1]) (.call "are_unlike" [.comp false ["tie","place"] [none,none] (.var 0) (.seq (.var 1)) [] (.inner (.var 1) (.seq (.var 0)) [] (.emit (.var 1)))]))]
def a1R':FT:=tbl [("must_be_web",a1y'),("are_ties",a3z'),("are_unlike",a1P')]
theorem a1F':a1R' "must_be_web"=some a1y':=rfl
theorem a2q':a1R' "are_ties"=some a3z':=rfl
theorem a1S':a1R' "are_unlike"=some a1P':=rfl
def a1T':List D→Store→Res D:=runD a1R' G0 a4N' a4M'.length 2
def a1Z':List Str:=["web","thing"]
def a2a':List CS:=[.ite (.bnot (.call "is_pairing" [.var 0,.var 1])) [.never] []]
def a2b':FT:=tbl [("is_pairing",a1T')]
theorem a1j':a2b' "is_pairing"=some a1T':=rfl
def a0A':List D→Store→Res D:=runD a2b' G0 a2a' a1Z'.length 2
def a8X':List Str:=["pairing","place","low","high"]
def a8Y':List CS:=[.for_ (.tup [.var 2,.var 3]) (.seq (.var 0)) [.ite (.cmp .Eq (.var 1) (.var 2)) [.ret (.var 3)] [],.ite (.cmp .Eq (.var 1) (.var 3)) [.ret (.var 2)] []],.ret (.lit (.non))]
def a3A':FT:=tbl []
def a1U':List D→Store→Res D:=runD a3A' G0 a8Y' a8X'.length 2
def a7f':List Str:=["web","ties"]
def a7g':List CS:=[.ret (.blt .tuple [.comp false ["place","ties"] [none,some 1] (.var 0) (.range [.idx (.var 0) (.lit (.int 0))]) [.cmp .Is (.call "mate_of" [.var 1,.var 0]) (.lit (.non))] (.emit (.var 0))])]
def a7h':FT:=tbl [("mate_of",a1U')]
theorem a3B':a7h' "mate_of"=some a1U':=rfl
def a1c':List D→Store→Res D:=runD a7h' G0 a7g' a7f'.length 2
def a9M':List Str:=["web","pairing","grown","found"]
def stG:CE:=.comp false ["place"] [none] (.var 0) (.seq (.call "loose_of" [.var 0,.var 1])) [] (.emit (.tup [.var 0]))
def lsE:CE:=.idx (.var 0) (.neg (.lit (.int 1)))
def stT:CE:=.band (.cmp .NotIn (.var 1) (.var 0)) (.band (.call "have_tie" [.var 3,lsE,.var 1]) (.cmp .IsNot (.call "mate_of" [.var 2,.var 1]) (.lit (.non))))
def stE:CE:=.bin .Add (.var 0) (.tup [.var 1,.call "mate_of" [.var 2,.var 1]])
def stC:CE:=.comp false ["stem","place","pairing","web"] [none,none,some 1,some 0] (.var 0) (.seq (.var 2)) [] (.inner (.var 1) (.range [.idx (.var 3) (.lit (.int 0))]) [stT] (.emit stE))
def stB:List CS:=[.aug 3 (.var 2),.asg 2 stC]
def a3P':List CS:=[.asg 2 stG,.asg 3 (.lst true []),.while_ 12 (.var 2) stB,.ret (.var 3)]
def a0d':FT:=tbl [("loose_of",a1c'),("mate_of",a1U'),("have_tie",a1b')]
theorem a2O':a0d' "loose_of"=some a1c':=rfl
theorem a1o':a0d' "mate_of"=some a1U':=rfl
theorem a2P':a0d' "have_tie"=some a1b':=rfl
def a2F':List D→Store→Res D:=runD a0d' G0 a3P' a9M'.length 2
def a4O':List Str:=["web","pairing","ends","stems"]
def awT:CE:=.band (.cmp .Lt (.idx (.var 0) (.lit (.int 0))) (.var 1)) (.call "have_tie" [.var 2,lsE,.var 1])
def awE:CE:=.bin .Add (.var 0) (.tup [.var 1])
def awC:CE:=.comp false ["stem","end","web","ends"] [none,none,some 0,some 2] (.var 0) (.seq (.var 3)) [] (.inner (.var 1) (.seq (.var 3)) [awT] (.emit awE))
def a2r':List CS:=[.expr (.call "must_be_pairing" [.var 0,.var 1]),.asg 2 (.call "loose_of" [.var 0,.var 1]),.asg 3 (.call "all_stems" [.var 0,.var 1]),.ret (.blt (.sorted true (.seq .int)) [awC])]
def a0j':FT:=tbl [("must_be_pairing",a0A'),("loose_of",a1c'),("all_stems",a2F'),("have_tie",a1b')]
theorem a1t':a0j' "must_be_pairing"=some a0A':=rfl
theorem a3d':a0j' "loose_of"=some a1c':=rfl
theorem a2Q':a0j' "all_stems"=some a2F':=rfl
theorem a3e':a0j' "have_tie"=some a1b':=rfl
def a1G':List D→Store→Res D:=runD a0j' G0 a2r' a4O'.length 2
def a3Q':List Str:=["web","pairing","found"]
def a2G':List CS:=[.asg 2 (.call "all_ways" [.var 0,.var 1]),.ret (.ite (.var 2) (.idx (.var 2) (.lit (.int 0))) (.lit (.non)))]
def a1l':FT:=tbl [("all_ways",a1G')]
theorem a2R':a1l' "all_ways"=some a1G':=rfl
def a1H':List D→Store→Res D:=runD a1l' G0 a2G' a3Q'.length 2
def a7i':List Str:=["_law_pairing_here","_law_place"]
def a7j':List CS:=[.ret (.idx (.bin .Add (.comp false ["_law_tie","_law_place"] [none,some 1] (.var 0) (.seq (.var 0)) [.cmp .In (.var 1) (.var 0)] (.emit (.bin .Sub (.blt .sum [.var 0]) (.var 1)))) (.lst false [.lit (.non)])) (.lit (.int 0)))]
def b1u':FT:=tbl []
def a0O':List D→Store→Res D:=runD b1u' G0 a7j' a7i'.length 2
def a5A':List Str:=["_law_web_here","_law_pairing_here"]
def a5B':List CS:=[.ret (.blt .tuple [.comp false ["_law_place","_law_pairing_here"] [none,some 1] (.var 0) (.range [.idx (.var 0) (.lit (.int 0))]) [.cmp .Is (.call "_law_mate" [.var 1,.var 0]) (.lit (.non))] (.emit (.var 0))])]
def a5C':FT:=tbl [("_law_mate",a0O')]
theorem a2S':a5C' "_law_mate"=some a0O':=rfl
def a1I':List D→Store→Res D:=runD a5C' G0 a5B' a5A'.length 2
def a7k':List Str:=["_law_web_here","_law_place"]
def a7l':List CS:=[.ret (.blt (.sorted false (.int)) [.comp false ["_law_one","_law_other","_law_place"] [none,none,some 1] (.tup [.var 0,.var 1]) (.seq (.idx (.var 0) (.lit (.int 1)))) [.cmp .In (.var 2) (.tup [.var 0,.var 1])] (.emit (.bin .Sub (.bin .Add (.var 0) (.var 1)) (.var 2)))])]
def b1v':FT:=tbl []
def a2s':List D→Store→Res D:=runD b1v' G0 a7l' a7k'.length 2
def a9N':List Str:=["_law_found"]
def a9O':List CS:=[.ret (.band (.blt .isinst [.var 0,.ty "int"]) (.bnot (.blt .isinst [.var 0,.ty "bool"])))]
def a9P':FT:=tbl []
def a1J':List D→Store→Res D:=runD a9P' G0 a9O' a9N'.length 1
def a8f':List Str:=["_law_web_here","_law_pairing_here","_law_thing","_law_ties","_law_ends"]
def lwT1:CE:=.bor (.bnot (.blt .isinst [.var 2,.ty "tuple"])) (.bor (.cmp .Lt (.blt .len [.var 2]) (.lit (.int 2))) (.cmp .Eq (.bin .Mod (.blt .len [.var 2]) (.lit (.int 2))) (.lit (.int 1))))
def lwE:CE:=.band (.call "_law_whole" [.var 0]) (.chain .LtE .Lt (.lit (.int 0)) (.var 0) (.idx (.var 1) (.lit (.int 0))))
def lwC1:CE:=.comp false ["_law_place","_law_web_here"] [none,some 0] (.var 0) (.seq (.var 2)) [] (.emit lwE)
def lwT2:CE:=.bor (.bnot (.blt .all [lwC1])) (.cmp .Lt (.lenset (.var 2)) (.blt .len [.var 2]))
def lwC2:CE:=.comp false ["_law_one","_law_other"] [none,none] (.tup [.var 0,.var 1]) (.zip [.var 2,.sl (.var 2) [.lit (.int 1)] []]) [] (.emit (.blt .tuple [.blt (.sorted false (.int)) [.lst false [.var 0,.var 1]]]))
def lwC3:CE:=.comp false ["_law_place","_law_pairing_here"] [none,some 1] (.var 0) (.seq (.tup [.idx (.var 2) (.lit (.int 0)),.idx (.var 2) (.neg (.lit (.int 1)))])) [] (.emit (.call "_law_mate" [.var 1,.var 0]))
def lwT3:CE:=.bor (.cmp .Gt (.idx (.var 2) (.lit (.int 0))) (.idx (.var 2) (.neg (.lit (.int 1))))) (.cmp .NotEq (.var 4) (.lst false [.lit (.non),.lit (.non)]))
def lwC4:CE:=.comp false ["_law_tie","_law_web_here"] [none,some 0] (.var 0) (.seq (.var 3)) [.cmp .NotIn (.var 0) (.idx (.var 1) (.lit (.int 1)))] (.emit (.var 0))
def lwC5:CE:=.comp false ["_law_tie","_law_pairing_here"] [none,some 1] (.var 0) (.seq (.var 3)) [] (.emit (.cmp .In (.var 0) (.var 1)))
def lwC6:CE:=.comp false ["_law_at"] [none] (.var 0) (.range [.blt .len [.var 3]]) [] (.emit (.cmp .Eq (.bin .Mod (.var 0) (.lit (.int 2))) (.lit (.int 1))))
def a3f':List CS:=[.ite lwT1 [.ret (.lit (.bl false))] [],.ite lwT2 [.ret (.lit (.bl false))] [],.asg 3 lwC2,.asg 4 lwC3,.ite lwT3 [.ret (.lit (.bl false))] [],.ite (.cmp .NotEq lwC4 (.lst false [])) [.ret (.lit (.bl false))] [],.ret (.cmp .Eq lwC5 lwC6)]
def a0b':FT:=tbl [("_law_mate",a0O'),("_law_whole",a1J')]
theorem a2t':a0b' "_law_mate"=some a0O':=rfl
theorem a0S':a0b' "_law_whole"=some a1J':=rfl
def a1V':List D→Store→Res D:=runD a0b' G0 a3f' a8f'.length 3
def a4P':List Str:=["_law_web_here","_law_pairing_here","_law_rows","_law_found","_law_more","_law_chain","_law_place"]
def wyG:CE:=.comp false ["_law_place"] [none] (.var 0) (.seq (.call "_law_loose" [.var 0,.var 1])) [] (.emit (.tup [.var 0]))
def wyW:CE:=.cmp .NotEq (.var 2) (.lst false [])
def wyL:CE:=.idx (.var 5) (.neg (.lit (.int 1)))
def wyT:CE:=.band (.cmp .NotIn (.var 6) (.var 5)) (.cmp .Eq (.cmp .Eq (.call "_law_mate" [.var 1,.var 6]) wyL) (.cmp .Eq (.bin .Mod (.blt .len [.var 5]) (.lit (.int 2))) (.lit (.int 0))))
def wyI:List CS:=[.ite wyT [.expr (.meth .append (.var 4) [.bin .Add (.var 5) (.tup [.var 6])])] []]
def wyB:List CS:=[.for_ (.var 6) (.seq (.call "_law_near" [.var 0,wyL])) wyI]
def wyF:CE:=.comp false ["_law_chain","_law_web_here","_law_pairing_here"] [none,some 0,some 1] (.var 0) (.seq (.var 2)) [.call "_law_is_way" [.var 1,.var 2,.var 0]] (.emit (.var 0))
def wyD:List CS:=[.asg 4 (.lst true []),.for_ (.var 5) (.seq (.var 2)) wyB,.asg 2 (.var 4),.asg 3 (.bin .Add (.var 3) wyF)]
def a2u':List CS:=[.asg 2 wyG,.asg 3 (.lst false []),.while_ 12 wyW wyD,.ret (.blt (.sorted false (.seq .int)) [.var 3])]
def a0a':FT:=tbl [("_law_loose",a1I'),("_law_near",a2s'),("_law_is_way",a1V'),("_law_mate",a0O')]
theorem a2T':a0a' "_law_loose"=some a1I':=rfl
theorem a3g':a0a' "_law_near"=some a2s':=rfl
theorem a2v':a0a' "_law_is_way"=some a1V':=rfl
theorem a3h':a0a' "_law_mate"=some a0O':=rfl
def a2w':List D→Store→Res D:=runD a0a' G0 a2u' a4P'.length 2
def a0P':List Str:=["_law_found","_law_due","_law_one","_law_other"]
def a1d':List CS:=[.ite (.cmp .Is (.var 1) (.lit (.non))) [.ret (.cmp .Is (.var 0) (.lit (.non)))] [],.ite (.blt .isinst [.var 1,.ty "bool"]) [.ret (.band (.blt .isinst [.var 0,.ty "bool"]) (.cmp .Eq (.var 0) (.var 1)))] [],.ite (.blt .isinst [.var 1,.ty "int"]) [.ret (.band (.blt .isinst [.var 0,.ty "int"]) (.band (.bnot (.blt .isinst [.var 0,.ty "bool"])) (.cmp .Eq (.var 0) (.var 1))))] [],.ite (.blt .isinst [.var 1,.ty "str"]) [.ret (.band (.blt .isinst [.var 0,.ty "str"]) (.cmp .Eq (.var 0) (.var 1)))] [],.ite (.bor (.cmp .NotEq (.blt .isinst [.var 1,.ty "list"]) (.blt .isinst [.var 0,.ty "list"])) (.cmp .NotEq (.blt .isinst [.var 1,.ty "tuple"]) (.blt .isinst [.var 0,.ty "tuple"]))) [.ret (.lit (.bl false))] [],.ite (.cmp .NotEq (.blt .len [.var 0]) (.blt .len [.var 1])) [.ret (.lit (.bl false))] [],.for_ (.tup [.var 2,.var 3]) (.zip [.var 0,.var 1]) [.ite (.bnot (.call "_law_same" [.var 2,.var 3])) [.ret (.lit (.bl false))] []],.ret (.lit (.bl true))]
def a0h':Nat→List D→Store→Res D
 |0=>fun _ _=>.fail
 |n+1=>runD (tbl [("_law_same",a0h' n)]) G0 a1d' a0P'.length 2
def a1p':List D→Store→Res D:=a0h' 6
def a7m':List Str:=["_law_script","_law_k"]
def a7n':List CS:=[.ite (.cmp .Lt (.var 1) (.blt .len [.var 0])) [.ret (.idx (.var 0) (.var 1))] [],.ret (.lit (.int 0))]
def b1w':FT:=tbl []
def a1K':List D→Store→Res D:=runD b1w' G0 a7n' a7m'.length 2
def a4u':List Str:=["_law_cell_here"]
def a4v':List CS:=[.ret (.lst true [.var 0,.blt .int [.cmp .GtE (.var 0) (.bin .Pow (.lit (.int 10)) (.lit (.int 18)))]])]
def a6k':FT:=tbl []
def a2H':List D→Store→Res D:=runD a6k' G0 a4v' a4u'.length 1
def a4Q':List Str:=["_law_pen_here","_law_many","_law_found"]
def a4R':List CS:=[.ite (.cmp .Eq (.idx (.var 0) (.lit (.int 1))) (.lit (.int 1))) [.asg 2 (.bin .Mod (.idx (.var 0) (.lit (.int 0))) (.var 1)),.set (.var 0) (.lit (.int 0)) (.bin .FloorDiv (.idx (.var 0) (.lit (.int 0))) (.var 1)),.ret (.var 2)] [],.set (.var 0) (.lit (.int 0)) (.bin .Mod (.bin .Add (.bin .Mult (.bin .Mod (.idx (.var 0) (.lit (.int 0))) (.lit (.int 2147483629))) (.lit (.int 48271))) (.lit (.int 11))) (.lit (.int 2147483629))),.ret (.bin .Mod (.bin .FloorDiv (.bin .Mod (.bin .Add (.bin .Mult (.idx (.var 0) (.lit (.int 0))) (.idx (.var 0) (.lit (.int 0)))) (.bin .Mult (.lit (.int 40692)) (.idx (.var 0) (.lit (.int 0))))) (.lit (.int 2147483647))) (.lit (.int 8))) (.var 1))]
def b1x':FT:=tbl []
def a0n':List D→Store→Res D:=runD b1x' G0 a4R' a4Q'.length 2
def a5D':List Str:=["_law_many","_law_found","_law_one"]
def a5E':List CS:=[.asg 1 (.lst false []),.for_ (.var 2) (.range [.var 0]) [.asg 1 (.bin .Add (.var 1) (.comp false ["_law_other","_law_one"] [none,some 2] (.var 0) (.range [.bin .Add (.var 2) (.lit (.int 1)),.var 0]) [] (.emit (.tup [.var 1,.var 0]))))],.ret (.var 1)]
def a5F':FT:=tbl []
def a0X':List D→Store→Res D:=runD a5F' G0 a5E' a5D'.length 1
def a4S':List Str:=["_law_pen_here","_law_many","_law_order","_law_place","_law_ties","_law_pairing_here","_law_turn","_law_tie"]
def lgA:CE:=.bin .Add (.lit (.int 2)) (.bin .Mult (.lit (.int 2)) (.call "_law_draw" [.var 0,.lit (.int 4)]))
def lgI:List CS:=[.expr (.meth .insert (.var 2) [.call "_law_draw" [.var 0,.bin .Add (.var 3) (.lit (.int 1))],.var 3])]
def lgC:CE:=.comp false ["_law_at","_law_order"] [none,some 2] (.var 0) (.range [.bin .Sub (.var 1) (.lit (.int 1))]) [] (.emit (.blt .tuple [.blt (.sorted false (.int)) [.lst false [.idx (.var 1) (.var 0),.idx (.var 1) (.bin .Add (.var 0) (.lit (.int 1)))]]]))
def lgP:CE:=.blt .tuple [.blt (.sorted false (.seq .int)) [.odd (.var 4) (.lit (.int 1)) (.lit (.int 2))]]
def lgB:List CS:=[.asg 7 (.idx (.call "_law_pairs" [.var 1]) (.call "_law_draw" [.var 0,.bin .FloorDiv (.bin .Mult (.var 1) (.bin .Sub (.var 1) (.lit (.int 1)))) (.lit (.int 2))])),.asg 4 (.bin .Add (.var 4) (.bin .Mult (.lst false [.var 7]) (.blt .int [.cmp .NotIn (.var 7) (.var 4)])))]
def lgR:CE:=.tup [.tup [.var 1,.blt .tuple [.blt (.sorted false (.seq .int)) [.var 4]]],.var 5]
def a2x':List CS:=[.asg 1 lgA,.asg 2 (.lst true []),.for_ (.var 3) (.range [.var 1]) lgI,.asg 4 lgC,.asg 5 lgP,.for_ (.var 6) (.range [.call "_law_draw" [.var 0,.lit (.int 4)]]) lgB,.ret lgR]
def a0f':FT:=tbl [("_law_draw",a0n'),("_law_pairs",a0X')]
theorem a0z':a0f' "_law_draw"=some a0n':=rfl
theorem a2U':a0f' "_law_pairs"=some a0X':=rfl
def a1L':List D→Store→Res D:=runD a0f' G0 a2x' a4S'.length 1
def b2U':List Str:=["_law_pen_here","_law_upto","_law_many","_law_way","_law_rest","_law_mids","_law_often"]
def a6l':List CS:=[.asg 2 (.bin .Sub (.bin .Sub (.bin .Add (.lit (.int 1)) (.var 1)) (.lit (.int 1))) (.bin .Mod (.idx (.lst false [.lit (.int 0),.lit (.int 0),.lit (.int 1),.lit (.int 0),.lit (.int 2),.lit (.int 1),.lit (.int 3),.lit (.int 4),.lit (.int 5),.lit (.int 6),.lit (.int 7),.lit (.int 0)]) (.call "_law_draw" [.var 0,.lit (.int 12)])) (.var 1))),.asg 3 (.call "_law_draw" [.var 0,.lit (.int 9)]),.ite (.band (.cmp .Eq (.var 3) (.lit (.int 0))) (.cmp .Gt (.var 2) (.lit (.int 2)))) [.ret (.tup [.var 2,.blt .tuple [.blt (.sorted false (.seq .int)) [.bin .Add (.comp false ["_law_k"] [none] (.var 0) (.range [.bin .Sub (.var 2) (.lit (.int 1))]) [] (.emit (.tup [.var 0,.bin .Add (.var 0) (.lit (.int 1))]))) (.lst false [.tup [.lit (.int 0),.bin .Sub (.var 2) (.lit (.int 1))]])]]])] [],.ite (.band (.cmp .Eq (.var 3) (.lit (.int 1))) (.cmp .Gt (.var 2) (.lit (.int 5)))) [.asg 4 (.bin .Add (.comp false ["_law_k"] [none] (.var 0) (.range [.lit (.int 3),.bin .Sub (.var 2) (.lit (.int 1))]) [] (.emit (.tup [.var 0,.bin .Add (.var 0) (.lit (.int 1))]))) (.lst false [.tup [.lit (.int 3),.bin .Sub (.var 2) (.lit (.int 1))],.tup [.lit (.int 2),.lit (.int 3)]])),.ret (.tup [.var 2,.blt .tuple [.blt (.sorted false (.seq .int)) [.bin .Add (.lst false [.tup [.lit (.int 0),.lit (.int 1)],.tup [.lit (.int 0),.lit (.int 2)],.tup [.lit (.int 1),.lit (.int 2)]]) (.var 4)]]])] [],.ite (.band (.cmp .Eq (.var 3) (.lit (.int 2))) (.cmp .Gt (.var 2) (.lit (.int 2)))) [.asg 5 (.bin .Add (.lit (.int 1)) (.call "_law_draw" [.var 0,.lit (.int 2)])),.ret (.tup [.var 2,.blt .tuple [.comp false ["_law_tie","_law_mids"] [none,some 5] (.var 0) (.seq (.call "_law_pairs" [.var 2])) [.chain .Lt .LtE (.idx (.var 0) (.lit (.int 0))) (.var 1) (.idx (.var 0) (.lit (.int 1)))] (.emit (.var 0))]])] [],.ite (.cmp .Eq (.var 3) (.lit (.int 3))) [.ret (.tup [.var 2,.blt .tuple [.blt (.sorted false (.seq .int)) [.comp false ["_law_place","_law_pen_here"] [none,some 0] (.var 0) (.range [.lit (.int 1),.var 2]) [] (.emit (.tup [.call "_law_draw" [.var 1,.var 0],.var 0]))]]])] [],.asg 6 (.idx (.lst false [.lit (.int 2),.lit (.int 3),.lit (.int 4),.lit (.int 6),.lit (.int 8)]) (.call "_law_draw" [.var 0,.lit (.int 5)])),.ret (.tup [.var 2,.blt .tuple [.comp false ["_law_tie","_law_pen_here","_law_often"] [none,some 0,some 6] (.var 0) (.seq (.call "_law_pairs" [.var 2])) [.cmp .Lt (.call "_law_draw" [.var 1,.lit (.int 8)]) (.var 2)] (.emit (.var 0))]])]
def a0L':FT:=tbl [("_law_draw",a0n'),("_law_pairs",a0X')]
theorem a0o':a0L' "_law_draw"=some a0n':=rfl
theorem a1q':a0L' "_law_pairs"=some a0X':=rfl
def a2I':List D→Store→Res D:=runD a0L' G0 a6l' b2U'.length 2
def a2y':List Str:=["_law_pen_here","_law_web_here","_law_left","_law_found","_law_tie"]
def a1e':List CS:=[.asg 2 (.blt (.list true) [.idx (.var 1) (.lit (.int 1))]),.asg 3 (.lst true []),.while_ 40 (.cmp .NotEq (.var 2) (.lst false [])) [.asg 4 (.meth .pop (.var 2) [.call "_law_draw" [.var 0,.blt .len [.var 2]]]),.ite (.band (.blt .all [.comp false ["_law_one","_law_tie"] [none,some 4] (.var 0) (.seq (.var 3)) [] (.emit (.band (.cmp .NotIn (.idx (.var 1) (.lit (.int 0))) (.var 0)) (.cmp .NotIn (.idx (.var 1) (.lit (.int 1))) (.var 0))))]) (.cmp .Gt (.call "_law_draw" [.var 0,.lit (.int 4)]) (.lit (.int 0)))) [.expr (.meth .append (.var 3) [.var 4])] []],.ret (.blt .tuple [.blt (.sorted false (.seq .int)) [.var 3]])]
def a0c':FT:=tbl [("_law_draw",a0n')]
theorem a0T':a0c' "_law_draw"=some a0n':=rfl
def a0M':List D→Store→Res D:=runD a0c' G0 a1e' a2y'.length 2
def a3R':List Str:=["_law_web_here","_law_pairing_here","_law_due","_law_turn","_law_found"]
def rtB:List CS:=[.asg 4 (.call "all_ways" [.var 0,.var 1]),.ite (.bnot (.call "_law_same" [.var 4,.var 2])) [.ret (.lit (.bl false))] [],.expr (.meth .append (.var 4) [.tup []])]
def rtR:CE:=.call "_law_same" [.call "first_way" [.var 0,.var 1],.idx (.bin .Add (.var 2) (.lst false [.lit (.non)])) (.lit (.int 0))]
def a1M':List CS:=[.asg 2 (.call "_law_ways" [.var 0,.var 1]),.for_ (.var 3) (.range [.lit (.int 2)]) rtB,.ret rtR]
def a0k':FT:=tbl [("_law_ways",a2w'),("_law_same",a1p'),("all_ways",a1G'),("first_way",a1H')]
theorem a2V':a0k' "_law_ways"=some a2w':=rfl
theorem a1g':a0k' "_law_same"=some a1p':=rfl
theorem a2W':a0k' "all_ways"=some a1G':=rfl
theorem a2z':a0k' "first_way"=some a1H':=rfl
def a1m':List D→Store→Res D:=runD a0k' G0 a1M' a3R'.length 2
def n_law:List Str:=["_law_script","_law_cell_here","_law_pen_here","_law_web_here","_law_pairing_here","_law_other"]
def l21C:CE:=.seq (.bin .Add (.lst false [.call "_law_cell" [.var 0,.lit (.int 0)]]) (.sl (.var 0) [.lit (.int 1)] [.lit (.int 6)]))
def l21T:CE:=.bor (.bnot (.call "_law_right" [.var 3,.var 4])) (.bor (.bnot (.call "_law_right" [.var 5,.call "_law_pairing" [.var 2,.var 5]])) (.bnot (.call "_law_right" [.var 5,.tup []])))
def l21B:List CS:=[.asg 2 (.call "_law_pen" [.var 1]),.asgT (.tup [.var 3,.var 4]) (.call "_law_long" [.var 2]),.asg 5 (.call "_law_web" [.var 2,.lit (.int 8)]),.ite l21T [.ret (.lit (.bl false))] []]
def c_law:List CS:=[.for_ (.var 1) l21C l21B,.ret (.lit (.bl true))]
def t_law:FT:=tbl [("_law_pen",a2H'),("_law_long",a1L'),("_law_web",a2I'),("_law_cell",a1K'),("_law_right",a1m'),("_law_pairing",a0M')]
theorem a6m':t_law "_law_pen"=some a2H':=rfl
theorem a5g':t_law "_law_long"=some a1L':=rfl
theorem a6n':t_law "_law_web"=some a2I':=rfl
theorem a5h':t_law "_law_cell"=some a1K':=rfl
theorem a4T':t_law "_law_right"=some a1m':=rfl
theorem a3S':t_law "_law_pairing"=some a0M':=rfl
def f_law:List D→Store→Res D:=runD t_law G0 c_law n_law.length 1
end K21
end
section
namespace K21
open PySem PySem.Spec PyProof.Rows L2 Py
def top(i:Nat):Stmt:=PySem.Challenge.pw_pairwebs_k21_all_ways.main.body.getD i (.Pass ⟨0,0,0,0⟩)
def DefIn(K:PySem.W.Frag)(x:Str)(st:Stmt):Prop:=∃f fd,PySem.W.nsIn K mainGlobals x=some (some (.ref f))∧Fun K x x st f fd
theorem dm{K:PySem.W.Frag}{x:Str}{st:Stmt}{f:Addr}{oc:Value}{od an:Option Addr}{osl:Array (Option Value)}{kV doc pm cdv ct:Value}(a:PySem.W.nsIn K mainGlobals x=some (some (.ref f)))(l:K.lookup f=some ⟨oc,od,.func (PySem.W.fnOf x x (a4z' st) (a0Y' st) (a0v' st) .none kV doc pm an cdv ct),osl⟩)
  (c:PySem.W.codeIn K cdv x=true) (k:PySem.W.keepIn K (.ref f)=true):DefIn K x st:=⟨f,_,a,fun_mk l c k⟩
def b2V'(N P:List Str)(sc:Scope):Bool:=(sc.kind== .function)&& !sc.isCoroutine&& !sc.isGenerator&&a9B' N&&(N.take P.length==P)&&P.all (fun x=>sc.names.lookup x==some .local||sc.names.lookup x==some .cell)&&sc.names.all (fun y=>y.2 !=.free)
theorem a3T'{N P:List Str}{sc:Scope}(h:b2V' N P sc=true):FnScope N P sc:=by
 unfold b2V' at h
 simp only[Zr,Yb,ZF,Bool.or_eq_true,bne_iff_ne,Bool.not_eq_true']at h
 obtain⟨⟨⟨⟨⟨⟨h1,h2⟩,h3⟩,h4⟩,h5⟩,h6⟩,h7⟩:=h
 exact⟨h1,h2,h3,a3K' h4,h5,h6,h7⟩
structure En (K:PySem.W.Frag)(mg:Str→Option Value)(h:Heap):Prop where
 X:K.In h
 G:h.Ns mainGlobals mg
 hg:∀x d,G0 x=some d→∃v u,mg x=some u∧RelV v u∧∀F μ H,Rep K ⟨mg,F⟩ μ H d v
 hb:∀x∈a2g',mg x=none
section
variable {P:Program}{w:World}{K:PySem.W.Frag}{mg:Str→Option Value}{base h:Heap}{Φ:FT}{Γ:Str→Option D}{k j:Nat}
theorem fe{x:Str}{st:Stmt}{N ps:List Str}{body:List CS}{l:List (Str×(List D→Store→Res D))}(E:En K mg h)(d:DefIn K x st)
  (hb:∀(kV doc pm:Value) (an:Option Addr) (cdv ct:Value) (us:List Value),us.length=ps.length→bindArgs (PySem.W.fnOf x x (a4z' st) (a0Y' st) (a0v' st) .none kV doc pm an cdv ct) ⟨us,[]⟩=pure (ps.zip us))
  (H:∀p∈l,FOk P w K mg base CX0 k p.1 p.2) (he:emSs body N (a0Y' st)=a0Y' st) (S:(b2V' N ps (a0v' st)&&sdSs body N (a0v' st).names (a0Y' st))=true):FOk P w K mg base CX0 (k+1) x (runD (tbl l) G0 body N.length ps.length):=by
 obtain⟨f,fd,a,F⟩:=d
 have S:=Bool.and_eq_true_iff.mp S
 exact fok F (a3T' S.1) (PySem.W.mg_of E.X E.G a) (F.binds hb) (mok H E.hg E.hb) he S.2
theorem f0{x:Str}{st:Stmt}{N ps:List Str}(E:En K mg h)(d:DefIn K x st)(S:b2V' N ps (a0v' st)=true)
  (hb:∀(kV doc pm:Value) (an:Option Addr) (cdv ct:Value) (us:List Value),us.length=ps.length→bindArgs (PySem.W.fnOf x x (a4z' st) (a0Y' st) (a0v' st) .none kV doc pm an cdv ct) ⟨us,[]⟩=pure (ps.zip us)):FOk P w K mg base CX0 k x (fun _ _=>.fail):=by
 obtain⟨f,fd,a,F⟩:=d
 exact fok0 F (a3T' S) (PySem.W.mg_of E.X E.G a) (F.binds hb)
theorem an:∀p∈([]:List (Str×(List D→Store→Res D))),FOk P w K mg base CX0 k p.1 p.2:=fun p h=>(List.not_mem_nil h).elim
theorem ac{x:Str}{φ:List D→Store→Res D}{l:List (Str×(List D→Store→Res D))}(F:FOk P w K mg base CX0 j x φ)(hj:j≤k)(r:∀p∈l,FOk P w K mg base CX0 k p.1 p.2):∀p∈(x,φ)::l,FOk P w K mg base CX0 k p.1 p.2:=fun p hp=>by
 rcases Zn.mp hp with rfl|h
 ·exact F.mono hj
 ·exact r p h
end
structure Df (K:PySem.W.Frag):Prop where
 d_is_number:DefIn K "is_number" (top 6)
 d_is_number_from:DefIn K "is_number_from" (top 7)
 d_is_place:DefIn K "is_place" (top 8)
 d_is_rising:DefIn K "is_rising" (top 9)
 d_are_places:DefIn K "are_places" (top 10)
 d_are_unlike:DefIn K "are_unlike" (top 11)
 d_is_tie:DefIn K "is_tie" (top 12)
 d_is_web:DefIn K "is_web" (top 13)
 d_are_ties:DefIn K "are_ties" (top 14)
 d_must_be_web:DefIn K "must_be_web" (top 15)
 d_tie_of:DefIn K "tie_of" (top 16)
 d_have_tie:DefIn K "have_tie" (top 17)
 d_is_pairing:DefIn K "is_pairing" (top 19)
 d_must_be_pairing:DefIn K "must_be_pairing" (top 20)
 d_mate_of:DefIn K "mate_of" (top 21)
 d_loose_of:DefIn K "loose_of" (top 22)
 d_all_stems:DefIn K "all_stems" (top 24)
 d_all_ways:DefIn K "all_ways" (top 25)
 d_first_way:DefIn K "first_way" (top 26)
 d_law_mate:DefIn K "_law_mate" (top 28)
 d_law_loose:DefIn K "_law_loose" (top 29)
 d_law_near:DefIn K "_law_near" (top 30)
 d_law_whole:DefIn K "_law_whole" (top 31)
 d_law_is_way:DefIn K "_law_is_way" (top 32)
 d_law_ways:DefIn K "_law_ways" (top 33)
 d_law_same:DefIn K "_law_same" (top 34)
 d_law_cell:DefIn K "_law_cell" (top 35)
 d_law_pen:DefIn K "_law_pen" (top 36)
 d_law_draw:DefIn K "_law_draw" (top 37)
 d_law_pairs:DefIn K "_law_pairs" (top 38)
 d_law_long:DefIn K "_law_long" (top 39)
 d_law_web:DefIn K "_law_web" (top 40)
 d_law_pairing:DefIn K "_law_pairing" (top 41)
 d_law_right:DefIn K "_law_right" (top 42)
 d_law:DefIn K "law" (top 43)
section
variable {P:Program}{w:World}{K:PySem.W.Frag}{mg:Str→Option Value}{base h:Heap}(E:En K mg h)(D:Df K)
include E D
theorem a8g':FOk P w K mg base CX0 1 "is_number" a1k':=fe (ps:=["thing"]) E D.d_is_number (fun _ _ _ _ _ _=>len1 fun _=>rfl) an rfl (by decide+kernel)
theorem a2c':FOk P w K mg base CX0 2 "is_number_from" a0x':=fe (ps:=["thing","low","high"]) E D.d_is_number_from (fun _ _ _ _ _ _=>len3 fun _ _ _=>rfl) (ac (a8g' E D) (by decide) an) rfl (by decide+kernel)
theorem a9Q':FOk P w K mg base CX0 3 "is_place" a3w':=fe (ps:=["many","thing"]) E D.d_is_place (fun _ _ _ _ _ _=>len2 fun _ _=>rfl) (ac (a2c' E D) (by decide) an) rfl (by decide+kernel)
theorem a3i':FOk P w K mg base CX0 1 "is_rising" a0C':=fe (ps:=["things"]) E D.d_is_rising (fun _ _ _ _ _ _=>len1 fun _=>rfl) an rfl (by decide+kernel)
theorem a7o':FOk P w K mg base CX0 4 "are_places" a1n':=fe (ps:=["many","thing"]) E D.d_are_places (fun _ _ _ _ _ _=>len2 fun _ _=>rfl) (ac (a9Q' E D) (by decide) an) rfl (by decide+kernel)
theorem a7p':FOk P w K mg base CX0 1 "are_unlike" a1P':=fe (ps:=["things"]) E D.d_are_unlike (fun _ _ _ _ _ _=>len1 fun _=>rfl) an rfl (by decide+kernel)
theorem a8Z':FOk P w K mg base CX0 5 "is_tie" a3M':=fe (ps:=["many","thing"]) E D.d_is_tie (fun _ _ _ _ _ _=>len2 fun _ _=>rfl) (ac (a7o' E D) (by decide) (ac (a3i' E D) (by decide) an)) rfl (by decide+kernel)
theorem b2W':FOk P w K mg base CX0 6 "is_web" a6i':=fe (ps:=["thing"]) E D.d_is_web (fun _ _ _ _ _ _=>len1 fun _=>rfl) (ac (a3i' E D) (by decide) (ac (a2c' E D) (by decide) (ac (a8Z' E D) (by decide) an))) rfl (by decide+kernel)
theorem a9R':FOk P w K mg base CX0 6 "are_ties" a3z':=fe (ps:=["web","thing"]) E D.d_are_ties (fun _ _ _ _ _ _=>len2 fun _ _=>rfl) (ac (a3i' E D) (by decide) (ac (a8Z' E D) (by decide) an)) rfl (by decide+kernel)
theorem a6o':FOk P w K mg base CX0 7 "must_be_web" a1y':=fe (ps:=["thing"]) E D.d_must_be_web (fun _ _ _ _ _ _=>len1 fun _=>rfl) (ac (b2W' E D) (by decide) an) rfl (by decide+kernel)
theorem b2X':FOk P w K mg base CX0 1 "tie_of" a6j':=fe (ps:=["one","other"]) E D.d_tie_of (fun _ _ _ _ _ _=>len2 fun _ _=>rfl) an rfl (by decide+kernel)
theorem a5G':FOk P w K mg base CX0 2 "have_tie" a1b':=fe (ps:=["web","one","other"]) E D.d_have_tie (fun _ _ _ _ _ _=>len3 fun _ _ _=>rfl) (ac (b2X' E D) (by decide) an) rfl (by decide+kernel)
theorem a7q':FOk P w K mg base CX0 8 "is_pairing" a1T':=fe (ps:=["web","thing"]) E D.d_is_pairing (fun _ _ _ _ _ _=>len2 fun _ _=>rfl) (ac (a6o' E D) (by decide) (ac (a9R' E D) (by decide) (ac (a7p' E D) (by decide) an))) rfl (by decide+kernel)
theorem a3U':FOk P w K mg base CX0 9 "must_be_pairing" a0A':=fe (ps:=["web","thing"]) E D.d_must_be_pairing (fun _ _ _ _ _ _=>len2 fun _ _=>rfl) (ac (a7q' E D) (by decide) an) rfl (by decide+kernel)
theorem a7r':FOk P w K mg base CX0 1 "mate_of" a1U':=fe (ps:=["pairing","place"]) E D.d_mate_of (fun _ _ _ _ _ _=>len2 fun _ _=>rfl) an rfl (by decide+kernel)
theorem a5H':FOk P w K mg base CX0 2 "loose_of" a1c':=fe (ps:=["web","ties"]) E D.d_loose_of (fun _ _ _ _ _ _=>len2 fun _ _=>rfl) (ac (a7r' E D) (by decide) an) rfl (by decide+kernel)
theorem a8h':FOk P w K mg base CX0 3 "all_stems" a2F':=fe (ps:=["web","pairing"]) E D.d_all_stems (fun _ _ _ _ _ _=>len2 fun _ _=>rfl) (ac (a5H' E D) (by decide) (ac (a7r' E D) (by decide) (ac (a5G' E D) (by decide) an))) rfl (by decide+kernel)
theorem a5I':FOk P w K mg base CX0 10 "all_ways" a1G':=fe (ps:=["web","pairing"]) E D.d_all_ways (fun _ _ _ _ _ _=>len2 fun _ _=>rfl) (ac (a3U' E D) (by decide) (ac (a5H' E D) (by decide) (ac (a8h' E D) (by decide) (ac (a5G' E D) (by decide) an)))) rfl (by decide+kernel)
theorem a8i':FOk P w K mg base CX0 11 "first_way" a1H':=fe (ps:=["web","pairing"]) E D.d_first_way (fun _ _ _ _ _ _=>len2 fun _ _=>rfl) (ac (a5I' E D) (by decide) an) rfl (by decide+kernel)
theorem a3V':FOk P w K mg base CX0 1 "_law_mate" a0O':=fe (ps:=["_law_pairing_here","_law_place"]) E D.d_law_mate (fun _ _ _ _ _ _=>len2 fun _ _=>rfl) an rfl (by decide+kernel)
theorem a8j':FOk P w K mg base CX0 2 "_law_loose" a1I':=fe (ps:=["_law_web_here","_law_pairing_here"]) E D.d_law_loose (fun _ _ _ _ _ _=>len2 fun _ _=>rfl) (ac (a3V' E D) (by decide) an) rfl (by decide+kernel)
theorem a9S':FOk P w K mg base CX0 1 "_law_near" a2s':=fe (ps:=["_law_web_here","_law_place"]) E D.d_law_near (fun _ _ _ _ _ _=>len2 fun _ _=>rfl) an rfl (by decide+kernel)
theorem a8k':FOk P w K mg base CX0 1 "_law_whole" a1J':=fe (ps:=["_law_found"]) E D.d_law_whole (fun _ _ _ _ _ _=>len1 fun _=>rfl) an rfl (by decide+kernel)
theorem a7s':FOk P w K mg base CX0 2 "_law_is_way" a1V':=fe (ps:=["_law_web_here","_law_pairing_here","_law_thing"]) E D.d_law_is_way (fun _ _ _ _ _ _=>len3 fun _ _ _=>rfl) (ac (a3V' E D) (by decide) (ac (a8k' E D) (by decide) an)) rfl (by decide+kernel)
theorem a9T':FOk P w K mg base CX0 3 "_law_ways" a2w':=fe (ps:=["_law_web_here","_law_pairing_here"]) E D.d_law_ways (fun _ _ _ _ _ _=>len2 fun _ _=>rfl) (ac (a8j' E D) (by decide) (ac (a9S' E D) (by decide) (ac (a7s' E D) (by decide) (ac (a3V' E D) (by decide) an)))) rfl (by decide+kernel)
theorem a4k':∀n,FOk P w K mg base CX0 (0+n) "_law_same" (a0h' n)
 |0=>f0 (N:=a0P') (ps:=["_law_found","_law_due"]) E D.d_law_same (by decide+kernel) (fun _ _ _ _ _ _=>len2 fun _ _=>rfl)
 |n+1=>fe (ps:=["_law_found","_law_due"]) (k:=0+n) E D.d_law_same (fun _ _ _ _ _ _=>len2 fun _ _=>rfl) (ac (a4k' n) (Zj _) an) rfl (by decide+kernel)
theorem a9U':FOk P w K mg base CX0 6 "_law_same" a1p':=a4k' E D 6
theorem a5J':FOk P w K mg base CX0 1 "_law_cell" a1K':=fe (ps:=["_law_script","_law_k"]) E D.d_law_cell (fun _ _ _ _ _ _=>len2 fun _ _=>rfl) an rfl (by decide+kernel)
theorem a7t':FOk P w K mg base CX0 1 "_law_pen" a2H':=fe (ps:=["_law_cell_here"]) E D.d_law_pen (fun _ _ _ _ _ _=>len1 fun _=>rfl) an rfl (by decide+kernel)
theorem a3W':FOk P w K mg base CX0 1 "_law_draw" a0n':=fe (ps:=["_law_pen_here","_law_many"]) E D.d_law_draw (fun _ _ _ _ _ _=>len2 fun _ _=>rfl) an rfl (by decide+kernel)
theorem a4U':FOk P w K mg base CX0 1 "_law_pairs" a0X':=fe (ps:=["_law_many"]) E D.d_law_pairs (fun _ _ _ _ _ _=>len1 fun _=>rfl) an rfl (by decide+kernel)
theorem a5K':FOk P w K mg base CX0 2 "_law_long" a1L':=fe (ps:=["_law_pen_here"]) E D.d_law_long (fun _ _ _ _ _ _=>len1 fun _=>rfl) (ac (a3W' E D) (by decide) (ac (a4U' E D) (by decide) an)) rfl (by decide+kernel)
theorem a7u':FOk P w K mg base CX0 2 "_law_web" a2I':=fe (ps:=["_law_pen_here","_law_upto"]) E D.d_law_web (fun _ _ _ _ _ _=>len2 fun _ _=>rfl) (ac (a3W' E D) (by decide) (ac (a4U' E D) (by decide) an)) rfl (by decide+kernel)
theorem a3C':FOk P w K mg base CX0 2 "_law_pairing" a0M':=fe (ps:=["_law_pen_here","_law_web_here"]) E D.d_law_pairing (fun _ _ _ _ _ _=>len2 fun _ _=>rfl) (ac (a3W' E D) (by decide) an) rfl (by decide+kernel)
theorem a4V':FOk P w K mg base CX0 12 "_law_right" a1m':=fe (ps:=["_law_web_here","_law_pairing_here"]) E D.d_law_right (fun _ _ _ _ _ _=>len2 fun _ _=>rfl) (ac (a9T' E D) (by decide) (ac (a9U' E D) (by decide) (ac (a5I' E D) (by decide) (ac (a8i' E D) (by decide) an)))) rfl (by decide+kernel)
theorem ok_law:FOk P w K mg base CX0 13 "law" f_law:=fe (ps:=["_law_script"]) E D.d_law (fun _ _ _ _ _ _=>len1 fun _=>rfl) (ac (a7t' E D) (by decide) (ac (a5K' E D) (by decide) (ac (a7u' E D) (by decide) (ac (a5J' E D) (by decide) (ac (a4V' E D) (by decide) (ac (a3C' E D) (by decide) an)))))) rfl (by decide+kernel)
end
def spLaw(K:PySem.W.Frag):Sp:=fun vs H Q _=>∃(a:Addr) (ns:List Int),vs=[.ref a]∧Only H∧SqL K H a (ns.map V.int)∧ns.length≤63∧∀H',Q (.bl true) H'
def Good(f:List D→Store→Res D):Prop:=∀ns:List Int,ns.length≤63→∃S',f [.scr (ns.map D.int)] []=.ok (.bl true) S'
theorem a9a'{K:PySem.W.Frag}{mg:GS}{μ:List Addr}{H:Hp}:∀ns:List Int,RepL K mg μ H (ns.map D.int) (ns.map V.int)
 | []=>.nil
 |n::ns=>.cons a1h' (a9a' ns)
theorem sp_of{K:PySem.W.Frag}{mg:Str→Option Value}{f:List D→Store→Res D}(g:Good f):∀vs H Q E,spLaw K vs H Q E→spOf K mg 1 f vs H Q E:=by
 rintro vs H Q E ⟨a,ns,rfl,ho,hs,hl,q⟩
 refine⟨rfl,[],[],[],[.scr (ns.map D.int)],⟨fun a h=>(by cases h),rfl,List.nodup_nil,fun n a ds h=>(by cases h)⟩,.cons ?_ .nil,?_⟩
 ·unfold Rep
  refine⟨a,ns.map V.int,rfl,?_,a9a' ns⟩
  rcases hs with(h| ⟨o,h⟩)|h
  ·rcases ho a with z| ⟨o,xs,z⟩<;>rw[z]at h<;>cases h
  ·exact .inl ⟨o,h⟩
  ·exact .inr h
 ·obtain⟨S',e⟩:=g ns hl
  rw[e]
  intro μ' H' b x s r
  unfold Rep at r
  rw[r]
  exact q H'
theorem all_mk{l:PySem.W.OpenLaw}{w:World}{K:PySem.W.Frag}{h:Heap}{mg:Str→Option Value}{fa:Addr}(X:K.In h)(G:h.Ns mainGlobals mg)(hfa:mg "law"=some (.ref fa))(good:Good f_law)(D:Df K)(Z:∀x∈a2g',PySem.W.nsIn K mainGlobals x=some none)
  {gi0:Tok} (mp0:PySem.W.nsIn K mainGlobals "MOST_PLACES"=some (some (.int 8 gi0))):
  ∃fd:FuncData,(∀(s:Shared) (v:Value),BindsTo s fd ⟨[v],[]⟩ [("_law_script",v)])∧∀base:Heap,K.In base→base.Ns mainGlobals mg→FnOk l.prog w K mg base CX0 13 fa fd ["_law_script"] (spLaw K):=by
 have hg:∀x d,G0 x=some d→∃v u,mg x=some u∧RelV v u∧∀F μ H,Rep K ⟨mg,F⟩ μ H d v:=fun x d e=>by
  unfold G0 at e
  rw[List.lookup_cons]at e
  split at e
  ·rename_i hx
   cases e
   have hx':x="MOST_PLACES":=by simpa using hx
   subst hx'
   exact⟨.int 8,_,PySem.W.mg_of X G mp0,⟨_,rfl⟩,fun _ _ _=>a1h'⟩
  cases e
 have E:En K mg h:=⟨X,G,hg,fun x hx=>PySem.W.mg_none_of X G (Z x hx)⟩
 obtain⟨f,fd,a,F⟩:=D.d_law
 have e:=hfa.symm.trans (PySem.W.mg_of X G a)
 cases e
 have S:FnScope n_law ["_law_script"] (a0v' (top 43)):=a3T' (by decide+kernel)
 refine⟨fd,fun s v=>?_,fun base _ _=>?_⟩
 ·obtain⟨oc,od,kV,doc,pm,an,cdv,ct,osl,rfl,lk,hcd⟩:=F.ex
  exact .of_eq rfl
 ·exact FnOk.imp (fnok (k:=12) F S (mok (ac (a7t' E D) (by decide) (ac (a5K' E D) (by decide) (ac (a7u' E D) (by decide) (ac (a5J' E D) (by decide) (ac (a4V' E D) (by decide) (ac (a3C' E D) (by decide) an)))))) hg E.hb) rfl (by decide+kernel)) (sp_of good)
end K21
end
section
namespace Py
end Py
end
section
namespace K21
open PySem PySem.Spec PyProof.Rows L2 Py
mutual
theorem a9b'{k:Nat}:∀(d:D),lowD 0 d=true→lowD k d=true
 | .non,_=>rfl
 | .bl _,_=>rfl
 | .int _,_=>rfl
 | .str _,_=>rfl
 | .tup ds,h=>by unfold lowD at h⊢;exact a1W' ds h
 | .lst ds,h=>by unfold lowD at h⊢;exact a1W' ds h
 | .scr ds,h=>by unfold lowD at h⊢;exact a1W' ds h
 | .ref n,h=>by unfold lowD at h;simp at h
 | .fn y,_=>rfl
 | .ty y,_=>rfl
 | .dct,_=>rfl
theorem a1W'{k:Nat}:∀(ds:List D),lowL 0 ds=true→lowL k ds=true
 | [],_=>rfl
 |d::ds,h=>by
  unfold lowL at h⊢
  simp only[Zr]at h⊢
  exact⟨a9b' d h.1,a1W' ds h.2⟩
end
def Flat(S:Store):Prop:=∀xs∈S,lowL 0 xs=true
theorem Flat.all{S:Store}{k:Nat}(h:Flat S):S.all (lowL k)=true:=ZF.mpr fun xs hx=>a1W' xs (h xs hx)
theorem Flat.nil:Flat []:=fun _ h=>by cases h
theorem Flat.snoc{S:Store}{xs:List D}(h:Flat S)(hx:lowL 0 xs=true):Flat (S++[xs]):=fun ys hy=>by
 rcases ZB.mp hy with z|z
 ·exact h ys z
 ·have:ys=xs:=by simpa using z
  subst this;exact hx
theorem Flat.set{S:Store}{n:Nat}{xs:List D}(h:Flat S)(hx:lowL 0 xs=true):Flat (S.set n xs):=fun ys hy=>by
 rcases List.mem_or_eq_of_mem_set hy with z|z
 ·exact h ys z
 ·subst z;exact hx
theorem a2J'{k:Nat}{d:D}{S':Store}(h:Flat (S'.take k))(hd:lowD 0 d=true):trim k d S'=.ok d (S'.take k):=by
 unfold trim
 rw[if_pos h.all,if_pos (a9b' d hd)]
theorem b2Y'{d:D}{S:Store}(h:Flat S)(hd:lowD 0 d=true):trim S.length d S=.ok d S:=by
 rw[a2J' (by rw[List.take_length];exact h) hd,List.take_length]
theorem a8l'{k:Nat}{d:D}{S:Store}(hk:S.length=k)(h:Flat S)(hd:lowD 0 d=true):trim k d S=.ok d S:=by
 subst hk;exact b2Y' h hd
theorem a7v'{step:D→List D→Store→Res (List D)}{S:Store}(g:D→Option D):∀(xs acc:List D),(∀x∈xs,∀acc,acc.length<big→step x acc S=.ok (acc++(g x).toList) S)→acc.length+xs.length≤big→compD step xs acc S=.ok (acc++xs.filterMap g) S
 | [],acc,_,_=>by simp[compD]
 |x::xs,acc,h,hl=>by
  simp only[Zs]at hl
  unfold compD
  rw[h x Zb acc (by omega)]
  unfold Res.bind
  dsimp only
  rw[a7v' g xs _ (fun y hy=>h y (Za _ hy)) (by
   have:(g x).toList.length≤1:=by cases g x<;>simp
   simp only[Zm];omega)]
  cases e:g x<;>simp[e]
theorem b2Z'{α:Type}{l:List α}{f:α→Option Bool}(h:∀x∈l,f x=some true):allO (l.map f)=some true:=by
 induction l with
 |nil=>rfl
 |cons x l ih=>
  simp only[ZA]
  unfold allO
  rw[h x Zb,ih fun y hy=>h y (Za _ hy)]
  rfl
theorem allO_map{α:Type}{l:List α}{f:α→Bool}:allO (l.map fun x=>some (f x))=some (l.all f):=by
 induction l with
 |nil=>rfl
 |cons x l ih=>
  simp only[ZA]
  unfold allO
  rw[ih]
  rfl
theorem b1y'{α:Type}{l:List α}{f:α→Bool}:anyO (l.map fun x=>some (f x))=some (l.any f):=by
 unfold anyO
 rw[List.map_map]
 have e:(fun o:Option Bool=>o.map not)∘(fun x:α=>some (f x))=fun x=>some (!f x):=rfl
 rw[e,allO_map]
 simp[List.not_all_eq_any_not]
def tieD(t:Int×Int):D:=.tup [.int t.1,.int t.2]
def tiesD(ts:List (Int×Int)):List D:=ts.map tieD
def webD(m:Int)(ts:List (Int×Int)):D:=.tup [.int m,.tup (tiesD ts)]
theorem low_tie(t:Int×Int):lowD 0 (tieD t)=true:=rfl
theorem a1X':∀(ts:List (Int×Int)),lowL 0 (tiesD ts)=true
 | []=>rfl
 |t::ts=>by
  show(lowD 0 (tieD t)&&lowL 0 (tiesD ts))=true
  rw[low_tie,a1X' ts];rfl
theorem a3j':∀(ns:List Int),lowL 0 (ns.map D.int)=true
 | []=>rfl
 |t::ts=>by
  show(lowD 0 (.int t)&&lowL 0 (ts.map D.int))=true
  rw[a3j' ts];rfl
theorem b3P'(m:Int)(ts:List (Int×Int)):lowD 0 (webD m ts)=true:=by
 show(true&&((lowL 0 (tiesD ts))&&true))=true
 rw[a1X'];rfl
def lexlt(a b:Int×Int):Prop:=a.1<b.1∨(a.1=b.1∧a.2<b.2)
instance (a b:Int×Int):Decidable (lexlt a b):=by unfold lexlt;exact inferInstance
theorem b1z'(S:Store)(n:Nat)(a b:Int):eqF S (n+1) (.int a) (.int b)=some (a==b):=rfl
theorem eqF_tie(S:Store)(n:Nat)(a b:Int×Int):eqF S (n+2) (tieD a) (tieD b)=some (decide (a=b)):=by
 have e:eqF S (n+2) (tieD a) (tieD b)=some ((a.1==b.1&&(a.2==b.2&&true))&&true):=rfl
 rw[e]
 obtain⟨a1,a2⟩:=a
 obtain⟨b1,b2⟩:=b
 simp[Prod.ext_iff]
 by_cases h1:a1=b1<;>by_cases h2:a2=b2<;>simp[h1,h2]
theorem ltF_tie(S:Store)(n:Nat)(a b:Int×Int):ltF S (n+2) (tieD a) (tieD b)=some (decide (lexlt a b)):=by
 have e:ltF S (n+2) (tieD a) (tieD b)=(match eqF S (n+1) (.int a.1) (.int b.1)with
  |some true=>(match eqF S (n+1) (.int a.2) (.int b.2)with
   |some true=>some false
   |some false=>some (decide (a.2<b.2))
   |none=>none)
  |some false=>some (decide (a.1<b.1))
  |none=>none):=rfl
 rw[e,b1z',b1z']
 obtain⟨a1,a2⟩:=a
 obtain⟨b1,b2⟩:=b
 unfold lexlt
 dsimp only
 by_cases h1:a1=b1
 ·subst h1
  by_cases h2:a2=b2
  ·subst h2;simp
  ·have:(a2==b2)=false:=by simpa using h2
   simp[this]
 ·have:(a1==b1)=false:=by simpa using h1
  simp[this,h1]
theorem a7w'(S:Store)(t:Int×Int)(ts:List (Int×Int)):inD (tieD t) (.tup (tiesD ts)) S=some (decide (t∈ts)):=by
 have e:inD (tieD t) (.tup (tiesD ts)) S=anyO ((tiesD ts).map fun y=>eqF S deep y (tieD t)):=rfl
 rw[e]
 unfold tiesD
 rw[List.map_map]
 have e2:((fun y=>eqF S deep y (tieD t))∘tieD)=fun u=>some (decide (u=t)):=by
  funext u
  exact eqF_tie S 38 u t
 rw[e2,b1y']
 congr 1
 clear e e2
 induction ts with
 |nil=>rfl
 |cons u us ih=>
  rw[List.any_cons,ih]
  by_cases h:u=t
  ·subst h;simp
  ·have h':¬t=u:=fun z=>h z.symm
   by_cases h2:t∈us<;>simp[h,h',h2]
theorem b3a'(S:Store)(p:Int)(t:Int×Int):inD (.int p) (tieD t) S=some (decide (p=t.1∨p=t.2)):=by
 have e:inD (.int p) (tieD t) S=some (!((!(t.1==p))&&((!(t.2==p))&&true))):=rfl
 rw[e]
 congr 1
 by_cases h1:p=t.1
 ·subst h1;simp
 ·by_cases h2:p=t.2
  ·subst h2;simp
  ·have e1:(t.1==p)=false:=by simpa using fun z=>h1 z.symm
   have e2:(t.2==p)=false:=by simpa using fun z=>h2 z.symm
   rw[e1,e2];simp[h1,h2]
def PenAt(S:Store)(n:Nat):Prop:=∃a b,S[n]?=some [.int a,.int b]
theorem PenAt.set{S:Store}{n m:Nat}{a b:Int}(h:PenAt S n):PenAt (S.set m [.int a,.int b]) n:=by
 obtain⟨x,y,h⟩:=h
 by_cases e:m=n
 ·subst e
  have hl:=(Zh.mp h).1
  exact⟨a,b,by rw[Z5 hl]⟩
 ·exact⟨x,y,by rw[List.getElem?_set_ne e];exact h⟩
theorem draw_ok{S:Store}{n:Nat}{m:Int}(hS:Flat S)(hp:PenAt S n)(h0:0<m)(h1:m<1000):∃r a b,0≤r∧r<m∧a0n' [.ref n,.int m] S=.ok (.int r) (S.set n [.int a,.int b]):=by
 obtain⟨a,b,h⟩:=hp
 have hl:=(Zh.mp h).1
 have fl:∀x y:Int,Flat (S.set n [.int x,.int y]):=fun x y=>hS.set rfl
 have tr:∀(r x y:Int),trim S.length (.int r) (S.set n [.int x,.int y])=.ok (.int r) (S.set n [.int x,.int y]):=fun r x y=>a8l' (by simp) (fl x y) rfl
 by_cases hb:b=1
 ·subst hb
  refine⟨a%m,a/m,1,Int.emod_nonneg _ (by omega),Int.emod_lt_of_pos _ h0,?_⟩
  rw[←tr]
  have hm:m<1073741824:=by omega
  simp[a0n',runD,a4R',a4Q',denSs,denS,denT,den,denL,Res.bind,Res.noErr,onBl,idxD,seqOf,h,atI,ixN,cmpD,boolR,eqF,sh,eqS,deep,opD,modD,fdivD,setD,h0,hm]
 ·have hb':(b==1)=false:=by simpa using hb
  have hp0:0≤(a%2147483629*48271+11)%2147483629:=Int.emod_nonneg _ (by omega)
  have hp1:(a%2147483629*48271+11)%2147483629<2147483629:=Int.emod_lt_of_pos _ (by omega)
  have e0:∀p:Int,(a%2147483629*48271+11)%2147483629=p→a0n' [.ref n,.int m] S=.ok (.int ((p*p+40692*p)%2147483647/8%m)) (S.set n [.int p,.int b]):=fun p hp=>by
   rw[hp]at hp0 hp1
   have h2: -(18446744073709551616:Int)<p:=by omega
   have h3:p<(18446744073709551616:Int):=by omega
   have hs:∀x,(S.set n x)[n]?=some x:=fun x=>Z5 hl
   have hss:∀x y:List D,(S.set n x).set n y=S.set n y:=fun x y=>List.set_set ..
   clear hl
   rw[←tr]
   simp[a0n',runD,a4R',a4Q',denSs,denS,denT,den,denL,Res.bind,Res.noErr,onBl,idxD,seqOf,h,atI,ixN,cmpD,boolR,eqF,sh,eqS,deep,opD,modD,fdivD,mulD,addD,setD,h0,hb',hb,hs,hss,hp,h2,h3]
  exact⟨_,_,b,Int.emod_nonneg _ (show m≠0 by omega),Int.emod_lt_of_pos _ h0,e0 _ rfl⟩
structure Web (m:Int)(ts:List (Int×Int)):Prop where
 lo:1≤m
 hi:m≤8
 ris:ts.Pairwise lexlt
 tie:∀t∈ts,0≤t.1∧t.1<t.2∧t.2<m
 few:ts.length≤28
structure Pairing (ts ps:List (Int×Int)):Prop where
 ris:ps.Pairwise lexlt
 sub:∀t∈ps,t∈ts
 un:(ps.flatMap fun t=>[t.1,t.2]).Nodup
theorem a0y'{Φ:FT}{Γ:Str→Option D}{body:List CS}{n np:Nat}{ds:List D}{S S':Store}{d:D}(hl:ds.length=np)(h:denSs Φ Γ body (ds.map some++List.replicate (n-np) none) S=.ok (.ret d) S')(hk:S'.length=S.length)(hf:Flat S')(hd:lowD 0 d=true):runD Φ Γ body n np ds S=.ok d S':=by
 unfold runD
 rw[if_pos hl,h]
 exact a8l' hk hf hd
theorem b1A'{Φ:FT}{Γ:Str→Option D}{body:List CS}{n np:Nat}{ds:List D}{S S':Store}{ρ:Rho}(hl:ds.length=np)(h:denSs Φ Γ body (ds.map some++List.replicate (n-np) none) S=.ok (.next ρ) S')(hk:S'.length=S.length)(hf:Flat S'):runD Φ Γ body n np ds S=.ok .non S':=by
 unfold runD
 rw[if_pos hl,h]
 exact a8l' hk hf rfl
theorem a7x'{S:Store}(hS:Flat S)(i:Int):a1k' [.int i] S=.ok (.bl true) S:=a0y' rfl rfl rfl hS rfl
theorem a1N'{S:Store}(hS:Flat S)(i lo hi:Int):a0x' [.int i,.int lo,.int hi] S=.ok (.bl (decide (lo≤i∧i≤hi))) S:=by
 refine a0y' rfl ?_ rfl hS rfl
 simp[a2m',a2l',denSs,denS,denT,den,denL,Res.bind,Res.noErr,onBl,a1s',a7x' hS,cmpD,leD]
 by_cases h:lo≤i<;>simp[h]
theorem a8m'{S:Store}(hS:Flat S)(m i:Int):a3w' [.int m,.int i] S=.ok (.bl (decide (0≤i∧i<m))) S:=by
 refine a0y' rfl ?_ rfl hS rfl
 have e:(i≤m-1)=(i<m):=propext (by omega)
 simp[a6Y',a6X',denSs,denS,denT,den,denL,Res.bind,Res.noErr,onBl,a1B',a1N' hS,opD,subD,e]
theorem a3D'{step:D→List D→Store→Res (List D)}{S:Store}{xs:List D}(h:∀x∈xs,∀acc,acc.length<big→step x acc S=.ok (acc++[.bl true]) S)(hl:xs.length≤big):compD step xs [] S=.ok (xs.map fun _=>D.bl true) S:=by
 rw[a7v' (fun _=>some (.bl true)) xs [] (fun x hx acc ha=>h x hx acc ha) (by simpa using hl)]
 simp
theorem a6p'{S:Store}{xs:List D}:allD [.lst (xs.map fun _=>D.bl true)] S=.ok (.bl true) S:=by
 unfold allD
 simp only[seqOf]
 rw[List.map_map,show allO (xs.map (asB∘fun x=>D.bl true))=some true from b2Z' fun x hx=>rfl]
 rfl
theorem cut1(xs:List D):cutL xs (some 1) none=xs.drop 1:=by
 unfold cutL
 have e1:HT.sIx xs.length 0 (some 1)=min 1 xs.length:=by
  unfold HT.sIx
  simp
  try omega
 have e2:HT.sIx xs.length xs.length none=xs.length:=rfl
 rw[e1,e2]
 cases xs with
 |nil=>rfl
 |cons x r=>simp
theorem a5L'{S:Store}(hS:Flat S){xs:List D}(hl:xs.length≤1000)(h:∀(i:Nat) x y,xs[i]?=some x→xs[i+1]?=some y→ltF S deep x y=some true):a0C' [.tup xs] S=.ok (.bl true) S:=by
 refine a0y' rfl ?_ rfl hS rfl
 have hz:zipOf S (.tup xs) (.tup (xs.drop 1))=some (.items (List.zipWith (fun x y=>.tup [x,y]) xs (xs.drop 1))):=rfl
 have hc:=cut1 xs
 simp[a5z',a5y',denSs,denS,denT,den,denL,denI,Res.bind,Res.noErr,onBl,slD,optL,toOpt,bltD]
 simp only[hc,hz,compI]
 rw[a3D']
 ·simp only[Res.noErr]
  rw[a6p']
 ·intro z hz acc ha
  obtain⟨i,hi⟩:=List.mem_iff_getElem?.mp hz
  rw[List.getElem?_zipWith]at hi
  cases e1:xs[i]? with
  |none=>rw[e1]at hi;cases hi
  |some x=>
   cases e2:(xs.drop 1)[i]? with
   |none=>rw[e1,e2]at hi;cases hi
   |some y=>
    rw[e1,e2]at hi
    cases hi
    rw[List.getElem?_drop,Nat.add_comm]at e2
    have hlt:=h i x y e1 e2
    simp[a0p',isNew,slots,a2e',asgCT,asgVs,denTs,denB,den,Res.bind,cmpD,hlt,boolR,Res.noErr]
    unfold big at ha
    omega
 ·simp;unfold big;omega
theorem a5i'{S:Store}(hS:Flat S){m:Int}{ns:List Int}(hl:ns.length≤1000)(h:∀n∈ns,0≤n∧n<m):a1n' [.int m,.tup (ns.map D.int)] S=.ok (.bl true) S:=by
 refine a0y' rfl ?_ rfl hS rfl
 have hi:a0t' [.tup (ns.map D.int),.ty "tuple"] S=.ok (.bl true) S:=rfl
 simp[a4H',a4G',denSs,denS,denT,den,denL,denI,Res.bind,Res.noErr,onBl,bltD,hi,a1f']
 simp only[compI]
 rw[a3D']
 ·simp only[Res.noErr]
  rw[a6p']
 ·intro z hz acc ha
  obtain⟨n,hn,rfl⟩:=ZC.mp hz
  have hp:=a8m' hS m n
  have hd:decide (0≤n∧n<m)=true:=Zy (h n hn)
  rw[hd]at hp
  simp[a0p',isNew,slots,a2e',asgCT,asgVs,denTs,denB,den,denL,Res.bind,a2o',hp,Res.noErr]
  unfold big at ha
  omega
 ·simp;unfold big;omega
theorem a5M'{S:Store}(hS:Flat S){m:Int}{t:Int×Int}(h:0≤t.1∧t.1<t.2∧t.2<m):a3M' [.int m,tieD t] S=.ok (.bl true) S:=by
 refine a0y' rfl ?_ rfl hS rfl
 have h1:a1n' [.int m,tieD t] S=.ok (.bl true) S:=a5i' hS (ns:=[t.1,t.2]) (by simp) (by intro n hn;simp at hn;rcases hn with rfl|rfl<;>omega)
 have h2:a0C' [tieD t] S=.ok (.bl true) S:=a5L' hS (xs:=[.int t.1,.int t.2]) (by simp) (by
  intro i x y e1 e2
  have hi:i=0:=by
   have:=(Zh.mp e2).1
   simp at this;omega
  subst hi
  simp at e1 e2
  subst e1;subst e2
  show some (decide (t.1<t.2))=some true
  simp[h.2.1])
 have h3:bltD .len [tieD t] S=.ok (.int 2) S:=rfl
 have h4:cmpD .Eq (.int 2) (.int 2) S=.ok (.bl true) S:=rfl
 simp[b1p',b1o',denSs,denS,denT,den,denL,Res.bind,Res.noErr,onBl,a3c',a3x',h1,h2,h3,h4]
theorem b1B'{ts:List (Int×Int)}{i:Nat}{x:D}(h:(tiesD ts)[i]?=some x):∃t,ts[i]?=some t∧x=tieD t:=by
 unfold tiesD at h
 rw[ZN]at h
 cases e:ts[i]? with
 |none=>rw[e]at h;cases h
 |some t=>rw[e]at h;cases h;exact⟨t,rfl,rfl⟩
theorem a5N'{S:Store}(hS:Flat S){ts:List (Int×Int)}(hl:ts.length≤1000)(h:ts.Pairwise lexlt):a0C' [.tup (tiesD ts)] S=.ok (.bl true) S:=
 a5L' hS (by unfold tiesD;simpa using hl) fun i x y e1 e2=>by
  obtain⟨t,f1,rfl⟩:=b1B' e1
  obtain⟨u,f2,rfl⟩:=b1B' e2
  rw[show ltF S deep (tieD t) (tieD u)=some (decide (lexlt t u))from ltF_tie S 38 t u]
  obtain⟨g1,rfl⟩:=Zh.mp f1
  obtain⟨g2,rfl⟩:=Zh.mp f2
  rw[Zy (List.pairwise_iff_getElem.mp h i (i+1) g1 g2 (by omega))]
theorem a9V'{S:Store}(hS:Flat S){m:Int}{ts:List (Int×Int)}(W:Web m ts):a6i' [webD m ts] S=.ok (.bl true) S:=by
 have hf:=W.few
 refine a0y' rfl ?_ rfl hS rfl
 have h1:a0t' [webD m ts,.ty "tuple"] S=.ok (.bl true) S:=rfl
 have h2:lenD [webD m ts] S=.ok (.int 2) S:=rfl
 have h3:cmpD .NotEq (.int 2) (.int 2) S=.ok (.bl false) S:=rfl
 have h4:=a1N' hS m 1 8
 rw[Zy (⟨W.lo,W.hi⟩:1≤m∧m≤8)]at h4
 have h5:a0t' [.tup (tiesD ts),.ty "tuple"] S=.ok (.bl true) S:=rfl
 have h6:=a5N' hS (show ts.length≤1000 by omega) W.ris
 have h7:G0 "MOST_PLACES"=some (.int 8):=rfl
 have h8:asgCT (.tup [.var 1,.var 2]) (webD m ts) [some (webD m ts),none,none]=some [some (webD m ts),some (.int m),some (.tup (tiesD ts))]:=rfl
 simp[b1r',b1q',denSs,denS,denT,den,denL,denI,Res.bind,Res.noErr,onBl,bltD,h1,h2,h3,a3y',a1Q',a2p',h4,h5,truD,h6,h7,h8,a1f']
 simp only[compI]
 rw[a3D']
 ·simp only[Res.noErr]
  rw[a6p']
  simp[h6]
 ·intro z hz acc ha
  obtain⟨t,ht,rfl⟩:=ZC.mp hz
  have hp:=a5M' hS (W.tie t ht)
  simp[a0p',isNew,slots,a2e',asgCT,asgVs,denTs,denB,den,denL,Res.bind,a2p',hp,Res.noErr]
  unfold big at ha
  omega
 ·unfold tiesD big;simp;omega
theorem a4W'{S:Store}(hS:Flat S){m:Int}{ts:List (Int×Int)}(W:Web m ts):a1y' [webD m ts] S=.ok .non S:=by
 refine b1A' (ρ:=[some (webD m ts)]) rfl ?_ rfl hS
 simp[a4i',a4h',denSs,denS,denT,den,denL,Res.bind,a2N',a9V' hS W,truD]
theorem a1z'{α:Type}{f e:α→D}{p:α→Bool}{step:D→List D→Store→Res (List D)}{S:Store}:∀(xs:List α) (acc:List D),(∀x∈xs,∀acc,acc.length<big→step (f x) acc S=.ok (if p x=true then acc++[e x]else acc) S)→acc.length+xs.length≤big→compD step (xs.map f) acc S=.ok (acc++(xs.filter p).map e) S
 | [],acc,_,_=>by simp[compD]
 |x::xs,acc,h,hl=>by
  simp only[Zs]at hl
  simp only[ZA]
  unfold compD
  rw[h x Zb acc (by omega)]
  unfold Res.bind
  dsimp only
  have ih:=fun a=>a1z' (f:=f) (e:=e) (p:=p) (step:=step) xs a (fun y hy=>h y (Za _ hy))
  by_cases hp:p x=true
  ·rw[if_pos hp,ih _ (by simp;omega)]
   simp[hp]
  ·rw[if_neg hp,ih _ (by omega)]
   simp[hp]
theorem a0G'{α:Type}{f e:α→D}{p:α→Bool}{step:D→List D→Store→Res (List D)}{S:Store}{xs:List α}(h:∀x∈xs,∀acc,acc.length<big→step (f x) acc S=.ok (if p x=true then acc++[e x]else acc) S)(hl:xs.length≤big):compD step (xs.map f) [] S=.ok ((xs.filter p).map e) S:=by
 rw[a1z' xs [] h (by simpa using hl)]
 simp
theorem a0l'{Φ:FT}{Γ:Str→Option D}{c:CS}{cs:List CS}{ρ ρ':Rho}{S S':Store}(h:denS Φ Γ c ρ S=.ok (.next ρ') S'):denSs Φ Γ (c::cs) ρ S=denSs Φ Γ cs ρ' S':=by
 rw[denSs,h];rfl
theorem a3k'{Φ:FT}{Γ:Str→Option D}{c:CS}{cs:List CS}{ρ:Rho}{S S':Store}{d:D}(h:denS Φ Γ c ρ S=.ok (.ret d) S'):denSs Φ Γ (c::cs) ρ S=.ok (.ret d) S':=by
 rw[denSs,h];rfl
theorem a6q'{Φ:FT}{Γ:Str→Option D}{t:CT}{it:CE}{body:List CS}{ρ:Rho}{S S1:Store}{its:Its}(h:denI Φ Γ it ρ S=.ok its S1):denS Φ Γ (.for_ t it body) ρ S=forI (fun x ρ S=>match asgCT t x ρ with
   |some ρ'=>denSs Φ Γ body ρ' S
   |none=>.fail) its ρ S1:=by
 rw[denS,h];rfl
theorem a0K'{Φ:FT}{Γ:Str→Option D}{i:Nat}{e:CE}{cs:List CS}{ρ:Rho}{S S':Store}{d:D}(h:den Φ Γ e ρ S=.ok d S'):denSs Φ Γ (.asg i e::cs) ρ S=denSs Φ Γ cs (ρ.set i (some d)) S':=
 a0l' (by rw[denS,h];rfl)
def a0s'(lo:Int):Nat→List Int
 |0=>[]
 |n+1=>lo::a0s' (lo+1) n
theorem a1r'(lo:Int)(n:Nat):a1A' lo n=(a0s' lo n).map D.int:=by
 induction n generalizing lo with
 |zero=>rfl
 |succ n ih=>unfold a1A' a0s';rw[ih];rfl
theorem a0Q'{lo x:Int}{n:Nat}:x∈a0s' lo n→lo≤x∧x<lo+n:=by
 induction n generalizing lo with
 |zero=>intro h;cases h
 |succ n ih=>
  intro h
  unfold a0s' at h
  rcases Zn.mp h with rfl|h
  ·omega
  ·have:=ih h;omega
theorem a0g'{lo:Int}{n:Nat}:(a0s' lo n).length=n:=by
 induction n generalizing lo with
 |zero=>rfl
 |succ n ih=>unfold a0s';simp[ih]
def hasP(p:Int)(t:Int×Int):Bool:=decide (p=t.1∨p=t.2)
def mateI:List (Int×Int)→Int→Option Int
 | [],_=>none
 |t::ts,p=>if p=t.1 then some t.2 else if p=t.2 then some t.1 else mateI ts p
def optD:Option Int→D
 |some i=>.int i
 |none=>.non
theorem b3Q'(o:Option Int):lowD 0 (optD o)=true:=by cases o<;>rfl
theorem a9c'{S:Store}{step:D→Rho→Store→Res Fl}{p:Int}{P:D}
  (hs:∀(t:Int×Int) (x y:Option D),step (tieD t) [some P,some (.int p),x,y] S=.ok (if p=t.1 then .ret (.int t.2)else if p=t.2 then .ret (.int t.1)else .next [some P,some (.int p),some (.int t.1),some (.int t.2)]) S):
  ∀(ts:List (Int×Int)) (x y:Option D),(∃v,mateI ts p=some v∧forD step (tiesD ts) [some P,some (.int p),x,y] S=.ok (.ret (.int v)) S)∨(mateI ts p=none∧∃x' y',forD step (tiesD ts) [some P,some (.int p),x,y] S=.ok (.next [some P,some (.int p),x',y']) S)
 | [],x,y=>.inr ⟨rfl,x,y,rfl⟩
 |t::ts,x,y=>by
  unfold tiesD
  simp only[ZA]
  unfold forD mateI
  rw[hs]
  by_cases h1:p=t.1
  ·rw[if_pos h1,if_pos h1]
   exact .inl ⟨_,rfl,rfl⟩
  ·rw[if_neg h1,if_neg h1]
   by_cases h2:p=t.2
   ·rw[if_pos h2,if_pos h2]
    exact .inl ⟨_,rfl,rfl⟩
   ·rw[if_neg h2,if_neg h2]
    exact a9c' hs ts _ _
theorem a7y'{S:Store}(hS:Flat S)(ps:List (Int×Int))(p:Int):a1U' [.tup (tiesD ps),.int p] S=.ok (optD (mateI ps p)) S:=by
 refine a0y' rfl ?_ rfl hS (b3Q' _)
 have hl:=a9c' (S:=S) (p:=p) (P:=.tup (tiesD ps)) (step:=fun x ρ S=>match asgCT (.tup [.var 2,.var 3]) x ρ with
   |some ρ'=>denSs a3A' G0 [.ite (.cmp .Eq (.var 1) (.var 2)) [.ret (.var 3)] [],.ite (.cmp .Eq (.var 1) (.var 3)) [.ret (.var 2)] []] ρ' S
   |none=>.fail) (fun t x y=>by
    simp only[tieD,asgCT,asgVs]
    by_cases h1:p=t.1
    ·simp[denSs,denS,denT,den,Res.bind,Res.noErr,cmpD,eqF,deep,sh,eqS,boolR,onBl,h1]
    ·by_cases h2:p=t.2
     ·have h1':¬t.2=t.1:=fun z=>h1 (h2.trans z)
      simp[denSs,denS,denT,den,Res.bind,Res.noErr,cmpD,eqF,deep,sh,eqS,boolR,onBl,h1,h2,h1']
      try omega
     ·simp[denSs,denS,denT,den,Res.bind,Res.noErr,cmpD,eqF,deep,sh,eqS,boolR,onBl,h1,h2]) ps none none
 have e:denSs a3A' G0 a8Y' ([D.tup (tiesD ps),D.int p].map some++List.replicate (a8X'.length-2) none) S=(forD (fun x ρ S=>match asgCT (.tup [.var 2,.var 3]) x ρ with
   |some ρ'=>denSs a3A' G0 [.ite (.cmp .Eq (.var 1) (.var 2)) [.ret (.var 3)] [],.ite (.cmp .Eq (.var 1) (.var 3)) [.ret (.var 2)] []] ρ' S
   |none=>.fail) (tiesD ps) [some (.tup (tiesD ps)),some (.int p),none,none] S).bind fun f S1=>match f with
    | .next ρ'=>denSs a3A' G0 [.ret (.lit .non)] ρ' S1
    |f=>.ok f S1:=rfl
 rw[e]
 rcases hl with⟨v,h1,h2⟩| ⟨h1,x',y',h2⟩
 ·rw[h2,h1];rfl
 ·rw[h2,h1];rfl
theorem a3X'{S:Store}(hS:Flat S){ps:List (Int×Int)}(hl:ps.length≤1000)(p:Int):a0O' [.tup (tiesD ps),.int p] S=.ok (optD (mateI ps p)) S:=by
 refine a0y' rfl ?_ rfl hS (b3Q' _)
 simp[a7j',a7i',denSs,denS,denT,den,denL,denI,Res.bind,Res.noErr,onBl,bltD,a1f',compI]
 unfold tiesD
 rw[a0G' (f:=tieD) (p:=hasP p) (e:=fun t=>.int (t.1+t.2-p))]
 ·have hm:(((ps.filter (hasP p)).map (fun t=>D.int (t.1+t.2-p)))++[.non])[0]?=some (optD (mateI ps p)):=by
   clear hl
   induction ps with
   |nil=>rfl
   |cons t ts ih=>
    unfold mateI
    by_cases h1:p=t.1
    ·have:hasP p t=true:=by unfold hasP;simp[h1]
     rw[List.filter_cons_of_pos this,if_pos h1]
     simp only[ZA,List.cons_append,Zf,optD]
     congr 2;omega
    ·rw[if_neg h1]
     by_cases h2:p=t.2
     ·have:hasP p t=true:=by unfold hasP;simp[h2]
      rw[List.filter_cons_of_pos this,if_pos h2]
      simp only[ZA,List.cons_append,Zf,optD]
      congr 2;omega
     ·have:hasP p t=false:=by unfold hasP;simp[h1,h2]
      rw[List.filter_cons_of_neg (by simp[this]),if_neg h2]
      exact ih
  have hL:=ZS (hasP p) ps
  have hb:((ps.filter (hasP p)).map (fun t=>D.int (t.1+t.2-p))).length+1≤big:=by unfold big;simp;omega
  revert hm hb
  generalize(ps.filter (hasP p)).map (fun t=>D.int (t.1+t.2-p))=A
  intro hm hb
  have h1:addD (.lst A) (.lst [.non]) S=.ok (.lst (A++[.non])) S:=by
   show(if A.length+1≤big then Res.ok (D.lst (A++[.non])) S else .fail)=_
   rw[if_pos hb]
  have h2:idxD (.lst (A++[.non])) (.int 0) S=.ok (optD (mateI ps p)) S:=by
   unfold idxD
   simp only[seqOf]
   have:atI (A++[D.non]) 0=some (optD (mateI ps p)):=by
    unfold atI ixN
    simp only[Zm,Zs,Z6]
    rw[if_pos (by omega),if_pos (by omega)]
    exact hm
   rw[this]
  simp[Res.noErr,opD,h1,h2]
 ·intro t ht acc ha
  have hin:=b3a' S p t
  have hsum:sumD [tieD t] S=.ok (.int (t.1+t.2)) S:=by
   have:sumD [tieD t] S=.ok (.int (t.1+(t.2+0))) S:=rfl
   rw[this];simp
  have ha':acc.length<16777216:=ha
  by_cases h:p=t.1∨p=t.2
  ·simp[a0p',isNew,slots,a2e',asgCT,asgVs,denTs,denT,denB,den,denL,Res.bind,cmpD,hin,boolR,Res.noErr,onBl,bltD,hsum,opD,subD,hasP,h,ha']
  ·simp[a0p',isNew,slots,a2e',asgCT,asgVs,denTs,denT,denB,den,denL,Res.bind,cmpD,hin,boolR,Res.noErr,onBl,bltD,hsum,opD,subD,hasP,h]
 ·unfold big;omega
def a0q'(m:Int)(ps:List (Int×Int)):List Int:=(a0s' 0 m.toNat).filter fun i=>(mateI ps i).isNone
theorem a9d'(o:Option Int):isNon (optD o)=o.isNone:=by cases o<;>rfl
theorem a5O'{S:Store}(hS:Flat S){m:Int}(h1:1≤m)(h2:m≤8)(ts ps:List (Int×Int)):a1c' [webD m ts,.tup (tiesD ps)] S=.ok (.tup ((a0q' m ps).map D.int)) S:=by
 refine a0y' rfl ?_ rfl hS (a3j' _)
 have hi:idxD (webD m ts) (.int 0) S=.ok (.int m) S:=rfl
 have hr:(-4611686018427387904:Int)≤m∧m<4611686018427387904:=by omega
 simp[a7g',a7f',denSs,denS,denT,den,denL,denI,Res.bind,Res.noErr,onBl,bltD,compI,hi,hr,a1r']
 rw[a0G' (f:=D.int) (p:=fun i=>(mateI ps i).isNone) (e:=D.int)]
 ·simp[Res.noErr,a9A',seqOf,a0q']
 ·intro i hi acc ha
  have ha':acc.length<16777216:=ha
  have hq:=a7y' hS ps i
  have hn:=a9d' (mateI ps i)
  cases e:(mateI ps i).isNone<;>rw[e]at hn<;>simp[a0p',isNew,slots,a2e',asgCT,asgVs,denTs,denT,denB,den,denL,Res.bind,cmpD,isD,boolR,Res.noErr,onBl,a3B',hq,hn,ha']
 ·rw[a0g'];unfold big;omega
theorem a8n'{S:Store}(hS:Flat S){m:Int}(h1:1≤m)(h2:m≤8)(ts:List (Int×Int)){ps:List (Int×Int)}(hl:ps.length≤1000):a1I' [webD m ts,.tup (tiesD ps)] S=.ok (.tup ((a0q' m ps).map D.int)) S:=by
 refine a0y' rfl ?_ rfl hS (a3j' _)
 have hi:idxD (webD m ts) (.int 0) S=.ok (.int m) S:=rfl
 have hr:(-4611686018427387904:Int)≤m∧m<4611686018427387904:=by omega
 simp[a5B',a5A',denSs,denS,denT,den,denL,denI,Res.bind,Res.noErr,onBl,bltD,compI,hi,hr,a1r']
 rw[a0G' (f:=D.int) (p:=fun i=>(mateI ps i).isNone) (e:=D.int)]
 ·simp[Res.noErr,a9A',seqOf,a0q']
 ·intro i hi acc ha
  have ha':acc.length<16777216:=ha
  have hq:=a3X' hS hl i
  have hn:=a9d' (mateI ps i)
  cases e:(mateI ps i).isNone<;>rw[e]at hn<;>simp[a0p',isNew,slots,a2e',asgCT,asgVs,denTs,denT,denB,den,denL,Res.bind,cmpD,isD,boolR,Res.noErr,onBl,a2S',hq,hn,ha']
 ·rw[a0g'];unfold big;omega
theorem b5m'{S:Store}(hS:Flat S)(n:Nat)(i:Int):a0h' (n+1) [.int i,.int i] S=.ok (.bl true) S:=by
 refine a0y' rfl ?_ rfl hS rfl
 have h1:a0t' [.int i,.ty "bool"] S=.ok (.bl false) S:=rfl
 have h2:a0t' [.int i,.ty "int"] S=.ok (.bl true) S:=rfl
 have h3:cmpD .Eq (.int i) (.int i) S=.ok (.bl true) S:=by
  have:cmpD .Eq (.int i) (.int i) S=.ok (.bl (i==i)) S:=rfl
  rw[this];simp
 have h4:cmpD .Is (.int i) .non S=.ok (.bl false) S:=rfl
 simp[a1d',a0P',denSs,denS,denT,den,denL,Res.bind,Res.noErr,onBl,bltD,h1,h2,h3,h4,truD]
theorem b5n'{S:Store}(hS:Flat S)(n:Nat):a0h' (n+1) [.non,.non] S=.ok (.bl true) S:=by
 refine a0y' rfl ?_ rfl hS rfl
 have h4:cmpD .Is .non .non S=.ok (.bl true) S:=rfl
 simp[a1d',a0P',denSs,denS,denT,den,denL,Res.bind,Res.noErr,onBl,bltD,h4,truD]
theorem a9e'{S:Store}{step:D→Rho→Store→Res Fl}{a b:Option D}(hs:∀(i:Int) (x y:Option D),step (.tup [.int i,.int i]) [a,b,x,y] S=.ok (.next [a,b,some (.int i),some (.int i)]) S):
  ∀(ns:List Int) (x y:Option D),∃x' y',forD step (List.zipWith (fun x y=>.tup [x,y]) (ns.map D.int) (ns.map D.int)) [a,b,x,y] S=.ok (.next [a,b,x',y']) S
 | [],x,y=>⟨x,y,rfl⟩
 |n::ns,x,y=>by
  simp only[ZA,List.zipWith_cons_cons]
  unfold forD
  rw[hs]
  exact a9e' hs ns _ _
theorem a4X'{α:Type}{f:α→D}{g:α→List D}{c:Nat}{step:D→List D→Store→Res (List D)}{S:Store}(hg:∀x,(g x).length≤c):∀(xs:List α) (acc:List D),(∀x∈xs,∀acc,acc.length+c≤big→step (f x) acc S=.ok (acc++g x) S)→acc.length+c*xs.length≤big→compD step (xs.map f) acc S=.ok (acc++xs.flatMap g) S
 | [],acc,_,_=>by simp[compD]
 |x::xs,acc,h,hl=>by
  simp only[Zs,Nat.mul_add,Nat.mul_one]at hl
  simp only[ZA]
  unfold compD
  rw[h x Zb acc (by omega)]
  unfold Res.bind
  dsimp only
  rw[a4X' hg xs _ (fun y hy=>h y (Za _ hy)) (by have:=hg x;simp only[Zm];omega)]
  simp
theorem a9f':∀(ns acc:List Int),(acc++ns).Nodup→ns.foldl step_dedup acc=acc++ns
 | [],acc,_=>by simp
 |n::ns,acc,h=>by
  simp only[List.foldl_cons]
  have hn:acc.any (· ==n)=false:=by
   rw[List.any_eq_false]
   intro x hx z
   have:x=n:=by simpa using z
   subst this
   have:=(ZO.mp h).2.2 x hx x Zb
   exact this rfl
  have e:step_dedup acc n=acc++[n]:=by unfold step_dedup;rw[hn];rfl
  rw[e,a9f' ns (acc++[n]) (by rw[Zu];exact h),Zu]
  rfl
theorem a9W'{S:Store}(hS:Flat S){ns:List Int}(hl:ns.length<1000)(h:ns.Nodup):a1P' [.lst (ns.map D.int)] S=.ok (.bl true) S:=by
 refine a0y' rfl ?_ rfl hS rfl
 have h1:a6L' (.lst (ns.map D.int)) S=.ok (.int ns.length) S:=by
  have e1:(ns.map D.int).all (hasTy .int)=true:=by
   rw[ZF]
   intro x hx
   obtain⟨n,_,rfl⟩:=ZC.mp hx
   rfl
  have e2:(ns.map D.int).filterMap asInt=ns:=by
   rw[List.filterMap_map]
   exact List.filterMap_some
  have e3:dedI ns=ns:=by
   unfold dedI
   have:=a9f' ns [] (by simpa using h)
   simpa using this
  show(if(ns.map D.int).all (hasTy .int)=true∧(ns.map D.int).length<1000 then Res.ok (D.int ((dedI ((ns.map D.int).filterMap asInt)).length:Nat)) S else .fail)=_
  rw[if_pos ⟨e1,by simpa using hl⟩,e2,e3]
 have h2:lenD [.lst (ns.map D.int)] S=.ok (.int ns.length) S:=by simp[lenD,seqOf]
 have h3:cmpD .Eq (.int ns.length) (.int ns.length) S=.ok (.bl true) S:=by
  have:cmpD .Eq (.int ns.length) (.int ns.length) S=.ok (.bl ((ns.length:Int)==ns.length)) S:=rfl
  rw[this];simp
 simp[a4K',a4J',denSs,denS,den,denL,Res.bind,Res.noErr,bltD,h1,h2,h3]
def a0B'(ps:List (Int×Int)):List Int:=ps.flatMap fun t=>[t.1,t.2]
theorem b5o'(ps:List (Int×Int)):ps.flatMap (fun t=>[D.int t.1,D.int t.2])=(a0B' ps).map D.int:=by
 unfold a0B'
 rw[List.map_flatMap]
 rfl
theorem a7z'(ps:List (Int×Int)):(a0B' ps).length=2*ps.length:=by
 unfold a0B'
 induction ps with
 |nil=>rfl
 |cons t ts ih=>simp only[List.flatMap_cons,Zm,ih,Zs];simp;omega
theorem a7A'{S:Store}(hS:Flat S){m:Int}{ts ps:List (Int×Int)}(W:Web m ts)(P:Pairing ts ps)(hl:ps.length≤100):a3z' [webD m ts,.tup (tiesD ps)] S=.ok (.bl true) S:=by
 refine a0y' rfl ?_ rfl hS rfl
 have h0:idxD (webD m ts) (.int 0) S=.ok (.int m) S:=rfl
 have h0':idxD (webD m ts) (.int 1) S=.ok (.tup (tiesD ts)) S:=rfl
 have h2:a0t' [.tup (tiesD ps),.ty "tuple"] S=.ok (.bl true) S:=rfl
 have h3:=a5N' hS (show ps.length≤1000 by omega) P.ris
 unfold a7b'
 refine(a0l' (ρ':=[some (webD m ts),some (.tup (tiesD ps))]) (S':=S) (by simp[a7a',denS,denSs,denT,den,denL,Res.bind,Res.noErr,bltD,h2,truD])).trans ?_
 refine a3k' ?_
 simp[denS,den,denL,denI,Res.bind,Res.noErr,onBl,bltD,a1f',compI]
 rw[a3D']
 ·simp only[Res.noErr]
  rw[a6p']
  simp[a2M',h3]
 ·intro z hz acc ha
  obtain⟨t,ht,rfl⟩:=ZC.mp hz
  have hp:=a5M' hS (W.tie t (P.sub t ht))
  have hin:=a7w' S t ts
  rw[Zy (P.sub t ht)]at hin
  have ha':acc.length<16777216:=ha
  simp[a0p',isNew,slots,a2e',asgCT,asgVs,denTs,denB,den,denL,Res.bind,a3N',hp,Res.noErr,h0,h0',cmpD,hin,boolR,onBl,ha']
 ·unfold tiesD big;simp;omega
theorem a5j'{S:Store}(hS:Flat S){m:Int}{ts ps:List (Int×Int)}(W:Web m ts)(P:Pairing ts ps)(hl:ps.length≤100):a1T' [webD m ts,.tup (tiesD ps)] S=.ok (.bl true) S:=by
 refine a0y' rfl ?_ rfl hS rfl
 have h1:=a4W' hS W
 have h3:=a7A' hS W P hl
 have h4:=a9W' hS (ns:=a0B' ps) (by rw[a7z'];omega) P.un
 unfold a4N'
 refine(a0l' (ρ':=[some (webD m ts),some (.tup (tiesD ps))]) (S':=S) (by simp[a4M',denS,den,denL,Res.bind,a1F',h1])).trans ?_
 refine a3k' ?_
 simp[denS,den,denL,denI,Res.bind,Res.noErr,onBl,a2q',a1S',h3,a1f',compI]
 unfold tiesD
 rw[a4X' (f:=tieD) (g:=fun t=>[.int t.1,.int t.2]) (c:=2) (fun x=>by simp)]
 ·rw[b5o']
  simp[Res.noErr,h4]
 ·intro t ht acc ha
  have ha':acc.length+2≤16777216:=ha
  have e:a0p' (.var 0) (tieD t) [none,none]=some [some (tieD t),none]:=rfl
  have e2:a1f' S (tieD t)=some (.items [.int t.1,.int t.2]):=rfl
  simp[e,a0p',isNew,slots,a2e',asgCT,asgVs,denTs,denB,den,denI,Res.bind,Res.noErr,e2,compI,compD,show acc.length<16777216 by omega,show acc.length+1<16777216 by omega]
 ·unfold big;simp;omega
theorem a3l'{S:Store}(hS:Flat S){m:Int}{ts ps:List (Int×Int)}(W:Web m ts)(P:Pairing ts ps)(hl:ps.length≤100):a0A' [webD m ts,.tup (tiesD ps)] S=.ok .non S:=by
 refine b1A' (ρ:=[some (webD m ts),some (.tup (tiesD ps))]) rfl ?_ rfl hS
 simp[a2a',a1Z',denSs,denS,denT,den,denL,Res.bind,a1j',a5j' hS W P hl,truD]
def insI(x:Int×Int):List (Int×Int)→List (Int×Int)
 | []=>[x]
 |y::ys=>if lexlt x y then x::y::ys else y::insI x ys
def sortI(l:List (Int×Int)):List (Int×Int):=l.foldl (fun acc x=>insI x acc) []
theorem ltK_tie(a b:Int×Int):ltK (.seq .int) (tieD a) (tieD b)=decide (lexlt a b):=by
 have e:ltK (.seq .int) (tieD a) (tieD b)=(if decide (a.1<b.1)=true then true else if decide (b.1<a.1)=true then false else if decide (a.2<b.2)=true then true else if decide (b.2<a.2)=true then false else false):=rfl
 rw[e]
 simp only[decide_eq_true_eq]
 by_cases h:lexlt a b
 ·rw[Zy h]
  unfold lexlt at h
  repeat' split
  all_goals first|rfl|omega
 ·rw[Zz h]
  unfold lexlt at h
  repeat' split
  all_goals first|rfl|omega
theorem b1C'(x:Int×Int):∀l:List (Int×Int),insB (ltK (.seq .int)) (tieD x) (tiesD l)=tiesD (insI x l)
 | []=>rfl
 |y::ys=>by
  show(if ltK (.seq .int) (tieD x) (tieD y)=true then tieD x::tieD y::tiesD ys else tieD y::insB (ltK (.seq .int)) (tieD x) (tiesD ys))=tiesD (insI x (y::ys))
  have e:insI x (y::ys)=if lexlt x y then x::y::ys else y::insI x ys:=rfl
  rw[ltK_tie,b1C' x ys,e]
  by_cases h:lexlt x y
  ·rw[Zy h,if_pos rfl,if_pos h];rfl
  ·rw[Zz h,if_neg Z1,if_neg h];rfl
theorem a9g':∀(l acc:List (Int×Int)),(tiesD l).foldl (fun acc x=>insB (ltK (.seq .int)) x acc) (tiesD acc)=tiesD (l.foldl (fun acc x=>insI x acc) acc)
 | [],acc=>rfl
 |x::l,acc=>by
  show(tiesD l).foldl (fun acc x=>insB (ltK (.seq .int)) x acc) (insB (ltK (.seq .int)) (tieD x) (tiesD acc))=_
  rw[b1C',a9g' l]
  rfl
theorem b3b'(l:List (Int×Int)):a2Z' (ltK (.seq .int)) (tiesD l)=tiesD (sortI l):=a9g' l []
theorem a4w'(x:Int×Int):∀l,(insI x l).Perm (x::l)
 | []=>.refl _
 |y::ys=>by
  unfold insI
  split
  ·exact .refl _
  ·exact((a4w' x ys).cons y).trans (.swap x y ys)
theorem a7B':∀(l acc:List (Int×Int)),(l.foldl (fun acc x=>insI x acc) acc).Perm (l++acc)
 | [],acc=>.refl _
 |x::l,acc=>by
  refine(a7B' l (insI x acc)).trans ?_
  exact((a4w' x acc).append_left l).trans List.perm_middle
theorem a0R'(l:List (Int×Int)):(sortI l).Perm l:=by
 have:=a7B' l []
 rw[List.append_nil]at this
 exact this
theorem lex_tot{x y:Int×Int}(h:¬lexlt x y)(n:x≠y):lexlt y x:=by
 unfold lexlt at h⊢
 have:¬(x.1=y.1∧x.2=y.2):=fun z=>n (Prod.ext z.1 z.2)
 omega
theorem b3c'{x y z:Int×Int}(a:lexlt x y)(b:lexlt y z):lexlt x z:=by
 unfold lexlt at*
 omega
theorem a5P'(x:Int×Int):∀l,l.Pairwise lexlt→x∉l→(insI x l).Pairwise lexlt
 | [],_,_=>List.pairwise_singleton _ _
 |y::ys,h,n=>by
  obtain⟨h1,h2⟩:=ZW.mp h
  unfold insI
  by_cases e:lexlt x y
  ·rw[if_pos e]
   refine ZW.mpr ⟨fun z hz=>?_,h⟩
   rcases Zn.mp hz with rfl|hz
   ·exact e
   ·exact b3c' e (h1 z hz)
  ·rw[if_neg e]
   refine ZW.mpr ⟨fun z hz=>?_,a5P' x ys h2 fun z=>n (Za _ z)⟩
   rcases Zn.mp ((a4w' x ys).mem_iff.mp hz)with rfl|hz
   ·exact lex_tot e fun z=>n (by subst z;exact Zb)
   ·exact h1 z hz
theorem a4Y':∀(l acc:List (Int×Int)),acc.Pairwise lexlt→(l++acc).Nodup→(l.foldl (fun acc x=>insI x acc) acc).Pairwise lexlt
 | [],acc,h,_=>h
 |x::l,acc,h,n=>by
  have n':(x::(l++acc)).Nodup:=n
  obtain⟨n1,n2⟩:=ZJ.mp n'
  refine a4Y' l (insI x acc) (a5P' x acc h fun z=>n1 (ZE _ z)) ?_
  exact(((a4w' x acc).append_left l).trans List.perm_middle).nodup_iff.mpr n'
theorem a3m'{l:List (Int×Int)}(h:l.Nodup):(sortI l).Pairwise lexlt:=a4Y' l [] .nil (by simpa using h)
theorem a1Y'{S:Store}{d:D}{l:List (Int×Int)}(hd:seqOf S d=some (tiesD l))(hl:l.length<64):a2Y' false (.seq .int) [d] S=.ok (.lst (tiesD (sortI l))) S:=by
 have e1:(tiesD l).all (hasTy (.seq .int))=true:=by
  rw[ZF]
  intro x hx
  obtain⟨t,_,rfl⟩:=ZC.mp hx
  rfl
 have e2:a3H' (.seq .int) (tiesD l)=true:=by
  have:((tiesD l).all fun d=> !isNil d)=true:=by
   rw[ZF]
   intro x hx
   obtain⟨t,_,rfl⟩:=ZC.mp hx
   rfl
  show(true&&(((tiesD l).all fun d=> !isNil d)||isNil ((tiesD l).headD .non)))=true
  rw[this]
  rfl
 have e3:(tiesD l).length<65536:=by unfold tiesD;rw[Zk];omega
 unfold a2Y'
 simp only[hd]
 rw[if_pos ⟨e1,e3,e2⟩,b3b']
 rfl
theorem a6r'{m:Int}{l:List (Int×Int)}(h1:1≤m)(h2:m≤8)(hn:l.Nodup)(hv:∀t∈l,0≤t.1∧t.1<t.2∧t.2<m)(hl:l.length≤28):Web m (sortI l):=
 ⟨h1,h2,a3m' hn,fun t ht=>hv t ((a0R' l).mem_iff.mp ht),by rw[(a0R' l).length_eq];exact hl⟩
def a3Y'(m:Nat):List (Int×Int):=(a0s' 0 m).flatMap fun i=>(a0s' (i+1) (m-1-i.toNat)).map fun j=>(i,j)
theorem eight{m:Int}(h1:1≤m)(h2:m≤8):m=1∨m=2∨m=3∨m=4∨m=5∨m=6∨m=7∨m=8:=by omega
theorem b3d'{S:Store}{m:Int}(h1:1≤m)(h2:m≤8):denSs a5F' G0 a5E' ([D.int m].map some++List.replicate (a5D'.length-1) none) S=.ok (.ret (.lst (tiesD (a3Y' m.toNat)))) S:=by
 rcases eight h1 h2 with rfl|rfl|rfl|rfl|rfl|rfl|rfl|rfl<;>rfl
theorem a8o'{S:Store}(hS:Flat S){m:Int}(h1:1≤m)(h2:m≤8):a0X' [.int m] S=.ok (.lst (tiesD (a3Y' m.toNat))) S:=
 a0y' rfl (b3d' h1 h2) rfl hS (a1X' _)
theorem a9h'{m:Int}(h1:1≤m)(h2:m≤8):Web m (a3Y' m.toNat):=by
 rcases eight h1 h2 with rfl|rfl|rfl|rfl|rfl|rfl|rfl|rfl<;>exact⟨by decide,by decide,by decide+kernel,by decide+kernel,by decide+kernel⟩
theorem b3R'{m:Int}{ts us:List (Int×Int)}(W:Web m ts)(h:us.Sublist ts):Web m us:=
 ⟨W.lo,W.hi,W.ris.sublist h,fun t ht=>W.tie t (h.subset ht),ZL h.length_le W.few⟩
def Drawn(n:Nat)(S S':Store):Prop:=∃a b:Int,S'=S.set n [.int a,.int b]
theorem Drawn.refl{n:Nat}{S:Store}(h:PenAt S n):Drawn n S S:=by
 obtain⟨a,b,h⟩:=h
 obtain⟨hl,e⟩:=Zh.mp h
 exact⟨a,b,by rw[←e,List.set_getElem_self]⟩
theorem Drawn.trans{n:Nat}{S S1 S2:Store}(a:Drawn n S S1)(b:Drawn n S1 S2):Drawn n S S2:=by
 obtain⟨x,y,rfl⟩:=a
 obtain⟨z,w,rfl⟩:=b
 exact⟨z,w,by rw[List.set_set]⟩
theorem Drawn.flat{n:Nat}{S S':Store}(h:Drawn n S S')(hS:Flat S):Flat S':=by
 obtain⟨a,b,rfl⟩:=h
 exact hS.set rfl
theorem Drawn.pen{n:Nat}{S S':Store}(h:Drawn n S S')(hS:PenAt S n):PenAt S' n:=by
 obtain⟨a,b,rfl⟩:=h
 exact hS.set
theorem Drawn.len{n:Nat}{S S':Store}(h:Drawn n S S'):S'.length=S.length:=by
 obtain⟨a,b,rfl⟩:=h
 simp
theorem a6s'{S:Store}{n:Nat}{m:Int}(hS:Flat S)(hp:PenAt S n)(h0:0<m)(h1:m<1000):∃r S',0≤r∧r<m∧Drawn n S S'∧a0n' [.ref n,.int m] S=.ok (.int r) S':=by
 obtain⟨r,a,b,x,y,e⟩:=draw_ok hS hp h0 h1
 exact⟨r,_,x,y,⟨a,b,rfl⟩,e⟩
theorem a6t'{n:Nat}{step:D→List D→Store→Res (List D)}{f:Int×Int→D}:∀(ts:List (Int×Int)) (acc:List D) (S:Store),Flat S→PenAt S n→acc.length+ts.length≤1000→
  (∀t∈ts,∀acc S,Flat S→PenAt S n→acc.length≤1000→∃k S',Drawn n S S'∧step (f t) acc S=.ok (if k=true then acc++[f t]else acc) S')→
  ∃(us:List (Int×Int)) (S':Store),us.Sublist ts∧Drawn n S S'∧compD step (ts.map f) acc S=.ok (acc++us.map f) S'
 | [],acc,S,hS,hp,_,_=>⟨[],S,.slnil,.refl hp,by simp[compD]⟩
 |t::ts,acc,S,hS,hp,hl,h=>by
  simp only[Zs]at hl
  obtain⟨k,S1,d1,e1⟩:=h t Zb acc S hS hp (by omega)
  simp only[ZA]
  unfold compD
  rw[e1]
  cases k with
  |true=>
   obtain⟨us,S2,s2,d2,e2⟩:=a6t' ts (acc++[f t]) S1 (d1.flat hS) (d1.pen hp) (by simp;omega) fun u hu=>h u (Za _ hu)
   exact⟨t::us,S2,s2.cons_cons t,d1.trans d2,by
    show compD step (ts.map f) (acc++[f t]) S1=_
    rw[e2];simp⟩
  |false=>
   obtain⟨us,S2,s2,d2,e2⟩:=a6t' ts acc S1 (d1.flat hS) (d1.pen hp) (by omega) fun u hu=>h u (Za _ hu)
   exact⟨us,S2,s2.cons t,d1.trans d2,by
    show compD step (ts.map f) acc S1=_
    rw[e2]⟩
theorem a9i'{n:Nat}{step:D→List D→Store→Res (List D)}:∀(k:Nat) (lo:Int) (acc:List D) (S:Store),1≤lo→lo+k≤100→Flat S→PenAt S n→acc.length+k≤1000→
  (∀p:Int,1≤p→p<100→∀acc S,Flat S→PenAt S n→acc.length≤1000→∃r S',0≤r∧r<p∧Drawn n S S'∧step (.int p) acc S=.ok (acc++[tieD (r,p)]) S')→
  ∃(us:List (Int×Int)) (S':Store),us.map (·.2)=a0s' lo k∧(∀t∈us,0≤t.1∧t.1<t.2∧lo≤t.2∧t.2<lo+k)∧Drawn n S S'∧compD step ((a0s' lo k).map D.int) acc S=.ok (acc++tiesD us) S'
 |0,lo,acc,S,_,_,hS,hp,_,_=>⟨[],S,rfl,fun t h=>(by cases h),.refl hp,by simp[compD,a0s',tiesD]⟩
 |k+1,lo,acc,S,h1,h2,hS,hp,hl,h=>by
  obtain⟨r,S1,r0,r1,d1,e1⟩:=h lo h1 (by omega) acc S hS hp (by omega)
  obtain⟨us,S2,s2,v2,d2,e2⟩:=a9i' k (lo+1) (acc++[tieD (r,lo)]) S1 (by omega) (by omega) (d1.flat hS) (d1.pen hp) (by simp;omega) h
  refine⟨(r,lo)::us,S2,?_,fun t ht=>?_,d1.trans d2,?_⟩
  ·simp only[ZA,s2];rfl
  ·rcases Zn.mp ht with rfl|ht
   ·dsimp only;omega
   ·have:=v2 t ht;omega
  ·show compD step (D.int lo::(a0s' (lo+1) k).map D.int) acc S=_
   unfold compD
   rw[e1]
   show compD step _ (acc++[tieD (r,lo)]) S1=_
   rw[e2]
   simp[tiesD]
theorem a0H'{lo:Int}{n:Nat}:(a0s' lo n).Nodup:=by
 induction n generalizing lo with
 |zero=>exact List.nodup_nil
 |succ n ih=>
  unfold a0s'
  refine ZJ.mpr ⟨fun h=>?_,ih⟩
  have:=a0Q' h
  omega
end K21
end
section
namespace K21
open PySem PySem.Spec PyProof.Rows L2 Py
theorem a5k'{Φ:FT}{Γ:Str→Option D}{c:CE}{a b:List CS}{ρ:Rho}{S S1:Store}{k:Bool}(h:denT Φ Γ c ρ S=.ok k S1):denS Φ Γ (.ite c a b) ρ S=if k=true then denSs Φ Γ a ρ S1 else denSs Φ Γ b ρ S1:=by
 rw[denS,h];rfl
theorem a2A'{Φ:FT}{Γ:Str→Option D}{N:List Str}{fr:List (Option Nat)}{tg:CT}{it:CE}{ifs:List CE}{body:CE}{ρ:Rho}{S S1 S5:Store}{its:Its}{ys:List D}(hI:denI Φ Γ it ρ S=.ok its S1)
  (hc:compI (fun x acc S2=>match a0p' tg x (fr.map fun j=>j.bind fun j=>(ρ[j]?).join)with
    |some ρ'=>(denTs Φ Γ ifs ρ' S2).bind fun k S3=>if k=true then denB Φ Γ body ρ' acc S3 else .ok acc S3
    |none=>.fail) its [] S1=.ok ys S5):den Φ Γ (.comp false N fr tg it ifs body) ρ S=.ok (.lst ys) S5:=by
 rw[den,hI]
 exact Eq.trans (congrArg (fun r=>Res.bind (Res.noErr r) (fun ys S5=>if false=true then Res.ok (D.ref S5.length) (S5++[ys])else Res.ok (.lst ys) S5)) hc) rfl
section
variable {Φ:FT}{Γ:Str→Option D}{ρ:Rho}{S S1 S2 S3:Store}{d d2 r x y:D}{e a b:CE}
theorem den_v{i:Nat}(h:ρ[i]?=some (some d)):den Φ Γ (.var i) ρ S=.ok d S:=by rw[den,h]
theorem a4Z'{k:Blt}(h:den Φ Γ e ρ S=.ok d S1)(hb:bltD k [d] S1=.ok r S2):den Φ Γ (.blt k [e]) ρ S=.ok r S2:=by simp[den,denL,h,Res.bind,hb,Res.noErr]
theorem a5a'(h1:den Φ Γ a ρ S=.ok x S1)(h2:den Φ Γ b ρ S1=.ok y S2):den Φ Γ (.tup [a,b]) ρ S=.ok (.tup [x,y]) S2:=by simp[den,denL,h1,h2,Res.bind]
theorem a5l'(h:den Φ Γ e ρ S=.ok d S1):denS Φ Γ (.ret e) ρ S=.ok (.ret d) S1:=by rw[denS,h];rfl
end
theorem a2K'{Φ:FT}{Γ:Str→Option D}{ρ:Rho}{S:Store}{w m k j:Int}(h2:ρ[2]?=some (some (.int m)))(h3:ρ[3]?=some (some (.int w))):denT Φ Γ (.band (.cmp .Eq (.var 3) (.lit (.int k))) (.cmp .Gt (.var 2) (.lit (.int j)))) ρ S=.ok (decide (w=k∧j<m)) S:=by
 have e1:cmpD .Eq (.int w) (.int k) S=.ok (.bl (w==k)) S:=rfl
 have e2:cmpD .Gt (.int m) (.int j) S=.ok (.bl (decide (j<m))) S:=rfl
 by_cases h:w=k
 ·subst h
  have h':(w==w)=true:=by simp
  rw[h']at e1
  simp[denT,den,Res.bind,Res.noErr,onBl,h2,h3,e1,e2]
 ·have h':(w==k)=false:=by simpa using h
  rw[h']at e1
  simp[denT,den,Res.bind,Res.noErr,onBl,h2,h3,e1,e2,h]
theorem b1D'{Φ:FT}{Γ:Str→Option D}{ρ:Rho}{S:Store}{w k:Int}(h3:ρ[3]?=some (some (.int w))):denT Φ Γ (.cmp .Eq (.var 3) (.lit (.int k))) ρ S=.ok (decide (w=k)) S:=by
 have e1:cmpD .Eq (.int w) (.int k) S=.ok (.bl (w==k)) S:=rfl
 have e2:(w==k)=decide (w=k):=rfl
 simp[denT,den,Res.bind,Res.noErr,onBl,h3,e1,e2]
theorem a6u'{Φ:FT}{Γ:Str→Option D}{c:CE}{a:List CS}{cs:List CS}{ρ:Rho}{S:Store}{P:Prop} [Decidable P] (h:denT Φ Γ c ρ S=.ok (decide P) S)(hn:¬P):denSs Φ Γ (.ite c a []::cs) ρ S=denSs Φ Γ cs ρ S:=
 a0l' (by rw[a5k' h,Zz hn,if_neg Z1,denSs])
theorem a6v'{Φ:FT}{Γ:Str→Option D}{c:CE}{a:List CS}{cs:List CS}{ρ:Rho}{S S':Store}{d:D}{P:Prop} [Decidable P] (h:denT Φ Γ c ρ S=.ok (decide P) S)(hn:P)(ha:denSs Φ Γ a ρ S=.ok (.ret d) S'):denSs Φ Γ (.ite c a []::cs) ρ S=.ok (.ret d) S':=
 a3k' (by rw[a5k' h,Zy hn,if_pos rfl,ha])
theorem b5p'{S:Store}{r:Int}(h0:0≤r)(h1:r<12):∃v,0≤v∧v<8∧idxD (.lst [.int 0,.int 0,.int 1,.int 0,.int 2,.int 1,.int 3,.int 4,.int 5,.int 6,.int 7,.int 0]) (.int r) S=.ok (.int v) S:=by
 have:r=0∨r=1∨r=2∨r=3∨r=4∨r=5∨r=6∨r=7∨r=8∨r=9∨r=10∨r=11:=by omega
 rcases this with rfl|rfl|rfl|rfl|rfl|rfl|rfl|rfl|rfl|rfl|rfl|rfl<;>exact⟨_,by decide,by decide,rfl⟩
theorem b3e'{S:Store}{r:Int}(h0:0≤r)(h1:r<5):∃v:Int,idxD (.lst [.int 2,.int 3,.int 4,.int 6,.int 8]) (.int r) S=.ok (.int v) S:=by
 have:r=0∨r=1∨r=2∨r=3∨r=4:=by omega
 rcases this with rfl|rfl|rfl|rfl|rfl<;>exact⟨_,rfl⟩
def ringI(m:Nat):List (Int×Int):=(a0s' 0 (m-1)).map (fun k=>(k,k+1))++[(0,(m:Int)-1)]
def ring2I(m:Nat):List (Int×Int):=[(0,1),(0,2),(1,2)]++((a0s' 3 (m-4)).map (fun k=>(k,k+1))++[(3,(m:Int)-1),(2,3)])
theorem web_eq{S:Store}{n:Nat}(hS:Flat S)(hp:PenAt S n):∃m ts S',Web m ts∧Drawn n S S'∧a2I' [.ref n,.int 8] S=.ok (webD m ts) S':=by
 suffices h:∃m ts S',Web m ts∧Drawn n S S'∧denSs a0L' G0 a6l' [some (.ref n),some (.int 8),none,none,none,none,none] S=.ok (.ret (webD m ts)) S' by
  obtain⟨m,ts,S',W,d,e⟩:=h
  exact⟨m,ts,S',W,d,a0y' rfl e d.len (d.flat hS) (b3P' m ts)⟩
 obtain⟨r,S1,r0,r1,d1,e1⟩:=a6s' hS hp (m:=12) (by decide) (by decide)
 have hS1:=d1.flat hS
 have hp1:=d1.pen hp
 obtain⟨v,v0,v1,ev⟩:=b5p' (S:=S1) r0 r1
 obtain⟨w,S2,w0,w1,d2,e2⟩:=a6s' hS1 hp1 (m:=9) (by decide) (by decide)
 have hS2:=d2.flat hS1
 have hp2:=d2.pen hp1
 have d12:=d1.trans d2
 have hm:∃m:Int,1≤m∧m≤8∧1+8-1-v%8=m:=⟨8-v,by omega,by omega,by omega⟩
 obtain⟨m,m0,m1,em⟩:=hm
 unfold a6l'
 rw[a0K' (d:=.int m) (S':=S1) (by
  simp[den,denL,Res.bind,Res.noErr,a0o',e1,ev,opD,addD,subD,modD]
  omega)]
 rw[a0K' (d:=.int w) (S':=S2) (by simp[den,denL,Res.bind,Res.noErr,a0o',e2])]
 simp only[List.set_cons_succ,List.set_cons_zero]
 by_cases c1:w=0∧2<m
 ·refine⟨m,sortI (ringI m.toNat),S2,?_,d12,?_⟩
  ·have:m=3∨m=4∨m=5∨m=6∨m=7∨m=8:=by omega
   rcases this with rfl|rfl|rfl|rfl|rfl|rfl<;>exact a6r' (by decide) (by decide) (by decide+kernel) (by decide+kernel) (by decide+kernel)
  ·refine a6v' (a2K' rfl rfl) c1 ?_
   have:m=3∨m=4∨m=5∨m=6∨m=7∨m=8:=by omega
   rcases this with rfl|rfl|rfl|rfl|rfl|rfl<;>rfl
 rw[a6u' (a2K' rfl rfl) c1]
 by_cases c2:w=1∧5<m
 ·refine⟨m,sortI (ring2I m.toNat),S2,?_,d12,?_⟩
  ·have:m=6∨m=7∨m=8:=by omega
   rcases this with rfl|rfl|rfl<;>exact a6r' (by decide) (by decide) (by decide+kernel) (by decide+kernel) (by decide+kernel)
  ·refine a6v' (a2K' rfl rfl) c2 ?_
   have:m=6∨m=7∨m=8:=by omega
   rcases this with rfl|rfl|rfl<;>rfl
 rw[a6u' (a2K' rfl rfl) c2]
 have hpw:=a9h' m0 m1
 by_cases c3:w=2∧2<m
 ·obtain⟨q,S3,q0,q1,d3,e3⟩:=a6s' hS2 hp2 (m:=2) (by decide) (by decide)
  have hS3:=d3.flat hS2
  refine⟨m,(a3Y' m.toNat).filter (fun t=>decide (t.1<1+q∧1+q≤t.2)),S3,b3R' hpw ZU,d12.trans d3,?_⟩
  refine a6v' (a2K' rfl rfl) c3 ?_
  rw[a0K' (d:=.int (1+q)) (S':=S3) (by simp[den,denL,Res.bind,Res.noErr,a0o',e3,opD,addD])]
  refine a3k' ?_
  simp[denS,den,denL,denI,Res.bind,Res.noErr,onBl,bltD,compI,a1q',a8o' hS3 m0 m1,a1f']
  unfold tiesD
  rw[a0G' (f:=tieD) (e:=tieD) (p:=fun t=>decide (t.1<1+q∧1+q≤t.2))]
  ·simp[Res.noErr,a9A',seqOf,webD,tiesD]
  ·intro t ht acc ha
   have ha':acc.length<16777216:=ha
   have x0:idxD (tieD t) (.int 0) S3=.ok (.int t.1) S3:=rfl
   have x1:idxD (tieD t) (.int 1) S3=.ok (.int t.2) S3:=rfl
   have x2:cmpD .Lt (.int t.1) (.int (1+q)) S3=.ok (.bl (decide (t.1<1+q))) S3:=rfl
   have x3:cmpD .LtE (.int (1+q)) (.int t.2) S3=.ok (.bl (decide (1+q≤t.2))) S3:=rfl
   by_cases y1:t.1<1+q<;>by_cases y2:1+q≤t.2<;>simp[a0p',isNew,slots,a2e',asgCT,asgVs,denTs,denT,denB,den,Res.bind,Res.noErr,onBl,x0,x1,x2,x3,y1,y2,ha']
  ·have:=hpw.few;unfold big;omega
 rw[a6u' (a2K' rfl rfl) c3]
 by_cases c4:w=3
 ·obtain⟨us,S3,s3,v3,d3,e3⟩:=a9i' (n:=n) (step:=fun x acc S2=>match a0p' (.var 0) x [none,some (.ref n)]with
    |some ρ'=>(denTs a0L' G0 [] ρ' S2).bind fun k S3=>if k=true then denB a0L' G0 (.emit (.tup [.call "_law_draw" [.var 1,.var 0],.var 0])) ρ' acc S3 else .ok acc S3
    |none=>.fail) (m-1).toNat 1 [] S2 (by decide) (by omega) hS2 hp2 (by simp;omega) (fun p p0 p1 acc S hS hp ha=>by
     obtain⟨r,S',r0,r1,d,e⟩:=a6s' hS hp (m:=p) (by omega) (by omega)
     refine⟨r,S',r0,r1,d,?_⟩
     have ha':acc.length<16777216:=by omega
     simp[a0p',isNew,slots,a2e',asgCT,asgVs,denTs,denB,den,denL,Res.bind,a0o',e,tieD,ha'])
  have hl:us.length=(m-1).toNat:=by
   have:=congrArg List.length s3
   simpa[a0g']using this
  have hn:us.Nodup:=by
   have h:(us.map (·.2)).Nodup:=by rw[s3];exact a0H'
   exact(List.pairwise_map.mp h).imp fun z e=>z (by rw[e])
  refine⟨m,sortI us,S3,a6r' m0 m1 hn (fun t ht=>by have:=v3 t ht;omega) (by omega),d12.trans d3,?_⟩
  refine a6v' (b1D' rfl) c4 (a3k' ?_)
  have hr:denI a0L' G0 (.range [.lit (.int 1),.var 2]) [some (.ref n),some (.int 8),some (.int m),some (.int w),none,none,none] S2=.ok (.items (a1A' 1 (m-1).toNat)) S2:=by
   simp[denI,denL,den,Res.bind]
   omega
  have hc:den a0L' G0 (.comp false ["_law_place","_law_pen_here"] [none,some 0] (.var 0) (.range [.lit (.int 1),.var 2]) [] (.emit (.tup [.call "_law_draw" [.var 1,.var 0],.var 0]))) [some (.ref n),some (.int 8),some (.int m),some (.int w),none,none,none] S2=.ok (.lst (tiesD us)) S3:=by
   rw[a1r']at hr
   exact a2A' hr e3
  have hsrt:=a1Y' (S:=S3) (d:=.lst (tiesD us)) (l:=us) rfl (by omega)
  exact a5l' (a5a' (den_v rfl) (a4Z' (a4Z' hc hsrt) rfl))
 rw[a6u' (b1D' rfl) c4]
 obtain⟨q,S3,q0,q1,d3,e3⟩:=a6s' hS2 hp2 (m:=5) (by decide) (by decide)
 have hS3:=d3.flat hS2
 have hp3:=d3.pen hp2
 obtain⟨o,eo⟩:=b3e' (S:=S3) q0 q1
 rw[a0K' (d:=.int o) (S':=S3) (by simp[den,denL,Res.bind,Res.noErr,a0o',e3,eo])]
 simp only[List.set_cons_succ,List.set_cons_zero]
 obtain⟨us,S4,s4,d4,e4⟩:=a6t' (n:=n) (f:=tieD) (step:=fun x acc S2=>match a0p' (.var 0) x [none,some (.ref n),some (.int o)]with
    |some ρ'=>(denTs a0L' G0 [.cmp .Lt (.call "_law_draw" [.var 1,.lit (.int 8)]) (.var 2)] ρ' S2).bind fun k S3=>if k=true then denB a0L' G0 (.emit (.var 0)) ρ' acc S3 else .ok acc S3
    |none=>.fail) (a3Y' m.toNat) [] S3 hS3 hp3 (by have:=hpw.few;simp;omega) (fun t ht acc S hS hp ha=>by
     obtain⟨r,S',r0,r1,d,e⟩:=a6s' hS hp (m:=8) (by decide) (by decide)
     refine⟨decide (r<o),S',d,?_⟩
     have x2:cmpD .Lt (.int r) (.int o) S'=.ok (.bl (decide (r<o))) S':=rfl
     have ha':acc.length<16777216:=by omega
     by_cases y:r<o<;>simp[a0p',isNew,slots,a2e',asgCT,asgVs,denTs,denT,denB,den,denL,Res.bind,Res.noErr,onBl,a0o',e,x2,y,ha'])
 refine⟨m,us,S4,b3R' hpw s4,(d12.trans d3).trans d4,a3k' ?_⟩
 have hc:den a0L' G0 (.comp false ["_law_tie","_law_pen_here","_law_often"] [none,some 0,some 6] (.var 0) (.seq (.call "_law_pairs" [.var 2])) [.cmp .Lt (.call "_law_draw" [.var 1,.lit (.int 8)]) (.var 2)] (.emit (.var 0))) [some (.ref n),some (.int 8),some (.int m),some (.int w),none,none,some (.int o)] S3=.ok (.lst (tiesD us)) S4:=by
  have hr:denI a0L' G0 (.seq (.call "_law_pairs" [.var 2])) [some (.ref n),some (.int 8),some (.int m),some (.int w),none,none,some (.int o)] S3=.ok (.items ((a3Y' m.toNat).map tieD)) S3:=by
   simp[denI,denL,den,Res.bind,a1q',a8o' hS3 m0 m1,a1f',tiesD]
  exact a2A' hr e4
 exact a5l' (a5a' (den_v rfl) (a4Z' hc rfl))
end K21
end
section
namespace K21
open PySem PySem.Spec PyProof.Rows L2 Py
section
variable {S:Store}{A B:List D}
theorem box0:(S++[A,B])[S.length]?=some A:=by rw[Zv (Zj _)];simp
theorem box1:(S++[A,B])[S.length+1]?=some B:=by rw[Zv (by omega)];simp
theorem set0{X:List D}:(S++[A,B]).set S.length X=S++[X,B]:=by rw[List.set_append_right _ _ (Zj _)];simp
theorem set1{X:List D}:(S++[A,B]).set (S.length+1) X=S++[A,X]:=by rw[List.set_append_right _ _ (by omega)];simp
theorem flat2(h:Flat S)(ha:lowL 0 A=true)(hb:lowL 0 B=true):Flat (S++[A,B]):=by
 have:=(h.snoc ha).snoc hb
 simpa using this
theorem pen2{n:Nat}(h:PenAt S n):PenAt (S++[A,B]) n:=by
 obtain⟨a,b,h⟩:=h
 exact⟨a,b,by rw[Zo (Zh.mp h).1];exact h⟩
theorem draw2{n:Nat}{m:Int}(hS:Flat S)(hp:PenAt S n)(ha:lowL 0 A=true)(hb:lowL 0 B=true)(h0:0<m)(h1:m<1000):∃r S',0≤r∧r<m∧Drawn n S S'∧a0n' [.ref n,.int m] (S++[A,B])=.ok (.int r) (S'++[A,B]):=by
 obtain⟨r,T,r0,r1,⟨a,b,rfl⟩,e⟩:=a6s' (flat2 hS ha hb) (pen2 hp) h0 h1
 obtain⟨x,y,h⟩:=hp
 refine⟨r,S.set n [.int a,.int b],r0,r1,⟨a,b,rfl⟩,?_⟩
 rw[e,List.set_append_left _ _ (Zh.mp h).1]
end
theorem a7C':∀(l:List (Int×Int)) (k:Nat),(tiesD l).eraseIdx k=tiesD (l.eraseIdx k)
 | [],k=>by simp[tiesD]
 |t::l,0=>rfl
 |t::l,k+1=>by
  show tieD t::(tiesD l).eraseIdx k=tieD t::tiesD (l.eraseIdx k)
  rw[a7C' l k]
theorem a6w'(l:List (Int×Int)):(tiesD l).length=l.length:=by unfold tiesD;simp
theorem a9j'{step:D→List D→Store→Res (List D)}{S:Store}{k:Nat}{xs:List D}(hk:S[k]?=some xs)(hs:∀x∈xs,∀acc,acc.length<big→step x acc S=.ok (acc++[.bl true]) S∨step x acc S=.ok (acc++[.bl false]) S):
  ∀(f i:Nat) (acc:List D),xs.length<f+i→i≤xs.length→compB step (a1D' k) f i acc S=compD step (xs.drop i) acc S∨big≤acc.length+(xs.length-i)
 |0,i,acc,h1,h2=>absurd h1 (by omega)
 |f+1,i,acc,h1,h2=>by
  unfold compB
  have hg:a1D' k S i=some xs[i]? :=by unfold a1D';rw[hk];rfl
  rw[hg]
  by_cases hi:i<xs.length
  ·rw[Ze hi,ZZ hi]
   by_cases hb:acc.length<big
   ·dsimp only
    unfold compD
    rcases hs xs[i] (Z3 hi) acc hb with e|e<;>rw[e]<;>dsimp only[Res.bind]
    all_goals
     rcases a9j' hk hs f (i+1) (acc++[_]) (by omega) (by omega)with z|z
     ·exact .inl z
     ·right;simp at z;omega
   ·right;omega
  ·rw[List.getElem?_eq_none (by omega),List.drop_eq_nil_of_le (by omega)]
   exact .inl rfl
def fits(t:Int×Int)(fs:List (Int×Int)):Bool:=fs.all fun o=> !hasP t.1 o&& !hasP t.2 o
def pgOne:CE:=.comp false ["_law_one","_law_tie"] [none,some 4] (.var 0) (.seq (.var 3)) [] (.emit (.band (.cmp .NotIn (.idx (.var 1) (.lit (.int 0))) (.var 0)) (.cmp .NotIn (.idx (.var 1) (.lit (.int 1))) (.var 0))))
def a9X':List CS:=[.asg 4 (.meth .pop (.var 2) [.call "_law_draw" [.var 0,.blt .len [.var 2]]]),.ite (.band (.blt .all [pgOne]) (.cmp .Gt (.call "_law_draw" [.var 0,.lit (.int 4)]) (.lit (.int 0)))) [.expr (.meth .append (.var 3) [.var 4])] []]
def b1E':CE:=.cmp .NotEq (.var 2) (.lst false [])
theorem one_den{S:Store}{n:Nat}{w:D}{t:Int×Int}{fs:List (Int×Int)}{A:List D}(hl:fs.length≤100):den a0c' G0 pgOne [some (.ref n),some w,some (.ref S.length),some (.ref (S.length+1)),some (tieD t)] (S++[A,tiesD fs])=.ok (.lst (fs.map fun o=>D.bl (!hasP t.1 o&& !hasP t.2 o))) (S++[A,tiesD fs]):=by
 have hst:∀(x:Int×Int) (acc:List D),acc.length<big→(fun x acc S2=>match a0p' (.var 0) x (([none,some 4]:List (Option Nat)).map fun j=>j.bind fun j=>(([some (.ref n),some w,some (.ref S.length),some (.ref (S.length+1)),some (tieD t)]:Rho)[j]?).join)with
    |some ρ'=>(denTs a0c' G0 [] ρ' S2).bind fun k S3=>if k=true then denB a0c' G0 (.emit (.band (.cmp .NotIn (.idx (.var 1) (.lit (.int 0))) (.var 0)) (.cmp .NotIn (.idx (.var 1) (.lit (.int 1))) (.var 0)))) ρ' acc S3 else .ok acc S3
    |none=>.fail) (tieD x) acc (S++[A,tiesD fs])=.ok (acc++[.bl (!hasP t.1 x&& !hasP t.2 x)]) (S++[A,tiesD fs]):=by
  intro x acc ha
  generalize S++[A,tiesD fs]=T
  have ha':acc.length<16777216:=ha
  have x0:idxD (tieD t) (.int 0) T=.ok (.int t.1) T:=rfl
  have x1:idxD (tieD t) (.int 1) T=.ok (.int t.2) T:=rfl
  have i0:inD (.int t.1) (tieD x) T=some (hasP t.1 x):=b3a' T t.1 x
  have i1:inD (.int t.2) (tieD x) T=some (hasP t.2 x):=b3a' T t.2 x
  cases y1:hasP t.1 x<;>cases y2:hasP t.2 x<;>rw[y1]at i0<;>rw[y2]at i1<;>simp[a0p',isNew,slots,a2e',asgCT,asgVs,denTs,denB,den,Res.bind,Res.noErr,onBl,x0,x1,cmpD,i0,i1,boolR,ha']
 refine a2A' (its:=.live ((tiesD fs).length+1) (a1D' (S.length+1))) (S1:=S++[A,tiesD fs]) ?_ ?_
 ·simp only[denI,den,Res.bind,Zi,Zf,a1f',box1]
  rfl
 ·rcases a9j' (step:=fun x acc S2=>match a0p' (.var 0) x (([none,some 4]:List (Option Nat)).map fun j=>j.bind fun j=>(([some (.ref n),some w,some (.ref S.length),some (.ref (S.length+1)),some (tieD t)]:Rho)[j]?).join)with
    |some ρ'=>(denTs a0c' G0 [] ρ' S2).bind fun k S3=>if k=true then denB a0c' G0 (.emit (.band (.cmp .NotIn (.idx (.var 1) (.lit (.int 0))) (.var 0)) (.cmp .NotIn (.idx (.var 1) (.lit (.int 1))) (.var 0)))) ρ' acc S3 else .ok acc S3
    |none=>.fail) (box1 (S:=S) (A:=A) (B:=tiesD fs)) (fun x hx acc ha=>by
     obtain⟨o,ho,rfl⟩:=ZC.mp hx
     have:=hst o acc ha
     cases y:(!hasP t.1 o&& !hasP t.2 o)<;>rw[y]at this
     ·exact .inr this
     ·exact .inl this) ((tiesD fs).length+1) 0 [] (by omega) (by omega)with z|z
  ·rw[List.drop_zero]at z
   refine Eq.trans z ?_
   refine Eq.trans (a0G' (xs:=fs) (f:=tieD) (p:=fun _=>true) (e:=fun o=>D.bl (!hasP t.1 o&& !hasP t.2 o)) (fun x hx acc ha=>Eq.trans (hst x acc ha) rfl) (by unfold big;omega)) ?_
   rw[List.filter_eq_self.mpr (fun _ _=>rfl)]
  ·rw[a6w']at z
   unfold big at z
   simp at z
   omega
theorem b5q'{S:Store}{n:Nat}{w:D}{x:Option D}{ls:List (Int×Int)}{B:List D}:denT a0c' G0 b1E' [some (.ref n),some w,some (.ref S.length),some (.ref (S.length+1)),x] (S++[tiesD ls,B])=.ok (!ls.isEmpty) (S++[tiesD ls,B]):=by
 have e:eqF (S++[tiesD ls,B]) deep (.ref S.length) (.lst [])=some ls.isEmpty:=by
  show(match((S++[tiesD ls,B])[S.length]?).map Sh.lst,some (Sh.lst [])with
   |some x,some y=>eqS (eqF (S++[tiesD ls,B]) 39) x y
   |_,_=>none)=_
  rw[box0]
  cases ls with
  |nil=>rfl
  |cons t ls=>rfl
 simp[b1E',denT,den,denL,Res.bind,Res.noErr,onBl,cmpD,e,boolR]
theorem pop_den{S:Store}{n:Nat}{w:D}{x:Option D}{ls fs:List (Int×Int)}(hS:Flat S)(hp:PenAt S n)(hl:ls.length≤100)(hne:ls≠[]):∃t k S',t∈ls∧k<ls.length∧Drawn n S S'∧
  den a0c' G0 (.meth .pop (.var 2) [.call "_law_draw" [.var 0,.blt .len [.var 2]]]) [some (.ref n),some w,some (.ref S.length),some (.ref (S.length+1)),x] (S++[tiesD ls,tiesD fs])=.ok (tieD t) (S'++[tiesD (ls.eraseIdx k),tiesD fs]):=by
 have hpos:0<ls.length:=List.length_pos_iff.mpr hne
 obtain⟨r,S',r0,r1,d,e⟩:=draw2 (A:=tiesD ls) (B:=tiesD fs) hS hp (a1X' _) (a1X' _) (m:=ls.length) (by omega) (by omega)
 have hlen:lenD [.ref S.length] (S++[tiesD ls,tiesD fs])=.ok (.int ls.length) (S++[tiesD ls,tiesD fs]):=by
  simp only[lenD,seqOf,box0,a6w']
 have hk:r.toNat<ls.length:=by omega
 have hpop:b3A' (.ref S.length) [.int r] (S'++[tiesD ls,tiesD fs])=.ok (tieD ls[r.toNat]) (S'++[tiesD (ls.eraseIdx r.toNat),tiesD fs]):=by
  show b0F' (.ref S.length) [.int r] (S'++[tiesD ls,tiesD fs])=_
  unfold b0F'
  rw[←d.len]
  simp only[box0,a6w']
  have hi:ixN ls.length r=some r.toNat:=by unfold ixN;rw[if_pos r0,if_pos r1]
  have hg:(tiesD ls)[r.toNat]?=some (tieD ls[r.toNat]):=by unfold tiesD;rw[ZN,Ze hk];rfl
  rw[hi]
  simp only[hg]
  rw[if_pos (by unfold big;omega),set0,a7C']
 refine⟨ls[r.toNat],r.toNat,S',Z3 hk,hk,d,?_⟩
 simp[den,denL,Res.bind,Res.noErr,bltD,hlen,a0T',e,methD,hpop]
theorem all_den{S:Store}{fs:List (Int×Int)}{g:Int×Int→Bool}:allD [.lst (fs.map fun o=>D.bl (g o))] S=.ok (.bl (fs.all g)) S:=by
 unfold allD
 simp only[seqOf]
 rw[List.map_map]
 rw[show allO (fs.map (asB∘fun o=>D.bl (g o)))=some (fs.all g)from allO_map]
 rfl
theorem b5r'{S:Store}{n:Nat}{w:D}{x:Option D}{ls fs:List (Int×Int)}(hS:Flat S)(hp:PenAt S n)(hl:ls.length≤100)(hf:fs.length≤100)(hne:ls≠[]):
  ∃t k fs' S',t∈ls∧k<ls.length∧Drawn n S S'∧(fs'=fs∨(fits t fs=true∧fs'=fs++[t]))∧
  denSs a0c' G0 a9X' [some (.ref n),some w,some (.ref S.length),some (.ref (S.length+1)),x] (S++[tiesD ls,tiesD fs])=.ok (.next [some (.ref n),some w,some (.ref S.length),some (.ref (S.length+1)),some (tieD t)]) (S'++[tiesD (ls.eraseIdx k),tiesD fs']):=by
 obtain⟨t,k,S1,ht,hk,d1,e1⟩:=pop_den (w:=w) (x:=x) (fs:=fs) hS hp hl hne
 have hS1:=d1.flat hS
 have hp1:=d1.pen hp
 have hq:=one_den (S:=S1) (n:=n) (w:=w) (t:=t) (fs:=fs) (A:=tiesD (ls.eraseIdx k)) hf
 rw[d1.len]at hq
 have ha:denT a0c' G0 (.blt .all [pgOne]) [some (.ref n),some w,some (.ref S.length),some (.ref (S.length+1)),some (tieD t)] (S1++[tiesD (ls.eraseIdx k),tiesD fs])=.ok (fits t fs) (S1++[tiesD (ls.eraseIdx k),tiesD fs]):=by
  have hall:bltD .all [.lst (fs.map fun o=>D.bl (!hasP t.1 o&& !hasP t.2 o))] (S1++[tiesD (ls.eraseIdx k),tiesD fs])=.ok (.bl (fits t fs)) (S1++[tiesD (ls.eraseIdx k),tiesD fs]):=all_den
  revert hq
  generalize pgOne=E
  intro hq
  simp[denT,denL,hq,Res.bind,Res.noErr,hall,truD]
 unfold a9X'
 rw[a0K' e1]
 simp only[List.set_cons_succ,List.set_cons_zero]
 by_cases hfit:fits t fs=true
 ·obtain⟨r,S2,r0,r1,d2,e2⟩:=draw2 (A:=tiesD (ls.eraseIdx k)) (B:=tiesD fs) hS1 hp1 (a1X' _) (a1X' _) (m:=4) (by decide) (by decide)
  have hgt:cmpD .Gt (.int r) (.int 0) (S2++[tiesD (ls.eraseIdx k),tiesD fs])=.ok (.bl (decide (0<r))) (S2++[tiesD (ls.eraseIdx k),tiesD fs]):=rfl
  have hc:denT a0c' G0 (.band (.blt .all [pgOne]) (.cmp .Gt (.call "_law_draw" [.var 0,.lit (.int 4)]) (.lit (.int 0)))) [some (.ref n),some w,some (.ref S.length),some (.ref (S.length+1)),some (tieD t)] (S1++[tiesD (ls.eraseIdx k),tiesD fs])=.ok (decide (0<r)) (S2++[tiesD (ls.eraseIdx k),tiesD fs]):=by
   rw[denT,ha,hfit]
   simp[denT,den,denL,Res.bind,Res.noErr,onBl,a0T',e2,hgt]
  by_cases hr:0<r
  ·refine⟨t,k,fs++[t],S2,ht,hk,d1.trans d2,.inr ⟨hfit,rfl⟩,?_⟩
   rw[Zy hr]at hc
   have happ:a4B' (.ref (S.length+1)) [tieD t] (S2++[tiesD (ls.eraseIdx k),tiesD fs])=.ok .non (S2++[tiesD (ls.eraseIdx k),tiesD (fs++[t])]):=by
    have hL:=(d1.trans d2).len
    unfold a4B'
    rw[←hL]
    simp only[box1,a6w']
    rw[if_pos (by unfold big;omega),set1]
    unfold tiesD
    simp
   refine a0l' ?_
   rw[a5k' hc,if_pos rfl]
   simp[denSs,denS,den,denL,Res.bind,Res.noErr,methD,happ]
  ·refine⟨t,k,fs,S2,ht,hk,d1.trans d2,.inl rfl,?_⟩
   rw[Zz hr]at hc
   refine a0l' ?_
   rw[a5k' hc,if_neg Z1,denSs]
 ·refine⟨t,k,fs,S1,ht,hk,d1,.inl rfl,?_⟩
  have hfit':fits t fs=false:=by simpa using hfit
  have hc:denT a0c' G0 (.band (.blt .all [pgOne]) (.cmp .Gt (.call "_law_draw" [.var 0,.lit (.int 4)]) (.lit (.int 0)))) [some (.ref n),some w,some (.ref S.length),some (.ref (S.length+1)),some (tieD t)] (S1++[tiesD (ls.eraseIdx k),tiesD fs])=.ok false (S1++[tiesD (ls.eraseIdx k),tiesD fs]):=by
   rw[denT,ha,hfit']
   simp[Res.bind]
  refine a0l' ?_
  rw[a5k' hc,if_neg Z1,denSs]
end K21
end
section
namespace K21
open PySem PySem.Spec PyProof.Rows L2 Py
structure Found (ts fs:List (Int×Int)):Prop where
 sub:∀t∈fs,t∈ts
 un:(a0B' fs).Nodup
theorem a9Y'(fs:List (Int×Int))(t:Int×Int):a0B' (fs++[t])=a0B' fs++[t.1,t.2]:=by
 unfold a0B'
 simp
theorem b1F'{fs:List (Int×Int)}{p:Int}(h:p∈a0B' fs):∃o∈fs,p=o.1∨p=o.2:=by
 unfold a0B' at h
 obtain⟨o,ho,h⟩:=Z7.mp h
 exact⟨o,ho,by simpa using h⟩
theorem Found.add{m:Int}{ts fs:List (Int×Int)}{t:Int×Int}(W:Web m ts)(F:Found ts fs)(ht:t∈ts)(h:fits t fs=true):Found ts (fs++[t]):=by
 have hf:∀o∈fs,¬(t.1=o.1∨t.1=o.2)∧¬(t.2=o.1∨t.2=o.2):=fun o ho=>by
  have:=ZF.mp h o ho
  simp only[Zr,Bool.not_eq_true',hasP,decide_eq_false_iff_not]at this
  exact this
 refine⟨fun u hu=>?_,?_⟩
 ·rcases ZB.mp hu with z|z
  ·exact F.sub u z
  ·have:u=t:=by simpa using z
   subst this;exact ht
 ·rw[a9Y',ZO]
  have:=W.tie t ht
  refine⟨F.un,?_,fun a ha b hb=>?_⟩
  ·simp;omega
  ·obtain⟨o,ho,e⟩:=b1F' ha
   obtain⟨h1,h2⟩:=hf o ho
   simp at hb
   intro z
   subst z
   rcases hb with rfl|rfl
   ·exact h1 e
   ·exact h2 e
theorem Found.length{ts fs:List (Int×Int)}{m:Int}(W:Web m ts)(F:Found ts fs):fs.length≤28:=by
 have hn:fs.Nodup:=by
  have h:=F.un
  clear F
  induction fs with
  |nil=>exact List.nodup_nil
  |cons t fs ih=>
   have e:a0B' (t::fs)=[t.1,t.2]++a0B' fs:=rfl
   rw[e]at h
   obtain⟨h1,h2,h3⟩:=ZO.mp h
   refine ZJ.mpr ⟨fun z=>?_,ih h2⟩
   exact h3 t.1 (by simp) t.1 (by unfold a0B';exact Z7.mpr ⟨t,z,by simp⟩) rfl
 exact ZL (hn.length_le_of_subset fun t ht=>F.sub t ht) W.few
theorem Found.nodup{ts fs:List (Int×Int)}(F:Found ts fs):fs.Nodup:=by
 have h:=F.un
 clear F
 induction fs with
 |nil=>exact List.nodup_nil
 |cons t fs ih=>
  have e:a0B' (t::fs)=[t.1,t.2]++a0B' fs:=rfl
  rw[e]at h
  obtain⟨h1,h2,h3⟩:=ZO.mp h
  refine ZJ.mpr ⟨fun z=>?_,ih h2⟩
  exact h3 t.1 (by simp) t.1 (by unfold a0B';exact Z7.mpr ⟨t,z,by simp⟩) rfl
theorem Found.pairing{ts fs:List (Int×Int)}(F:Found ts fs):Pairing ts (sortI fs):=
 ⟨a3m' F.nodup,fun t ht=>F.sub t ((a0R' fs).mem_iff.mp ht),(((a0R' fs).flatMap_right _).nodup_iff).mpr F.un⟩
theorem a9k'{n:Nat}{w:D}{m:Int}{ts:List (Int×Int)}(W:Web m ts):∀(f:Nat) (S:Store) (x:Option D) (ls fs:List (Int×Int)),ls.length<f→ls.length≤100→(∀t∈ls,t∈ts)→Found ts fs→Flat S→PenAt S n→
  ∃x' fs' S',Found ts fs'∧Drawn n S S'∧a2f' (denT a0c' G0 b1E') (denSs a0c' G0 a9X') f [some (.ref n),some w,some (.ref S.length),some (.ref (S.length+1)),x] (S++[tiesD ls,tiesD fs])=.ok (.next [some (.ref n),some w,some (.ref S.length),some (.ref (S.length+1)),x']) (S'++[[],tiesD fs'])
 |0,S,x,ls,fs,h,_,_,_,_,_=>absurd h (by omega)
 |f+1,S,x,ls,fs,h,hl,hsub,F,hS,hp=>by
  unfold a2f'
  rw[b5q']
  cases ls with
  |nil=>exact⟨x,fs,S,F,.refl hp,rfl⟩
  |cons t0 ls=>
   obtain⟨t,k,fs',S1,ht,hk,d1,hfs,e1⟩:=b5r' (w:=w) (x:=x) (ls:=t0::ls) (fs:=fs) hS hp hl (by have:=F.length W;omega) (by simp)
   have F':Found ts fs':=by
    rcases hfs with rfl| ⟨h1,rfl⟩
    ·exact F
    ·exact F.add W (hsub t ht) h1
   have hlen:((t0::ls).eraseIdx k).length=ls.length:=by rw[List.length_eraseIdx_of_lt hk];rfl
   simp only[Zs]at h hl
   obtain⟨x',fs2,S2,F2,d2,e2⟩:=a9k' W f S1 (some (tieD t)) ((t0::ls).eraseIdx k) fs' (by omega) (by omega) (fun u hu=>hsub u (List.mem_of_mem_eraseIdx hu)) F' (d1.flat hS) (d1.pen hp)
   refine⟨x',fs2,S2,F2,d1.trans d2,?_⟩
   show(Res.bind (denSs a0c' G0 a9X' [some (.ref n),some w,some (.ref S.length),some (.ref (S.length+1)),x] (S++[tiesD (t0::ls),tiesD fs])) fun f' S'=>match f' with
    | .next ρ'=>a2f' (denT a0c' G0 b1E') (denSs a0c' G0 a9X') f ρ' S'
    | .cont ρ'=>a2f' (denT a0c' G0 b1E') (denSs a0c' G0 a9X') f ρ' S'
    | .brk ρ'=>.ok (.next ρ') S'
    | .ret d=>.ok (.ret d) S')=_
   rw[e1]
   rw[d1.len]at e2
   exact e2
theorem b1G'{S:Store}{n:Nat}{m:Int}{ts:List (Int×Int)}(W:Web m ts)(hS:Flat S)(hp:PenAt S n):∃ps S',Pairing ts ps∧ps.length≤28∧Drawn n S S'∧a0M' [.ref n,webD m ts] S=.ok (.tup (tiesD ps)) S':=by
 obtain⟨x',fs,S1,F,d,e⟩:=a9k' (n:=n) (w:=webD m ts) W 40 S none ts [] (by have:=W.few;omega) (by have:=W.few;omega) (fun t h=>h) ⟨fun t h=>(by cases h),List.nodup_nil⟩ hS hp
 have hl:=F.length W
 refine⟨sortI fs,S1,F.pairing,by rw[(a0R' fs).length_eq];exact hl,d,?_⟩
 have hd:denSs a0c' G0 a1e' [some (.ref n),some (webD m ts),none,none,none] S=.ok (.ret (.tup (tiesD (sortI fs)))) (S1++[[],tiesD fs]):=by
  unfold a1e'
  have x1:idxD (webD m ts) (.int 1) S=.ok (.tup (tiesD ts)) S:=rfl
  have l1:listD true [.tup (tiesD ts)] S=.ok (.ref S.length) (S++[tiesD ts]):=rfl
  rw[a0K' (d:=.ref S.length) (S':=S++[tiesD ts]) (by simp[den,denL,Res.bind,Res.noErr,bltD,x1,l1])]
  rw[a0K' (d:=.ref (S.length+1)) (S':=S++[tiesD ts,[]]) (by simp[den,denL,Res.bind])]
  simp only[List.set_cons_succ,List.set_cons_zero]
  refine(a0l' (ρ':=[some (.ref n),some (webD m ts),some (.ref S.length),some (.ref (S.length+1)),x']) (S':=S1++[[],tiesD fs]) ?_).trans ?_
  ·rw[denS];exact e
  ·refine a3k' (a5l' (a4Z' (a4Z' (den_v rfl) (a1Y' (l:=fs) ?_ (by omega))) rfl))
   rw[←d.len]
   exact box1
 show runD a0c' G0 a1e' a2y'.length 2 [.ref n,webD m ts] S=_
 unfold runD
 rw[if_pos (show [D.ref n,webD m ts].length=2 from rfl)]
 rw[show denSs a0c' G0 a1e' ([D.ref n,webD m ts].map some++List.replicate (a2y'.length-2) none) S=_ from hd]
 have ht:(S1++[[],tiesD fs]).take S.length=S1:=by rw[←d.len];simp
 have:=a2J' (k:=S.length) (d:=.tup (tiesD (sortI fs))) (S':=S1++[[],tiesD fs]) (by rw[ht];exact d.flat hS) (a1X' _)
 rw[ht]at this
 exact this
end K21
end
section
namespace Pc
theorem a7D':∀{l k:List Int},l.Pairwise (· < ·)→k.Pairwise (· < ·)→(∀p,p∈l↔p∈k)→l=k
 | [],[],_,_,_=>rfl
 | [],y::k,_,_,h=>absurd ((h y).mpr Zb) (by simp)
 |x::l,[],_,_,h=>absurd ((h x).mp Zb) (by simp)
 |x::l,y::k,hl,hk,h=>by
  obtain⟨l1,l2⟩:=ZW.mp hl
  obtain⟨k1,k2⟩:=ZW.mp hk
  have e:x=y:=by
   rcases Zn.mp ((h x).mp Zb)with z|z
   ·exact z
   ·rcases Zn.mp ((h y).mpr Zb)with w|w
    ·exact w.symm
    ·have:=k1 x z
     have:=l1 y w
     omega
  subst e
  rw[a7D' l2 k2 fun p=>⟨fun hp=>?_,fun hp=>?_⟩]
  ·rcases Zn.mp ((h p).mp (Za _ hp))with z|z
   ·have:=l1 p hp;omega
   ·exact z
  ·rcases Zn.mp ((h p).mpr (Za _ hp))with z|z
   ·have:=k1 p hp;omega
   ·exact z
end Pc
end
section
namespace Pc
open K21
theorem a7E'{lo:Int}{n:Nat}:(a0s' lo n).Pairwise (· < ·):=by
 induction n generalizing lo with
 |zero=>exact .nil
 |succ n ih=>
  unfold a0s'
  exact ZW.mpr ⟨fun x hx=>by have:=a0Q' hx;omega,ih⟩
theorem b1H'{lo x:Int}{n:Nat}:x∈a0s' lo n↔lo≤x∧x<lo+n:=by
 refine⟨a0Q',fun h=>?_⟩
 induction n generalizing lo with
 |zero=>omega
 |succ n ih=>
  unfold a0s'
  by_cases e:x=lo
  ·subst e;exact Zb
  ·exact Za _ (ih (by omega))
section
variable {m:Nat}{so:List Int}{ts:List (Int×Int)}
end
end Pc
end
section
namespace K21
open PySem PySem.Spec PyProof.Rows L2 Py
theorem b3f'{S:Store}(hS:Flat S)(a b:Int):a6j' [.int a,.int b] S=.ok (tieD (min a b,max a b)) S:=by
 refine a0y' rfl ?_ rfl hS rfl
 have h1:a5Y' [.int a,.int b] S=.ok (.int (min a b)) S:=by
  simp[a5Y',minD]
  split<;>omega
 have h2:a8J' [.int a,.int b] S=.ok (.int (max a b)) S:=by
  simp[a8J',maxD]
  split<;>omega
 simp[b1t',b1s',denSs,denS,den,denL,Res.bind,Res.noErr,bltD,h1,h2,tieD]
def tied(ts:List (Int×Int))(a b:Int):Bool:=decide ((min a b,max a b)∈ts)
theorem a5Q'{S:Store}(hS:Flat S)(m:Int)(ts:List (Int×Int))(a b:Int):a1b' [webD m ts,.int a,.int b] S=.ok (.bl (tied ts a b)) S:=by
 refine a0y' rfl ?_ rfl hS rfl
 have h1:=b3f' hS a b
 have h2:idxD (webD m ts) (.int 1) S=.ok (.tup (tiesD ts)) S:=rfl
 have h3:=K21.a7w' S (min a b,max a b) ts
 simp[a7d',a7c',denSs,denS,den,denL,Res.bind,Res.noErr,a3O',h1,h2,cmpD,h3,boolR,tied]
def nearI(m:Int)(ts:List (Int×Int))(p:Int):List Int:=(K21.a0s' 0 m.toNat).filter fun q=>tied ts p q
def insN(x:Int):List Int→List Int
 | []=>[x]
 |y::ys=>if x<y then x::y::ys else y::insN x ys
def sortN(l:List Int):List Int:=l.foldl (fun acc x=>insN x acc) []
theorem b1I'(x:Int):∀l:List Int,insB (ltK .int) (.int x) (l.map D.int)=(insN x l).map D.int
 | []=>rfl
 |y::ys=>by
  have e:insN x (y::ys)=if x<y then x::y::ys else y::insN x ys:=rfl
  show(if decide (x<y)=true then D.int x::D.int y::ys.map D.int else D.int y::insB (ltK .int) (.int x) (ys.map D.int))=_
  rw[b1I' x ys,e]
  by_cases h:x<y
  ·rw[Zy h,if_pos rfl,if_pos h];rfl
  ·rw[Zz h,if_neg Z1,if_neg h];rfl
theorem a7F':∀(l acc:List Int),(l.map D.int).foldl (fun acc x=>insB (ltK .int) x acc) (acc.map D.int)=(l.foldl (fun acc x=>insN x acc) acc).map D.int
 | [],acc=>rfl
 |x::l,acc=>by
  show(l.map D.int).foldl (fun acc x=>insB (ltK .int) x acc) (insB (ltK .int) (.int x) (acc.map D.int))=_
  rw[b1I',a7F' l]
  rfl
theorem a4x'(x:Int):∀l,(insN x l).Perm (x::l)
 | []=>.refl _
 |y::ys=>by
  unfold insN
  split
  ·exact .refl _
  ·exact((a4x' x ys).cons y).trans (.swap x y ys)
theorem a5R':∀(l acc:List Int),(l.foldl (fun acc x=>insN x acc) acc).Perm (l++acc)
 | [],acc=>.refl _
 |x::l,acc=>(a5R' l (insN x acc)).trans (((a4x' x acc).append_left l).trans List.perm_middle)
theorem b1J'(l:List Int):(sortN l).Perm l:=by
 have:=a5R' l []
 rw[List.append_nil]at this
 exact this
theorem a5S'(x:Int):∀l,l.Pairwise (· < ·)→x∉l→(insN x l).Pairwise (· < ·)
 | [],_,_=>List.pairwise_singleton _ _
 |y::ys,h,n=>by
  obtain⟨h1,h2⟩:=ZW.mp h
  unfold insN
  by_cases e:x<y
  ·rw[if_pos e]
   refine ZW.mpr ⟨fun z hz=>?_,h⟩
   rcases Zn.mp hz with rfl|hz
   ·exact e
   ·have:=h1 z hz;omega
  ·rw[if_neg e]
   refine ZW.mpr ⟨fun z hz=>?_,a5S' x ys h2 fun z=>n (Za _ z)⟩
   rcases Zn.mp ((a4x' x ys).mem_iff.mp hz)with rfl|hz
   ·have:z≠y:=fun q=>n (by subst q;exact Zb)
    omega
   ·exact h1 z hz
theorem a4l':∀(l acc:List Int),acc.Pairwise (· < ·)→(l++acc).Nodup→(l.foldl (fun acc x=>insN x acc) acc).Pairwise (· < ·)
 | [],acc,h,_=>h
 |x::l,acc,h,n=>by
  have n':(x::(l++acc)).Nodup:=n
  obtain⟨n1,n2⟩:=ZJ.mp n'
  refine a4l' l (insN x acc) (a5S' x acc h fun z=>n1 (ZE _ z)) ?_
  exact(((a4x' x acc).append_left l).trans List.perm_middle).nodup_iff.mpr n'
theorem a8p'{l:List Int}(h:l.Nodup):(sortN l).Pairwise (· < ·):=a4l' l [] .nil (by simpa using h)
theorem a3n'{S:Store}{d:D}{l:List Int}(hd:seqOf S d=some (l.map D.int))(hl:l.length<64):a2Y' false .int [d] S=.ok (.lst ((sortN l).map D.int)) S:=by
 have e1:(l.map D.int).all (hasTy .int)=true:=by
  rw[ZF]
  intro x hx
  obtain⟨t,_,rfl⟩:=ZC.mp hx
  rfl
 unfold a2Y'
 simp only[hd]
 rw[if_pos ⟨e1,by simp;omega,rfl⟩,show a2Z' (ltK .int) (l.map D.int)=(sortN l).map D.int from a7F' l []]
 rfl
theorem a9Z'{S:Store}(hS:Flat S){m:Int}{ts:List (Int×Int)}(hl:ts.length≤28)(p:Int):a2s' [webD m ts,.int p] S=.ok (.lst ((sortN ((ts.filter (K21.hasP p)).map fun t=>t.1+t.2-p)).map D.int)) S:=by
 refine a0y' rfl ?_ rfl hS (K21.a3j' _)
 have h1:idxD (webD m ts) (.int 1) S=.ok (.tup (tiesD ts)) S:=rfl
 have hL:=ZS (K21.hasP p) ts
 simp[a7l',a7k',denSs,denS,denT,den,denL,denI,Res.bind,Res.noErr,onBl,bltD,compI,h1,a1f']
 unfold tiesD
 rw[a0G' (f:=tieD) (p:=K21.hasP p) (e:=fun t=>.int (t.1+t.2-p))]
 ·have h2:=a3n' (S:=S) (d:=.lst ((ts.filter (K21.hasP p)).map fun t=>D.int (t.1+t.2-p))) (l:=(ts.filter (K21.hasP p)).map fun t=>t.1+t.2-p) (by simp[seqOf]) (by simp;omega)
  simp[Res.noErr,h2]
 ·intro t ht acc ha
  have ha':acc.length<16777216:=ha
  have hin:inD (.int p) (.tup [.int t.1,.int t.2]) S=some (decide (p=t.1∨p=t.2)):=K21.b3a' S p t
  have ha1:a0p' (.tup [.var 0,.var 1]) (tieD t) [none,none,some (.int p)]=some [some (.int t.1),some (.int t.2),some (.int p)]:=rfl
  by_cases h:p=t.1∨p=t.2
  ·simp[ha1,denTs,denT,denB,den,denL,Res.bind,cmpD,hin,boolR,Res.noErr,onBl,opD,addD,subD,K21.hasP,h,ha']
  ·simp[ha1,denTs,denT,denB,den,denL,Res.bind,cmpD,hin,boolR,Res.noErr,onBl,opD,addD,subD,K21.hasP,h]
 ·unfold big;omega
theorem b3g'{m:Int}{ts:List (Int×Int)}(W:Web m ts){p:Int}(hp:0≤p∧p<m):nearI m ts p=sortN ((ts.filter (K21.hasP p)).map fun t=>t.1+t.2-p):=by
 have hnd:ts.Nodup:=W.ris.imp fun{a b} h e=>by subst e;unfold lexlt at h;omega
 refine Pc.a7D' (Pc.a7E'.sublist ZU) (a8p' ?_) fun q=>?_
 ·have h1:(ts.filter (K21.hasP p)).Nodup:=hnd.sublist ZU
  have h2:(ts.filter (K21.hasP p)).Pairwise fun a b=>a.1+a.2-p≠b.1+b.2-p:=by
   refine List.Pairwise.imp_of_mem (fun{a b} ha hb hne e=>hne ?_) h1
   have a1:=(ZG.mp ha).2
   have b1:=(ZG.mp hb).2
   have a2:=W.tie a (ZG.mp ha).1
   have b2:=W.tie b (ZG.mp hb).1
   simp only[K21.hasP,decide_eq_true_eq]at a1 b1
   exact Prod.ext (by omega) (by omega)
  exact List.pairwise_map.mpr h2
 ·rw[(b1J' _).mem_iff,ZC]
  unfold nearI
  rw[ZG,Pc.b1H']
  have w1:=W.lo
  refine⟨fun⟨hr,ht⟩=>?_,fun⟨t,ht,e⟩=>?_⟩
  ·have ht':(min p q,max p q)∈ts:=by simpa[tied]using ht
   refine⟨(min p q,max p q),ZG.mpr ⟨ht',?_⟩,?_⟩
   ·simp only[K21.hasP,decide_eq_true_eq];omega
   ·dsimp only;omega
  ·obtain⟨h1,h2⟩:=ZG.mp ht
   have h3:=W.tie t h1
   simp only[K21.hasP,decide_eq_true_eq]at h2
   refine⟨by omega,?_⟩
   have:(min p q,max p q)=t:=Prod.ext (by dsimp only;omega) (by dsimp only;omega)
   simp[tied,this,h1]
theorem b3S'{S:Store}{d:D}{l:List Int}(hd:seqOf S d=some (l.map D.int))(q:Int):inD (.int q) d S=some (decide (q∈l)):=by
 unfold inD
 simp only[hd]
 rw[List.map_map]
 have e2:((fun y=>eqF S deep y (.int q))∘D.int)=fun u=>some (u==q):=by
  funext u
  exact K21.b1z' S 39 u q
 rw[e2,K21.b1y']
 congr 1
 clear e2 hd
 induction l with
 |nil=>rfl
 |cons u us ih=>
  rw[List.any_cons,ih]
  by_cases h:u=q
  ·subst h;simp
  ·have h':¬q=u:=fun z=>h z.symm
   have:(u==q)=false:=by simpa using h
   rw[this]
   by_cases h2:q∈us<;>simp[h',h2]
end K21
end
section
namespace K21
open PySem PySem.Spec PyProof.Rows L2 Py
open Pc
theorem boxE{S:Store}{A:List D}:(S++[A])[S.length]?=some A:=by rw[Zv (Zj _)];simp
theorem setE{S:Store}{A B:List D}:(S++[A]).set S.length B=S++[B]:=by rw[List.set_append_right _ _ (Zj _)];simp
theorem run_box{Φ:FT}{Γ:Str→Option D}{body:List CS}{n np:Nat}{ds:List D}{S:Store}{A:List D}(hl:ds.length=np)(h:denSs Φ Γ body (ds.map some++List.replicate (n-np) none) S=.ok (.ret (.ref S.length)) (S++[A]))(hS:Flat S)(hA:lowL 0 A=true):runD Φ Γ body n np ds S=.ok (.ref S.length) (S++[A]):=by
 unfold runD
 rw[if_pos hl,h]
 show trim S.length (.ref S.length) _=_
 unfold trim
 rw[List.take_left' rfl,if_pos hS.all,if_neg (by unfold lowD;simp)]
 simp only[boxE]
 rw[if_pos ⟨K21.a1W' A hA,Zj _⟩]
theorem b1K':∀n,a0h' n=K21.a0h' n
 |0=>rfl
 |n+1=>by
  show runD (tbl [("_law_same",a0h' n)]) G0 a1d' a0P'.length 2=runD (tbl [("_law_same",K21.a0h' n)]) K21.G0 K21.a1d' K21.a0P'.length 2
  rw[b1K' n]
  all_goals rfl
theorem a5T'{S:Store}(hS:Flat S)(n:Nat)(ns:List Int):a0h' (n+2) [.tup (ns.map D.int),.tup (ns.map D.int)] S=.ok (.bl true) S:=by
 show runD (tbl [("_law_same",a0h' (n+1))]) G0 a1d' a0P'.length 2 _ S=_
 refine a0y' rfl ?_ rfl hS rfl
 generalize hd:D.tup (ns.map D.int)=d
 have h1:a0t' [d,.ty "bool"] S=.ok (.bl false) S:=by subst hd;rfl
 have h2:a0t' [d,.ty "int"] S=.ok (.bl false) S:=by subst hd;rfl
 have h3:a0t' [d,.ty "str"] S=.ok (.bl false) S:=by subst hd;rfl
 have h4:cmpD .Is d .non S=.ok (.bl false) S:=by subst hd;rfl
 have h5:a0t' [d,.ty "list"] S=.ok (.bl false) S:=by subst hd;rfl
 have h6:a0t' [d,.ty "tuple"] S=.ok (.bl true) S:=by subst hd;rfl
 have h7:cmpD .NotEq (.bl false) (.bl false) S=.ok (.bl false) S:=rfl
 have h8:cmpD .NotEq (.bl true) (.bl true) S=.ok (.bl false) S:=rfl
 have h9:lenD [d] S=.ok (.int ns.length) S:=by subst hd;simp[lenD,seqOf]
 have h10:cmpD .NotEq (.int ns.length) (.int ns.length) S=.ok (.bl false) S:=by
  have:cmpD .NotEq (.int ns.length) (.int ns.length) S=.ok (.bl (!((ns.length:Int)==ns.length))) S:=rfl
  rw[this];simp
 have h11:zipOf S d d=some (.items (List.zipWith (fun x y=>.tup [x,y]) (ns.map D.int) (ns.map D.int))):=by subst hd;rfl
 unfold a1d'
 refine(a0l' (ρ':=[some d,some d,none,none]) (S':=S) (by simp[a0P',denS,denSs,denT,den,denL,Res.bind,Res.noErr,onBl,bltD,h4])).trans ?_
 refine(a0l' (ρ':=[some d,some d,none,none]) (S':=S) (by simp[denS,denSs,denT,den,denL,Res.bind,Res.noErr,onBl,bltD,h1,truD])).trans ?_
 refine(a0l' (ρ':=[some d,some d,none,none]) (S':=S) (by simp[denS,denSs,denT,den,denL,Res.bind,Res.noErr,onBl,bltD,h2,truD])).trans ?_
 refine(a0l' (ρ':=[some d,some d,none,none]) (S':=S) (by simp[denS,denSs,denT,den,denL,Res.bind,Res.noErr,onBl,bltD,h3,truD])).trans ?_
 refine(a0l' (ρ':=[some d,some d,none,none]) (S':=S) (by simp[denS,denSs,denT,den,denL,Res.bind,Res.noErr,onBl,bltD,h5,h6,h7,h8,truD])).trans ?_
 refine(a0l' (ρ':=[some d,some d,none,none]) (S':=S) (by simp[denS,denSs,denT,den,denL,Res.bind,Res.noErr,onBl,bltD,h9,h10,truD])).trans ?_
 obtain⟨x',y',e⟩:=K21.a9e' (S:=S) (a:=some d) (b:=some d) (step:=fun x ρ S=>match asgCT (.tup [.var 2,.var 3]) x ρ with
   |some ρ'=>denSs (tbl [("_law_same",a0h' (n+1))]) G0 [.ite (.bnot (.call "_law_same" [.var 2,.var 3])) [.ret (.lit (.bl false))] []] ρ' S
   |none=>.fail) (fun i x y=>by
    have hq:a0h' (n+1) [.int i,.int i] S=.ok (.bl true) S:=by
     rw[b1K'];exact K21.b5m' hS n i
    simp[asgCT,asgVs,denSs,denS,denT,den,denL,Res.bind,tbl,hq,truD]) ns none none
 have hI:denI (tbl [("_law_same",a0h' (n+1))]) G0 (.zip [.var 0,.var 1]) [some d,some d,none,none] S=.ok (.items (List.zipWith (fun x y=>.tup [x,y]) (ns.map D.int) (ns.map D.int))) S:=by
  simp only[denI,denL,den,Res.bind,Zf,Zi,h11]
 refine(a0l' (ρ':=[some d,some d,x',y']) (S':=S) ((a6q' hI).trans e)).trans ?_
 rfl
theorem b1L'{step:D→Rho→Store→Res Fl}(J:Rho→Store→Prop):∀(xs:List D),(∀x∈xs,∀ρ S,J ρ S→∃ρ' S',J ρ' S'∧step x ρ S=.ok (.next ρ') S')→∀ρ S,J ρ S→∃ρ' S',J ρ' S'∧forD step xs ρ S=.ok (.next ρ') S'
 | [],_,ρ,S,j=>⟨ρ,S,j,rfl⟩
 |x::xs,h,ρ,S,j=>by
  obtain⟨ρ1,S1,j1,e1⟩:=h x Zb ρ S j
  obtain⟨ρ2,S2,j2,e2⟩:=b1L' J xs (fun y hy=>h y (Za _ hy)) ρ1 S1 j1
  refine⟨ρ2,S2,j2,?_⟩
  unfold forD
  rw[e1]
  exact e2
theorem b1M'{T:Store}{A:List D}{d:D}(hA:A.length<big):a4B' (.ref T.length) [d] (T++[A])=.ok .non (T++[A++[d]]):=by
 unfold a4B'
 simp only[boxE]
 rw[if_pos hA,setE]
end K21
end
section
namespace K21
open PySem PySem.Spec PyProof.Rows L2 Py
theorem a3Z':∀{l:List D},lowL 0 l=true↔∀x∈l,lowD 0 x=true
 | []=>by simp[lowL]
 |x::l=>by
  unfold lowL
  rw[Zr,a3Z' (l:=l)]
  simp
end K21
end
section
namespace K21
open PySem PySem.Spec PyProof.Rows L2 Py
section
variable {T A:List (List D)}{m a u b:Int}{ts c:List Ti}
end
end K21
end
section
namespace K21
open PySem PySem.Spec PyProof.Rows L2 Py
theorem forB_eq{step:D→Rho→Store→Res Fl}{T:Store}{k:Nat}{xs:List D}(hk:T[k]?=some xs)(J:Nat→Rho→Store→Prop)(hJ:∀i ρ S,J i ρ S→∃A,S=T++[A])(hs:∀i x,xs[i]?=some x→∀ρ S,J i ρ S→∃ρ' S',J (i+1) ρ' S'∧step x ρ S=.ok (.next ρ') S'):
  ∀n i ρ S,i+n=xs.length→J i ρ S→forB step (a1D' k) (n+1) i ρ S=forD step (xs.drop i) ρ S:=by
 have hlt:=(Zh.mp hk).1
 have hg:∀i ρ S,J i ρ S→a1D' k S i=some xs[i]? :=fun i ρ S j=>by
  obtain⟨A,rfl⟩:=hJ i ρ S j
  unfold a1D'
  rw[Zo hlt,hk]
  rfl
 intro n
 induction n with
 |zero=>
  intro i ρ S h j
  unfold forB
  rw[hg i ρ S j,List.getElem?_eq_none (by omega),List.drop_eq_nil_of_le (by omega)]
  rfl
 |succ n ih=>
  intro i ρ S h j
  have hx:xs[i]?=some xs[i]:=Ze (by omega)
  unfold forB
  rw[hg i ρ S j,hx,ZZ (by omega)]
  obtain⟨ρ',S',j',e⟩:=hs i _ hx ρ S j
  unfold forD
  dsimp only
  rw[e]
  exact ih (i+1) ρ' S' (by omega) j'
end K21
end
section
namespace K21
open PySem PySem.Spec PyProof.Rows L2 Py
section
variable {T:Store}{m u a r:Int}{ts:List Ti}{ks:List Nat}
end
end K21
end
section
namespace K21
open PySem PySem.Spec PyProof.Rows L2 Py
section
variable {T:Store}{m u:Int}{ts:List Ti}{ks:List Nat}
end
end K21
end
section
namespace K21
open PySem PySem.Spec PyProof.Rows L2 Py
theorem a8q'{α:Type}{f e:α→D}{p:α→Bool}{step:D→List D→Store→Res (List D)}{S:Store}{k:Nat}{xs:List α}(hk:S[k]?=some (xs.map f))(hs:∀x∈xs,∀acc,acc.length<big→step (f x) acc S=.ok (if p x=true then acc++[e x]else acc) S):∀n i acc,i+n=xs.length→acc.length+n≤big→compB step (a1D' k) (n+1) i acc S=.ok (acc++((xs.drop i).filter p).map e) S:=by
 have hg:∀i,a1D' k S i=some ((xs.map f)[i]?):=fun i=>by unfold a1D';rw[hk];rfl
 intro n
 induction n with
 |zero=>
  intro i acc h _
  unfold compB
  rw[hg,List.getElem?_eq_none (by rw[Zk];omega),List.drop_eq_nil_of_le (by omega)]
  simp
 |succ n ih=>
  intro i acc h hb
  have hx:(xs.map f)[i]?=some (f xs[i]):=by rw[ZN,Ze (by omega)];rfl
  unfold compB
  rw[hg,hx,ZZ (by omega)]
  dsimp only
  rw[hs _ (Z3 _) acc (by omega)]
  refine(ih (i+1) (if p xs[i]=true then acc++[e xs[i]]else acc) (by omega) (by split<;>(try simp only[Zm,Zs,Z6])<;>omega)).trans ?_
  cases z:p xs[i]
  ·rw[List.filter_cons_of_neg (by rw[z];decide)];rfl
  ·rw[List.filter_cons_of_pos z,ZA,if_pos rfl,Zu];rfl
end K21
end
section
namespace K21
open PySem PySem.Spec PyProof.Rows L2 Py
section
variable {S:Store}{A B C:List D}{P:List (List Ti)}
end
end K21
end
section
namespace K21
open PySem PySem.Spec PyProof.Rows L2 Py
end K21
end
section
namespace K21
open PySem PySem.Spec PyProof.Rows L2 Py
section
variable {S:Store}{m:Int}{ts:List Ti}{P:List (List Ti)}{x2 x3 x4 x5:Option D}
end
end K21
end
section
namespace K21
open PySem PySem.Spec PyProof.Rows L2 Py
section
variable {S:Store}
theorem o_add(x y:Int):opD .Add (.int x) (.int y) S=.ok (.int (x+y)) S:=rfl
theorem o_sub(x y:Int):opD .Sub (.int x) (.int y) S=.ok (.int (x-y)) S:=rfl
theorem o_mul{x y:Int}(h:(-(2^64)<x∧x<2^64)∨(-(2^64)<y∧y<2^64)):opD .Mult (.int x) (.int y) S=.ok (.int (x*y)) S:=by
 show(if(-(2^64)<x∧x<2^64)∨(-(2^64)<y∧y<2^64)then Res.ok (D.int (x*y)) S else _)=_
 rw[if_pos h]
theorem o_mod{x y:Int}(h:0<y):opD .Mod (.int x) (.int y) S=.ok (.int (x%y)) S:=by
 show(if 0<y then Res.ok (D.int (x%y)) S else .fail)=_
 rw[if_pos h]
theorem o_div{x y:Int}(h:0<y∧y<1073741824):opD .FloorDiv (.int x) (.int y) S=.ok (.int (x/y)) S:=by
 show(if 0<y∧y<1073741824 then Res.ok (D.int (x/y)) S else .fail)=_
 rw[if_pos h]
theorem o_and(x y:Int):opD .BitAnd (.int x) (.int y) S=.ok (.int (Builtin.bitAnd x y)) S:=rfl
theorem q_eq(x y:Int):cmpD .Eq (.int x) (.int y) S=.ok (.bl (x==y)) S:=rfl
theorem q_lt(x y:Int):cmpD .Lt (.int x) (.int y) S=.ok (.bl (decide (x<y))) S:=rfl
end
end K21
end
section
namespace K21
open PySem PySem.Spec PyProof.Rows L2 Py
section
variable {T:Store}{c t m l w a b:Int}{n:Nat}{x8 x9:Option D}
end
end K21
end
section
namespace K21
open PySem PySem.Spec PyProof.Rows L2 Py
end K21
end
section
namespace K21
open PySem PySem.Spec PyProof.Rows L2 Py
def El(d:D):Prop:=(∃i,d=.int i)∨(∃b,d=.bl b)∨(∃x,d=.str x)∨d=.non∨∃xs,d=.tup xs
def isI:D→Bool
 | .int _=>true
 |_=>false
section
variable {S:Store}
theorem b3h'(hS:Flat S){d:D}(h:El d):a1k' [d] S=.ok (.bl (isI d)) S:=by
 refine a0y' rfl ?_ rfl hS rfl
 show denSs a5x' G0 a0W' [some d] S=_
 rcases h with⟨i,rfl⟩| ⟨b,rfl⟩| ⟨x,rfl⟩|rfl| ⟨xs,rfl⟩
 ·have h1:a0t' [.int i,.ty "int"] S=.ok (.bl true) S:=rfl
  have h2:a0t' [.int i,.ty "bool"] S=.ok (.bl false) S:=rfl
  simp[a0W',denSs,denS,den,denL,Res.bind,Res.noErr,onBl,bltD,truD,h1,h2,isI]
 ·have h1:a0t' [.bl b,.ty "int"] S=.ok (.bl true) S:=rfl
  have h2:a0t' [.bl b,.ty "bool"] S=.ok (.bl true) S:=rfl
  simp[a0W',denSs,denS,den,denL,Res.bind,Res.noErr,onBl,bltD,truD,h1,h2,isI]
 ·have h1:a0t' [.str x,.ty "int"] S=.ok (.bl false) S:=rfl
  simp[a0W',denSs,denS,den,denL,Res.bind,Res.noErr,onBl,bltD,truD,h1,isI]
 ·have h1:a0t' [.non,.ty "int"] S=.ok (.bl false) S:=rfl
  simp[a0W',denSs,denS,den,denL,Res.bind,Res.noErr,onBl,bltD,truD,h1,isI]
 ·have h1:a0t' [.tup xs,.ty "int"] S=.ok (.bl false) S:=rfl
  simp[a0W',denSs,denS,den,denL,Res.bind,Res.noErr,onBl,bltD,truD,h1,isI]
end
end K21
end
section
namespace K21
open PySem PySem.Spec PyProof.Rows L2 Py
section
variable {S:Store}{m:Int}{ts:List Ti}
end
end K21
end
section
namespace K21
open PySem PySem.Spec PyProof.Rows L2 Py
end K21
end
section
namespace K21
open PySem PySem.Spec PyProof.Rows L2 Py
def ntD(ns:List Int):D:=.tup (ns.map D.int)
theorem b5s'(ns:List Int):lowD 0 (ntD ns)=true:=K21.a3j' ns
section
variable {S:Store}{m:Int}{ts:List (Int×Int)}
theorem a7G'{α:Type}{Φ:FT}{e:CE}{N:List Str}{fr:List (Option Nat)}{tg:CT}{ρ:Rho}{rs:α→Rho}{r0:Rho}{it:CE}{ds:List α}{h:α→D}{f:α→D}(hi:denI Φ G0 it ρ S=.ok (.items (ds.map h)) S)(hr:fr.map (fun j=>j.bind fun j=>(ρ[j]?).join)=r0)
  (ha:∀d∈ds,a0p' tg (h d) r0=some (rs d)) (hl:ds.length≤100000) (he:∀d∈ds,den Φ G0 e (rs d) S=.ok (f d) S):den Φ G0 (.comp false N fr tg it [] (.emit e)) ρ S=.ok (.lst (ds.map f)) S:=by
 refine a2A' hi ?_
 rw[hr]
 have:=a0G' (f:=h) (p:=fun _=>true) (e:=f) (xs:=ds) (S:=S) (step:=fun y acc S2=>match a0p' tg y r0 with
    |some ρ'=>(denTs Φ G0 [] ρ' S2).bind fun k S3=>if k=true then denB Φ G0 (.emit e) ρ' acc S3 else .ok acc S3
    |none=>.fail) (fun d hd acc hac=>by
     have ha':acc.length<16777216:=hac
     show(match a0p' tg (h d) r0 with
      |some ρ'=>(denTs Φ G0 [] ρ' S).bind fun k S3=>if k=true then denB Φ G0 (.emit e) ρ' acc S3 else .ok acc S3
      |none=>.fail)=_
     rw[ha d hd]
     simp[denTs,denB,Res.bind,he d hd,ha']) (show ds.length≤16777216 by omega)
 rw[List.filter_eq_self.mpr (fun _ _=>rfl)]at this
 exact this
theorem a2X'{Φ:FT}{b:Blt}{e:CE}{ρ:Rho}{d r:D}(h:den Φ G0 e ρ S=.ok d S)(hb:bltD b [d] S=.ok r S):den Φ G0 (.blt b [e]) ρ S=.ok r S:=by
 simp only[den,denL,h,Res.bind,hb,Res.noErr]
theorem allAt{α:Type}{ds:List α}{f:α→Bool}:bltD .all [.lst (ds.map fun d=>.bl (f d))] S=.ok (.bl (ds.all f)) S:=by
 show boolR (allO ((ds.map fun d=>D.bl (f d)).map asB)) S=_
 rw[List.map_map]
 have:allO (ds.map (asB∘fun d=>D.bl (f d)))=some (ds.all f):=allO_map
 rw[this];rfl
theorem T_blt{Φ:FT}{b:Blt}{es:List CE}{ρ:Rho}{k:Bool}(h:den Φ G0 (.blt b es) ρ S=.ok (.bl k) S):denT Φ G0 (.blt b es) ρ S=.ok k S:=by
 rw[den]at h
 rw[denT]
 cases e:denL Φ G0 es ρ S with
 |ok ds S1=>
  rw[e]at h
  simp only[Res.bind]at h⊢
  cases e2:(bltD b ds S1)with
  |ok d S2=>
   rw[e2]at h
   simp only[Res.noErr]at h⊢
   cases h
   rfl
  |err x S2=>rw[e2]at h;cases h
  |fail=>rw[e2]at h;cases h
 |err x S1=>rw[e]at h;cases h
 |fail=>rw[e]at h;cases h
theorem a5m'{Φ:FT}{ρ:Rho}{e:CE}{d:D}{ds:List D}(he:den Φ G0 e ρ S=.ok d S)(hi:a1f' S d=some (.items ds)):denI Φ G0 (.seq e) ρ S=.ok (.items ds) S:=by
 rw[denI,he]
 simp only[Res.bind,hi]
theorem a0i'{Φ:FT}{ρ:Rho}{i:Nat}{d:D}(h:ρ[i]?=some (some d)):den Φ G0 (.var i) ρ S=.ok d S:=by simp only[den,h]
theorem a1O'{Φ:FT}{ρ:Rho}{d:D}:den Φ G0 (.lit d) ρ S=.ok d S:=by simp only[den]
theorem a7H'{Φ:FT}{ρ:Rho}{a b:CE}{d x e:D}{S1 S2:Store}(h1:den Φ G0 a ρ S=.ok d S1)(h2:den Φ G0 b ρ S1=.ok e S2)(h3:idxD d e S2=.ok x S2):den Φ G0 (.idx a b) ρ S=.ok x S2:=by
 simp only[den,h1,h2,Res.bind,h3,Res.noErr]
theorem a2B'{Φ:FT}{ρ:Rho}{o:Operator}{a b:CE}{d x e:D}{S1 S2:Store}(h1:den Φ G0 a ρ S=.ok d S1)(h2:den Φ G0 b ρ S1=.ok e S2)(h3:opD o d e S2=.ok x S2):den Φ G0 (.bin o a b) ρ S=.ok x S2:=by
 simp only[den,h1,h2,Res.bind,h3,Res.noErr]
theorem a8r'{Φ:FT}{ρ:Rho}{o:CmpOp}{a b:CE}{d x e:D}{S1 S2:Store}(h1:den Φ G0 a ρ S=.ok d S1)(h2:den Φ G0 b ρ S1=.ok e S2)(h3:cmpD o d e S2=.ok x S2):den Φ G0 (.cmp o a b) ρ S=.ok x S2:=by
 simp only[den,h1,h2,Res.bind,h3,Res.noErr]
theorem b1N'{p q:List D}(h:p.length+q.length≤1000):opD .Add (.tup p) (.tup q) S=.ok (.tup (p++q)) S:=by
 have e1:opD .Add (.tup p) (.tup q) S=if p.length+q.length≤big then .ok (.tup (p++q)) S else .fail:=by simp only[opD,addD]
 rw[e1,if_pos (by show _≤16777216;omega)]
theorem T_not{Φ:FT}{e:CE}{ρ:Rho}{k:Bool}(h:denT Φ G0 e ρ S=.ok k S):denT Φ G0 (.bnot e) ρ S=.ok (!k) S:=by
 simp only[denT,h,Res.bind]
def plI(m:Int):D→Bool
 | .int i=>decide (0≤i∧i<m)
 |_=>false
theorem el_cut{d:D}(h:El d):(∃i,d=.int i)∨(isI d=false∧∀m,plI m d=false):=by
 rcases h with h| ⟨b,rfl⟩| ⟨x,rfl⟩|rfl| ⟨xs,rfl⟩
 ·exact .inl h
 all_goals exact .inr ⟨rfl,fun _=>rfl⟩
def alB(m:Int):D→Bool
 | .tup ds=>ds.all (plI m)
 |_=>false
theorem b5t':∀(ns acc:List Int),(ns.foldl step_dedup acc).length≤acc.length+ns.length
 | [],acc=>by simp
 |n::ns,acc=>by
  have h:=b5t' ns (step_dedup acc n)
  have:(step_dedup acc n).length≤acc.length+1:=by
   unfold step_dedup
   split<;>simp
  simp only[List.foldl_cons,Zs]
  omega
theorem b3T':∀(ns acc:List Int),acc.Nodup→((ns.foldl step_dedup acc).length=acc.length+ns.length↔(acc++ns).Nodup)
 | [],acc,h=>by simp[h]
 |n::ns,acc,h=>by
  simp only[List.foldl_cons,Zs]
  by_cases hn:n∈acc
  ·have e:step_dedup acc n=acc:=by
    unfold step_dedup
    rw[if_pos (by rw[List.any_eq_true];exact⟨n,hn,by simp⟩)]
   rw[e]
   have:=b5t' ns acc
   constructor
   ·intro q;omega
   ·intro q
    exact absurd rfl ((ZO.mp q).2.2 n hn n Zb)
  ·have e:step_dedup acc n=acc++[n]:=by
    unfold step_dedup
    rw[if_neg (by
     rw[List.any_eq_true]
     intro⟨x,hx,z⟩
     have:x=n:=by simpa using z
     exact hn (this▸hx))]
   have h2:(acc++[n]).Nodup:=by
    rw[ZO]
    refine⟨h,by simp,fun a ha b hb=>?_⟩
    have:b=n:=by simpa using hb
    subst this
    intro q
    exact hn (q▸ha)
   have ih:=b3T' ns (acc++[n]) h2
   rw[e]
   rw[Zu]at ih
   simp only[Zm,Zs,Z6,List.cons_append,List.nil_append]at ih
   rw[←ih]
   constructor<;>intro q<;>omega
theorem b3i'{ns:List Int}(hl:ns.length<1000):a6L' (ntD ns) S=.ok (.int ((dedI ns).length:Nat)) S:=by
 have e1:(ns.map D.int).all (hasTy .int)=true:=by
  rw[ZF]
  intro x hx
  obtain⟨n,_,rfl⟩:=ZC.mp hx
  rfl
 have e2:(ns.map D.int).filterMap asInt=ns:=by
  rw[List.filterMap_map]
  exact List.filterMap_some
 show(if(ns.map D.int).all (hasTy .int)=true∧(ns.map D.int).length<1000 then Res.ok (D.int ((dedI ((ns.map D.int).filterMap asInt)).length:Nat)) S else .fail)=_
 rw[if_pos ⟨e1,by simpa using hl⟩,e2]
theorem ded_dec(ns:List Int):(dedI ns).length≤ns.length∧((dedI ns).length=ns.length↔ns.Nodup):=by
 have h:=b3T' ns [] (by simp)
 have h2:=b5t' ns []
 simp only[Z6,Nat.zero_add,List.nil_append]at h h2
 exact⟨h2,h⟩
theorem len_nt(ns:List Int):bltD .len [ntD ns] S=.ok (.int (ns.length:Nat)) S:=by
 show Res.ok (D.int ((ns.map D.int).length:Nat)) S=_
 rw[Zk]
end
end K21
end
section
namespace K21
open PySem PySem.Spec PyProof.Rows L2 Py
def gI(ns:List Int)(i:Nat):Int:=ns.getD i 0
def toT(a b:Int):Int×Int:=(min a b,max a b)
section
variable {S:Store}{m:Int}{ts:List (Int×Int)}
theorem b1O'{ns:List Int}{i:Nat}(h:i<ns.length):(ns.map D.int)[i]?=some (.int (gI ns i)):=by
 rw[ZN,Ze h]
 simp[gI,List.getD,h]
theorem b3j'(qs:List Int):List.zipWith (fun x y=>D.tup [x,y]) (qs.map D.int) ((qs.map D.int).drop 1)=(List.range (qs.length-1)).map fun i=>tieD (gI qs i,gI qs (i+1)):=by
 apply List.ext_getElem?
 intro i
 rw[List.getElem?_zipWith,List.getElem?_drop,Nat.add_comm 1 i,ZN (f:=fun i=>tieD (gI qs i,gI qs (i+1)))]
 by_cases h:i+1<qs.length
 ·rw[b1O' (show i<qs.length by omega),b1O' h,List.getElem?_range (by omega)]
  rfl
 ·have h2:(qs.map D.int)[i+1]?=none:=List.getElem?_eq_none (by rw[Zk];omega)
  have h3:(List.range (qs.length-1))[i]?=none:=List.getElem?_eq_none (by rw[List.length_range];omega)
  rw[h2,h3]
  cases(qs.map D.int)[i]? <;>rfl
theorem b3k'{Φ:FT}{c:CE}{ρ:Rho}{cs:List CS}(h:denT Φ G0 c ρ S=.ok true S):denSs Φ G0 (.ite c [.ret (.lit (.bl false))] []::cs) ρ S=.ok (.ret (.bl false)) S:=by
 refine a3k' ?_
 rw[a5k' h,if_pos rfl]
 simp[denSs,denS,den,Res.bind]
theorem b1P'{Φ:FT}{c:CE}{ρ:Rho}{cs:List CS}(h:denT Φ G0 c ρ S=.ok false S):denSs Φ G0 (.ite c [.ret (.lit (.bl false))] []::cs) ρ S=denSs Φ G0 cs ρ S:=by
 refine a0l' ?_
 rw[a5k' h]
 simp only[Zx,Z4,denSs]
theorem T_or{Φ:FT}{a b:CE}{ρ:Rho}{x y:Bool}(h1:denT Φ G0 a ρ S=.ok x S)(h2:denT Φ G0 b ρ S=.ok y S):denT Φ G0 (.bor a b) ρ S=.ok (x||y) S:=by
 simp only[denT,h1,Res.bind]
 cases x
 ·simp[h2]
 ·simp
theorem T_cm{Φ:FT}{ρ:Rho}{o:CmpOp}{a b:CE}{d e:D}{k:Bool}(h1:den Φ G0 a ρ S=.ok d S)(h2:den Φ G0 b ρ S=.ok e S)(h3:cmpD o d e S=.ok (.bl k) S):denT Φ G0 (.cmp o a b) ρ S=.ok k S:=by
 simp only[denT,h1,h2,Res.bind,h3,Res.noErr,onBl]
end
end K21
end
section
namespace K21
open PySem PySem.Spec PyProof.Rows L2 Py
def InW(m:Int)(ns:List Int):Prop:=∀n∈ns,0≤n∧n<m
theorem b1Q'{m:Int}{l:List Int}(h8:m≤8)(hn:l.Nodup)(hi:InW m l):l.length≤8:=by
 have h:l.length≤(a0s' 0 8).length:=hn.length_le_of_subset fun x hx=>by
  have:=hi x hx
  have hx8:x=0∨x=1∨x=2∨x=3∨x=4∨x=5∨x=6∨x=7:=by omega
  rcases hx8 with rfl|rfl|rfl|rfl|rfl|rfl|rfl|rfl<;>decide
 rw[K21.a0g']at h
 exact h
def cnt:Nat→Nat
 |1=>8|2=>56|3=>336|4=>1680|5=>6720|6=>20160|7=>40320|8=>40320|_=>0
theorem cnt_ok:∀k:Nat,1≤k→k≤8→cnt k*(8-k)=cnt (k+1)∧cnt k≤40320∧cnt (k+1)≤40320:=by
 intro k h1 h2
 have:k=1∨k=2∨k=3∨k=4∨k=5∨k=6∨k=7∨k=8:=by omega
 rcases this with rfl|rfl|rfl|rfl|rfl|rfl|rfl|rfl<;>decide
theorem a5b'(R:List (List Int)):lowL 0 (R.map ntD)=true:=a3Z'.mpr fun x hx=>by
 obtain⟨p,_,rfl⟩:=ZC.mp hx
 exact b5s' p
section
variable {S:Store}{m:Int}{ts:List (Int×Int)}
theorem comp_if{α:Type}{Φ:FT}{e c:CE}{N:List Str}{fr:List (Option Nat)}{tg:CT}{ρ:Rho}{rs:α→Rho}{r0:Rho}{it:CE}{ds:List α}{h f:α→D}{p:α→Bool}(hi:denI Φ G0 it ρ S=.ok (.items (ds.map h)) S)(hr:fr.map (fun j=>j.bind fun j=>(ρ[j]?).join)=r0)
  (ha:∀d∈ds,a0p' tg (h d) r0=some (rs d)) (hl:ds.length≤1000000) (hp:∀d∈ds,denT Φ G0 c (rs d) S=.ok (p d) S) (he:∀d∈ds,den Φ G0 e (rs d) S=.ok (f d) S):den Φ G0 (.comp false N fr tg it [c] (.emit e)) ρ S=.ok (.lst ((ds.filter p).map f)) S:=by
 refine a2A' hi ?_
 rw[hr]
 exact a0G' (f:=h) (p:=p) (e:=f) (xs:=ds) (S:=S) (step:=fun y acc S2=>match a0p' tg y r0 with
    |some ρ'=>(denTs Φ G0 [c] ρ' S2).bind fun k S3=>if k=true then denB Φ G0 (.emit e) ρ' acc S3 else .ok acc S3
    |none=>.fail) (fun d hd acc hac=>by
     have ha':acc.length<16777216:=hac
     show(match a0p' tg (h d) r0 with
      |some ρ'=>(denTs Φ G0 [c] ρ' S).bind fun k S3=>if k=true then denB Φ G0 (.emit e) ρ' acc S3 else .ok acc S3
      |none=>.fail)=_
     rw[ha d hd]
     simp only[denTs,hp d hd,Res.bind]
     cases p d with
     |true=>simp[denB,Res.bind,he d hd,ha']
     |false=>simp) (show ds.length≤16777216 by omega)
theorem a6x'{d:D}{ns:List Int}(hd:seqOf S d=some (ns.map D.int))(h:1≤ns.length):idxD d (.int (-1)) S=.ok (.int (gI ns (ns.length-1))) S:=by
 have e:atI (ns.map D.int) (-1)=some (.int (gI ns (ns.length-1))):=by
  unfold atI ixN
  rw[Zk,if_neg (by omega),if_pos (by omega)]
  show(ns.map D.int)[((-1:Int)+(ns.length:Int)).toNat]?=_
  rw[show((-1:Int)+(ns.length:Int)).toNat=ns.length-1 by omega]
  exact b1O' (by omega)
 unfold idxD
 simp only[hd,e]
theorem ne_nil{T:Store}(xs:List D):cmpD .NotEq (.lst xs) (.lst []) T=.ok (.bl (!xs.isEmpty)) T:=by
 have e:cmpD .NotEq (.lst xs) (.lst []) T=boolR ((if xs.length=0 then allO (List.zipWith (eqF T 39) xs [])else some false).map not) T:=rfl
 rw[e]
 cases xs with
 |nil=>rfl
 |cons x xs=>rfl
def Row(T:Store)(v:D)(R:List (List Int)):Prop:=v=.lst (R.map ntD)∨∃n,v=.ref n∧T[n]?=some (R.map ntD)
end
end K21
end
section
namespace K21
open PySem PySem.Spec PyProof.Rows L2 Py
theorem b0a':a1J'=K21.a1k':=rfl
section
variable {S:Store}{m:Int}{ts ps:List (Int×Int)}
def tieAt(ns:List Int)(i:Nat):Int×Int:=toT (gI ns i) (gI ns (i+1))
def len2B(k:Nat):Bool:=decide (k<2)||decide (k%2=1)
def endB(ps:List (Int×Int))(ns:List Int):Bool:=decide (gI ns (ns.length-1)<gI ns 0)||((mateI ps (gI ns 0)).isSome||(mateI ps (gI ns (ns.length-1))).isSome)
def tnB(ps:List (Int×Int))(ns:List Int):Bool:=(List.range (ns.length-1)).all fun i=>decide (tieAt ns i∈ps)==decide (i%2=1)
def tiB(ts:List (Int×Int))(ns:List Int):Bool:=(List.range (ns.length-1)).all fun i=>decide (tieAt ns i∈ts)
def wayB(ts ps:List (Int×Int))(ns:List Int):Bool:=decide ns.Nodup&&(!len2B ns.length&&(!endB ps ns&&(tnB ps ns&&tiB ts ns)))
theorem eq_bl(a b:Bool):cmpD .Eq (.bl a) (.bl b) S=.ok (.bl (a==b)) S:=by cases a<;>cases b<;>rfl
theorem eq1(k:Nat):cmpD .Eq (.int ((k%2:Nat):Int)) (.int 1) S=.ok (.bl (decide (k%2=1))) S:=by
 have:cmpD .Eq (.int ((k%2:Nat):Int)) (.int 1) S=.ok (.bl (((k%2:Nat):Int)==1)) S:=rfl
 rw[this]
 have e:((((k%2:Nat):Int))==1)=decide (k%2=1):=by
  rw[Bool.eq_iff_iff,Yb,decide_eq_true_eq]
  omega
 rw[e]
theorem lt2(k:Nat):cmpD .Lt (.int (k:Nat)) (.int 2) S=.ok (.bl (decide (k<2))) S:=by
 have:cmpD .Lt (.int (k:Nat)) (.int 2) S=.ok (.bl (decide ((k:Int)<2))) S:=rfl
 rw[this]
 congr 2
 apply decide_eq_decide.mpr
 omega
theorem in_web(t:Int×Int):cmpD .In (tieD t) (.tup (tiesD ts)) S=.ok (.bl (decide (t∈ts))) S:=by
 show boolR (inD (tieD t) (.tup (tiesD ts)) S) S=_
 rw[a7w'];rfl
theorem b3l'(t:Int×Int):cmpD .NotIn (tieD t) (.tup (tiesD ts)) S=.ok (.bl (!decide (t∈ts))) S:=by
 show boolR ((inD (tieD t) (.tup (tiesD ts)) S).map not) S=_
 rw[a7w'];rfl
theorem al_in{ns:List Int}(hr:∀n∈ns,0≤n∧n<m):alB m (ntD ns)=true:=by
 show(ns.map D.int).all (plI m)=true
 rw[ZF]
 intro x hx
 obtain⟨n,hn,rfl⟩:=ZC.mp hx
 exact Zy (hr n hn)
theorem a6y'{d:D}{ns:List Int}(hd:seqOf S d=some (ns.map D.int))(h:1≤ns.length):idxD d (.int 0) S=.ok (.int (gI ns 0)) S:=by
 have e:atI (ns.map D.int) 0=some (.int (gI ns 0)):=by
  unfold atI ixN
  rw[Zk,if_pos (by omega),if_pos (by omega)]
  exact b1O' (by omega)
 unfold idxD
 simp only[hd,e]
theorem b3m'(o:Option Int):cmpD .IsNot (optD o) .non S=.ok (.bl o.isSome) S:=by cases o<;>rfl
theorem a3E'{Φ:FT}{f:Str}{φ:List D→Store→Res D}{a b:CE}{ρ:Rho}{x y r:D}(hf:Φ f=some φ)(h1:den Φ G0 a ρ S=.ok x S)(h2:den Φ G0 b ρ S=.ok y S)(h:φ [x,y] S=.ok r S):den Φ G0 (.call f [a,b]) ρ S=.ok r S:=by
 simp only[den,denL,hf,h1,h2,Res.bind,h]
end
end K21
end
section
namespace K21
open PySem PySem.Spec PyProof.Rows L2 Py
section
variable {S:Store}{m:Int}{ts ps:List (Int×Int)}
theorem c_lw_is:a3f'=[.ite lwT1 [.ret (.lit (.bl false))] [],.ite lwT2 [.ret (.lit (.bl false))] [],.asg 3 lwC2,.asg 4 lwC3,.ite lwT3 [.ret (.lit (.bl false))] [],.ite (.cmp .NotEq lwC4 (.lst false [])) [.ret (.lit (.bl false))] [],.ret (.cmp .Eq lwC5 lwC6)]:=rfl
theorem lwE_eq(hS:Flat S){d:D}(h:El d):den a0b' G0 lwE [some d,some (webD m ts)] S=.ok (.bl (plI m d)) S:=by
 have hn:=K21.b3h' hS h
 rw[←b0a']at hn
 have hx:idxD (webD m ts) (.int 0) S=.ok (.int m) S:=rfl
 rcases el_cut h with⟨i,rfl⟩| ⟨hi,ho⟩
 ·have q1:∀a b:Int,cmpD .LtE (.int a) (.int b) S=.ok (.bl (decide (a≤b))) S:=fun a b=>rfl
  have q2:∀a b:Int,cmpD .Lt (.int a) (.int b) S=.ok (.bl (decide (a<b))) S:=fun a b=>rfl
  have hn':a1J' [.int i] S=.ok (.bl true) S:=hn
  have ho:plI m (.int i)=(decide (0≤i)&&decide (i<m)):=by
   show decide (0≤i∧i<m)=_
   rw[Bool.decide_and]
  rw[ho]
  generalize webD m ts=w at*
  simp only[lwE,den,denL,Res.bind,Res.noErr,onBl,a0S',hn',q1,q2,hx,Zf,Zi,if_true]
  cases decide (0≤i)<;>simp
 ·rw[hi]at hn
  rw[ho]
  generalize webD m ts=w at*
  simp only[lwE,den,denL,Res.bind,Res.noErr,onBl,a0S',hn,Zf,Zx,Z4]
theorem b1R'(k:Nat):opD .Mod (.int (k:Nat)) (.int 2) S=.ok (.int ((k%2:Nat):Int)) S:=by
 have:=K21.o_mod (S:=S) (x:=(k:Nat)) (y:=2) (by decide)
 rw[this]
 rfl
theorem b5u'{w p:D}{ds:List D}{x y:Option D}:denT a0b' G0 lwT1 [some w,some p,some (.tup ds),x,y] S=.ok (len2B ds.length) S:=by
 have h1:bltD .isinst [.tup ds,.ty "tuple"] S=.ok (.bl true) S:=rfl
 have hl:den a0b' G0 (.blt .len [.var 2]) [some w,some p,some (.tup ds),x,y] S=.ok (.int (ds.length:Nat)) S:=a2X' (S:=S) (a0i' (i:=2) rfl) rfl
 have h:=T_or (T_not (T_blt (S:=S) (Φ:=a0b') (b:=.isinst) (es:=[.var 2,.ty "tuple"]) (ρ:=[some w,some p,some (.tup ds),x,y]) (k:=true) (by simp only[den,denL,Res.bind,Res.noErr,h1,Zf,Zi]))) (T_or (T_cm hl a1O' (lt2 _)) (T_cm (a2B' hl a1O' (b1R' _)) a1O' (eq1 _)))
 rw[Bool.not_true,Bool.false_or]at h
 exact h
theorem lwA(hS:Flat S){p:D}{ds:List D}{x y:Option D}(hl:ds.length≤900)(hi:∀e∈ds,El e):den a0b' G0 (.blt .all [lwC1]) [some (webD m ts),some p,some (.tup ds),x,y] S=.ok (.bl (ds.all (plI m))) S:=
 a2X' (S:=S) (a7G' (S:=S) (Φ:=a0b') (N:=["_law_place","_law_web_here"]) (fr:=[none,some 0]) (tg:=.var 0) (e:=lwE) (ds:=ds) (h:=id) (r0:=[none,some (webD m ts)]) (rs:=fun e=>[some e,some (webD m ts)]) (f:=fun e=>.bl (plI m e)) (a5m' (a0i' (i:=2) rfl) (by rw[List.map_id];rfl)) rfl (fun _ _=>rfl) (by omega) (fun e he=>lwE_eq hS (hi e he))) allAt
theorem sort2(a b:Int):K21.sortN [a,b]=[min a b,max a b]:=by
 show K21.insN b [a]=_
 unfold K21.insN K21.insN
 split
 ·rw[Int.min_eq_right (by omega),Int.max_eq_left (by omega)]
 ·rw[Int.min_eq_left (by omega),Int.max_eq_right (by omega)]
theorem b5v'{ns:List Int}{w p:D}{x y:Option D}(hl:ns.length≤900):den a0b' G0 lwC2 [some w,some p,some (ntD ns),x,y] S=.ok (.lst ((List.range (ns.length-1)).map fun i=>tieD (tieAt ns i))) S:=by
 have hI:denI a0b' G0 (.zip [.var 2,.sl (.var 2) [.lit (.int 1)] []]) [some w,some p,some (ntD ns),x,y] S=.ok (.items ((List.range (ns.length-1)).map fun i=>tieD (gI ns i,gI ns (i+1)))) S:=by
  have hz:zipOf S (ntD ns) (.tup ((ns.map D.int).drop 1))=some (.items (List.zipWith (fun x y=>.tup [x,y]) (ns.map D.int) ((ns.map D.int).drop 1))):=rfl
  have hc:slD (ntD ns) (some 1) none S=.ok (.tup ((ns.map D.int).drop 1)) S:=by
   show Res.ok (D.tup (cutL (ns.map D.int) (some 1) none)) S=_
   rw[K21.cut1]
  have ta:toOpt [.int 1]=some (some 1):=rfl
  have t3:toOpt []=some none:=rfl
  rw[b3j']at hz
  simp only[denI,denL,den,Res.bind,Res.noErr,Zf,Zi,optL,ta,t3,hc,hz]
 exact a7G' (S:=S) (Φ:=a0b') (ds:=List.range (ns.length-1)) (h:=fun i=>tieD (gI ns i,gI ns (i+1))) (r0:=[none,none]) (rs:=fun i=>[some (.int (gI ns i)),some (.int (gI ns (i+1)))]) (f:=fun i=>tieD (tieAt ns i)) hI rfl (fun _ _=>rfl) (by rw[List.length_range];omega) (fun i _=>by
  have h1:=K21.a3n' (S:=S) (d:=.lst [.int (gI ns i),.int (gI ns (i+1))]) (l:=[gI ns i,gI ns (i+1)]) rfl (by simp)
  rw[sort2]at h1
  refine a2X' (S:=S) (a2X' (S:=S) (d:=.lst [.int (gI ns i),.int (gI ns (i+1))]) ?_ h1) ?_
  ·simp only[den,denL,Res.bind,Zf,Zi,Zx,Z4]
  ·rfl)
theorem b5w'(hS:Flat S){ns:List Int}{w:D}{x y:Option D}(hp:ps.length≤28)(hl:1≤ns.length):den a0b' G0 lwC3 [some w,some (.tup (tiesD ps)),some (ntD ns),x,y] S=.ok (.lst [optD (mateI ps (gI ns 0)),optD (mateI ps (gI ns (ns.length-1)))]) S:=by
 have ei0:=a6y' (S:=S) (d:=ntD ns) (ns:=ns) rfl hl
 have ei1:=a6x' (S:=S) (d:=ntD ns) (ns:=ns) rfl hl
 have hI:denI a0b' G0 (.seq (.tup [.idx (.var 2) (.lit (.int 0)),.idx (.var 2) (.neg (.lit (.int 1)))])) [some w,some (.tup (tiesD ps)),some (ntD ns),x,y] S=.ok (.items ([gI ns 0,gI ns (ns.length-1)].map D.int)) S:=by
  refine a5m' (S:=S) (d:=.tup ([gI ns 0,gI ns (ns.length-1)].map D.int)) ?_ rfl
  generalize ntD ns=v at*
  simp only[den,denL,Res.bind,Res.noErr,ei0,ei1,Zf,Zi]
  rfl
 exact a7G' (S:=S) (Φ:=a0b') (ds:=[gI ns 0,gI ns (ns.length-1)]) (h:=D.int) (r0:=[none,some (.tup (tiesD ps))]) (rs:=fun i=>[some (.int i),some (.tup (tiesD ps))]) (f:=fun i=>optD (mateI ps i)) hI rfl (fun _ _=>rfl) (by simp) (fun i _=>a3E' a2t' (a0i' (i:=1) rfl) (a0i' (i:=0) rfl) (K21.a3X' hS (by omega) i))
theorem ends_ne(a b:Option Int):cmpD .NotEq (.lst [optD a,optD b]) (.lst [.non,.non]) S=.ok (.bl (a.isSome||b.isSome)) S:=by
 have h:∀o:Option Int,eqF S 39 (optD o) .non=some (!o.isSome):=fun o=>by cases o<;>rfl
 show boolR ((match eqF S 39 (optD a) .non,(match eqF S 39 (optD b) .non,some true with
  |some b,some c=>some (b&&c)
  |_,_=>none)with
  |some b,some c=>some (b&&c)
  |_,_=>none).map not) S=_
 rw[h,h]
 cases a<;>cases b<;>rfl
theorem eq_bls:∀(l:List Nat) (f g:Nat→Bool),cmpD .Eq (.lst (l.map fun i=>.bl (f i))) (.lst (l.map fun i=>.bl (g i))) S=.ok (.bl (l.all fun i=>f i==g i)) S:=by
 intro l f g
 have e:∀(n:Nat) (l:List Nat),allO (List.zipWith (eqF S (n+1)) (l.map fun i=>D.bl (f i)) (l.map fun i=>D.bl (g i)))=some (l.all fun i=>f i==g i):=by
  intro n l
  induction l with
  |nil=>rfl
  |cons a l ih=>
   have h1:eqF S (n+1) (.bl (f a)) (.bl (g a))=some (f a==g a):=by cases f a<;>cases g a<;>rfl
   rw[ZA,ZA,List.zipWith_cons_cons,h1]
   unfold allO
   rw[ih]
   rfl
 have h:=e 38 l
 show boolR (if(l.map fun i=>D.bl (f i)).length=(l.map fun i=>D.bl (g i)).length then allO (List.zipWith (eqF S (38+1)) (l.map fun i=>D.bl (f i)) (l.map fun i=>D.bl (g i)))else some false) S=_
 rw[if_pos (by simp),h]
 rfl
theorem b1S'(n:Nat):a1A' 0 n=(List.range n).map fun i:Nat=>D.int (i:Nat):=by
 have key:∀(n:Nat) (k:Nat),a1A' (k:Int) n=(List.range n).map fun i:Nat=>D.int ((k+i:Nat):Int):=by
  intro n
  induction n with
  |zero=>intro k;rfl
  |succ n ih=>
   intro k
   rw[List.range_succ_eq_map,ZA,List.map_map]
   unfold a1A'
   have:=ih (k+1)
   rw[Int.natCast_add]at this
   rw[show((k:Int)+1)=(k:Int)+((1:Nat):Int)from rfl,this]
   simp only[Nat.add_zero,List.cons.injEq,true_and]
   apply List.map_congr_left
   intro a _
   show D.int _=D.int _
   congr 1
   simp only[Nat.succ_eq_add_one]
   omega
 have:=key n 0
 simpa using this
theorem b5x'(hS:Flat S){p:D}{ns:List Int}(hl:ns.length≤900)(hr:∀n∈ns,0≤n∧n<m):denT a0b' G0 lwT2 [some (webD m ts),some p,some (ntD ns),none,none] S=.ok (!decide ns.Nodup) S:=by
 have ha:=lwA (S:=S) (m:=m) (ts:=ts) (p:=p) (x:=none) (y:=none) hS (ds:=ns.map D.int) (by rw[Zk];exact hl) (fun e he=>by
  obtain⟨n,_,rfl⟩:=ZC.mp he
  exact .inl ⟨n,rfl⟩)
 have hall:(ns.map D.int).all (plI m)=true:=al_in hr
 rw[hall]at ha
 have hls:den a0b' G0 (.lenset (.var 2)) [some (webD m ts),some p,some (ntD ns),none,none] S=.ok (.int ((dedI ns).length:Nat)) S:=by
  have:=b3i' (S:=S) (ns:=ns) (by omega)
  simp only[den,Zi,Zf,Res.bind,this,Res.noErr]
 have hlt:cmpD .Lt (.int ((dedI ns).length:Nat)) (.int (ns.length:Nat)) S=.ok (.bl (!decide ns.Nodup)) S:=by
  have e:cmpD .Lt (.int ((dedI ns).length:Nat)) (.int (ns.length:Nat)) S=.ok (.bl (decide (((dedI ns).length:Int)<(ns.length:Int)))) S:=rfl
  rw[e]
  obtain⟨d1,d2⟩:=ded_dec ns
  congr 2
  by_cases hn:ns.Nodup
  ·rw[Zy hn,Zz (by have:=d2.mpr hn;omega)];rfl
  ·rw[Zz hn,Zy (by
    have:(dedI ns).length≠ns.length:=fun z=>hn (d2.mp z)
    omega)];rfl
 have h2:=T_or (T_not (T_blt ha)) (T_cm hls (a2X' (a0i' (i:=2) rfl) (len_nt ns)) hlt)
 rw[Bool.not_true,Bool.false_or]at h2
 exact h2
theorem b5y'{w p L:D}{ns:List Int}(h1:1≤ns.length):denT a0b' G0 lwT3 [some w,some p,some (ntD ns),some L,some (.lst [optD (mateI ps (gI ns 0)),optD (mateI ps (gI ns (ns.length-1)))])] S=.ok (endB ps ns) S:=by
 have ei0:=a6y' (S:=S) (d:=ntD ns) (ns:=ns) rfl h1
 have ei1:=a6x' (S:=S) (d:=ntD ns) (ns:=ns) rfl h1
 generalize hE:(D.lst [optD (mateI ps (gI ns 0)),optD (mateI ps (gI ns (ns.length-1)))])=En
 refine T_or (S:=S) (T_cm (S:=S) (d:=.int (gI ns 0)) (e:=.int (gI ns (ns.length-1))) ?_ ?_ rfl) (T_cm (S:=S) (d:=En) (e:=.lst [.non,.non]) (a0i' (i:=4) rfl) (by simp only[den,denL,Res.bind,Zx,Z4]) ?_)
 ·exact a7H' (a0i' (i:=2) rfl) a1O' ei0
 ·refine a7H' (e:=.int (-1)) (a0i' (i:=2) rfl) ?_ ei1
  simp only[den,Res.bind]
 ·rw[←hE]
  exact ends_ne _ _
theorem b5z'{p v e:D}{n:Nat}(hn:n≤900)(t:Nat→Int×Int):denT a0b' G0 (.cmp .NotEq lwC4 (.lst false [])) [some (webD m ts),some p,some v,some (.lst ((List.range n).map fun i=>tieD (t i))),some e] S=.ok (!((List.range n).all fun i=>decide (t i∈ts))) S:=by
 generalize hL:(D.lst ((List.range n).map fun i=>tieD (t i)))=L
 have hc4:den a0b' G0 lwC4 [some (webD m ts),some p,some v,some L,some e] S=.ok (.lst (((List.range n).filter fun i=> !decide (t i∈ts)).map fun i=>tieD (t i))) S:=
  comp_if (S:=S) (Φ:=a0b') (c:=.cmp .NotIn (.var 0) (.idx (.var 1) (.lit (.int 1)))) (e:=.var 0) (ds:=List.range n) (h:=fun i=>tieD (t i)) (r0:=[none,some (webD m ts)]) (rs:=fun i=>[some (tieD (t i)),some (webD m ts)]) (p:=fun i=> !decide (t i∈ts)) (f:=fun i=>tieD (t i)) (a5m' (S:=S) (a0i' (i:=3) rfl) (by rw[←hL];rfl)) rfl (fun _ _=>rfl) (by rw[List.length_range];omega)
   (fun i _=>T_cm (S:=S) (a0i' (i:=0) rfl) (a7H' (a0i' (i:=1) rfl) a1O' rfl) (b3l' _)) (fun i _=>a0i' (i:=0) rfl)
 have h5:=T_cm (S:=S) (o:=.NotEq) (b:=.lst false []) (e:=.lst []) hc4 (by simp only[den,denL,Res.bind,Zx,Z4]) (ne_nil _)
 have et:(((List.range n).filter fun i=> !decide (t i∈ts)).map fun i=>tieD (t i)).isEmpty=((List.range n).all fun i=>decide (t i∈ts)):=by
  rw[Bool.eq_iff_iff,List.isEmpty_iff,List.map_eq_nil_iff,List.filter_eq_nil_iff,ZF]
  constructor<;>intro h x hx<;>have:=h x hx<;>simpa using this
 rw[et]at h5
 exact h5
theorem b5A'{w v e:D}{n:Nat}(hn:n≤900)(t:Nat→Int×Int):den a0b' G0 lwC5 [some w,some (.tup (tiesD ps)),some v,some (.lst ((List.range n).map fun i=>tieD (t i))),some e] S=.ok (.lst ((List.range n).map fun i=>.bl (decide (t i∈ps)))) S:=by
 generalize hL:(D.lst ((List.range n).map fun i=>tieD (t i)))=L
 exact a7G' (S:=S) (Φ:=a0b') (ds:=List.range n) (h:=fun i=>tieD (t i)) (r0:=[none,some (.tup (tiesD ps))]) (rs:=fun i=>[some (tieD (t i)),some (.tup (tiesD ps))]) (f:=fun i=>.bl (decide (t i∈ps))) (a5m' (S:=S) (a0i' (i:=3) rfl) (by rw[←hL];rfl)) rfl (fun _ _=>rfl) (by rw[List.length_range];omega)
   (fun i _=>a8r' (a0i' (i:=0) rfl) (a0i' (i:=1) rfl) (in_web _))
theorem rng_j{j:Int}{ρ:Rho}{es:List CE}{Φ:FT}{Γ:Str→Option D}(h0:0≤j)(h1:j≤1000)(h:denL Φ Γ es ρ S=.ok [.int j] S):denI Φ Γ (.range es) ρ S=.ok (.items (a1A' 0 j.toNat)) S:=by
 have hb:(-4611686018427387904:Int)≤j∧j<4611686018427387904:=by omega
 simp[denI,Res.bind,h,hb]
theorem rng_n{Φ:FT}{e:CE}{ρ:Rho}{n:Nat}(hn:n≤1000)(h:den Φ G0 e ρ S=.ok (.int ((n:Nat):Int)) S):denI Φ G0 (.range [e]) ρ S=.ok (.items ((List.range n).map fun i:Nat=>D.int (i:Nat))) S:=by
 have h1:denL Φ G0 [e] ρ S=.ok [.int ((n:Nat):Int)] S:=by simp only[denL,h,Res.bind]
 have h2:=rng_j (by omega) (by omega) h1
 rw[Int.toNat_natCast,b1S']at h2
 exact h2
theorem b5B'{w p v e:D}{n:Nat}(hn:n≤900)(t:Nat→Int×Int):den a0b' G0 lwC6 [some w,some p,some v,some (.lst ((List.range n).map fun i=>tieD (t i))),some e] S=.ok (.lst ((List.range n).map fun i=>.bl (decide (i%2=1)))) S:=by
 generalize hL:(D.lst ((List.range n).map fun i=>tieD (t i)))=L
 refine a7G' (S:=S) (Φ:=a0b') (ds:=List.range n) (h:=fun i:Nat=>D.int (i:Nat)) (r0:=[none]) (rs:=fun i:Nat=>[some (.int (i:Nat))]) (f:=fun i=>.bl (decide (i%2=1))) ?_ rfl (fun _ _=>rfl) (by rw[List.length_range];omega)
  (fun i _=>a8r' (a2B' (a0i' (i:=0) rfl) a1O' (b1R' i)) a1O' (eq1 i))
 have hlen:bltD .len [L] S=.ok (.int ((n:Nat):Int)) S:=by
  rw[←hL]
  show Res.ok (D.int _) S=_
  simp
 refine rng_n (by omega) ?_
 exact a2X' (S:=S) (a0i' (i:=3) rfl) hlen
theorem lw_yes(hS:Flat S)(hp:ps.length≤28){ns:List Int}(hl:ns.length≤900)(hr:∀n∈ns,0≤n∧n<m):a1V' [webD m ts,.tup (tiesD ps),ntD ns] S=.ok (.bl (wayB ts ps ns)) S:=by
 refine a0y' rfl ?_ rfl hS rfl
 show denSs a0b' G0 a3f' [some (webD m ts),some (.tup (tiesD ps)),some (ntD ns),none,none] S=_
 rw[c_lw_is]
 unfold wayB
 have h1:=b5u' (S:=S) (w:=webD m ts) (p:=.tup (tiesD ps)) (ds:=ns.map D.int) (x:=none) (y:=none)
 rw[Zk]at h1
 cases hb:len2B ns.length with
 |true=>
  rw[hb]at h1
  rw[Bool.not_true,Bool.false_and,Bool.and_false]
  exact b3k' h1
 |false=>
  rw[hb]at h1
  rw[Bool.not_false,Bool.true_and]
  have h3:2≤ns.length:=by
   unfold len2B at hb
   rw[Bool.or_eq_false_iff,decide_eq_false_iff_not]at hb
   omega
  refine(b1P' h1).trans ?_
  have h2:=b5x' (S:=S) (m:=m) (ts:=ts) (p:=.tup (tiesD ps)) hS hl hr
  by_cases hn:ns.Nodup
  ·rw[Zy hn]at h2⊢
   rw[Bool.true_and]
   refine(b1P' h2).trans ?_
   have g2:=b5v' (S:=S) (ns:=ns) (w:=webD m ts) (p:=.tup (tiesD ps)) (x:=none) (y:=none) hl
   have g4:∀v e:D,_:=fun v e=>b5z' (S:=S) (m:=m) (ts:=ts) (p:=.tup (tiesD ps)) (v:=v) (e:=e) (n:=ns.length-1) (by omega) (tieAt ns)
   have g5:∀v e:D,_:=fun v e=>b5A' (S:=S) (ps:=ps) (w:=webD m ts) (v:=v) (e:=e) (n:=ns.length-1) (by omega) (tieAt ns)
   have g6:∀v e:D,_:=fun v e=>b5B' (S:=S) (w:=webD m ts) (p:=.tup (tiesD ps)) (v:=v) (e:=e) (n:=ns.length-1) (by omega) (tieAt ns)
   generalize hL:(D.lst ((List.range (ns.length-1)).map fun i=>tieD (tieAt ns i)))=L at g2 g4 g5 g6
   have g3:=b5w' (S:=S) (ps:=ps) (ns:=ns) (w:=webD m ts) (x:=some L) (y:=none) hS hp (by omega)
   have gT:=b5y' (S:=S) (ps:=ps) (w:=webD m ts) (p:=.tup (tiesD ps)) (L:=L) (ns:=ns) (by omega)
   generalize hE:(D.lst [optD (mateI ps (gI ns 0)),optD (mateI ps (gI ns (ns.length-1)))])=En at g3 gT
   refine(a0K' g2).trans ?_
   show denSs a0b' G0 _ [some (webD m ts),some (.tup (tiesD ps)),some (ntD ns),some L,none] S=_
   refine(a0K' g3).trans ?_
   show denSs a0b' G0 _ [some (webD m ts),some (.tup (tiesD ps)),some (ntD ns),some L,some En] S=_
   generalize ntD ns=v at*
   generalize webD m ts=w at*
   cases hb2:endB ps ns with
   |true=>rw[hb2]at gT;exact b3k' gT
   |false=>
    rw[hb2]at gT
    refine(b1P' gT).trans ?_
    rw[Bool.not_false,Bool.true_and]
    have h5:=g4 v En
    have et:((List.range (ns.length-1)).all fun i=>decide (tieAt ns i∈ts))=tiB ts ns:=rfl
    rw[et]at h5
    cases hb3:tiB ts ns with
    |false=>rw[hb3]at h5;rw[Bool.and_false];exact b3k' h5
    |true=>
     rw[hb3]at h5
     refine(b1P' h5).trans ?_
     rw[Bool.and_true]
     exact a3k' (K21.a5l' (a8r' (g5 v En) (g6 v En) (eq_bls _ _ _)))
  ·rw[Zz hn]at h2⊢
   rw[Bool.false_and]
   exact b3k' h2
end
end K21
end
section
namespace K21
open PySem PySem.Spec PyProof.Rows L2 Py
structure Ch (m:Int)(k:Nat)(p:List Int):Prop where
 len:p.length=k
 inn:InW m p
 nod:p.Nodup
def lastI(p:List Int):Int:=gI p (p.length-1)
def kidB(ps:List (Int×Int))(p:List Int)(n:Int):Bool:= !decide (n∈p)&&(decide (mateI ps n=some (lastI p))==decide (p.length%2=0))
def kids(m:Int)(ts ps:List (Int×Int))(p:List Int):List (List Int):=((nearI m ts (lastI p)).filter (kidB ps p)).map fun n=>p++[n]
theorem b0b'{m:Int}{ts ps:List (Int×Int)}(W:Web m ts){k:Nat}{p:List Int}(h:Ch m k p):(kids m ts ps p).length≤8-k∧∀q∈kids m ts ps p,Ch m (k+1) q:=by
 have hnn:(nearI m ts (lastI p)).Nodup:=by
  unfold nearI
  exact K21.a0H'.sublist ZU
 have hnd:((nearI m ts (lastI p)).filter (kidB ps p)).Nodup:=hnn.sublist ZU
 have hmem:∀n∈(nearI m ts (lastI p)).filter (kidB ps p),(0≤n∧n<m)∧n∉p:=fun n hn=>by
  obtain⟨h1,h2⟩:=ZG.mp hn
  unfold kidB at h2
  rw[Zr]at h2
  have h3:=K21.a0Q' (ZG.mp h1).1
  have:=W.lo
  exact⟨by omega,by simpa using h2.1⟩
 constructor
 ·have:=b1Q' W.hi (l:=p++(nearI m ts (lastI p)).filter (kidB ps p)) (ZO.mpr ⟨h.nod,hnd,fun a ha b hb e=>(hmem b hb).2 (e▸ha)⟩) (fun n hn=>by
   rcases ZB.mp hn with hn|hn
   ·exact h.inn n hn
   ·exact(hmem n hn).1)
  rw[Zm,h.len]at this
  unfold kids
  rw[Zk]
  omega
 ·intro q hq
  obtain⟨n,hn,rfl⟩:=ZC.mp hq
  obtain⟨h1,h2⟩:=hmem n hn
  refine⟨by rw[Zm,h.len];rfl,fun x hx=>?_,ZO.mpr ⟨h.nod,by simp,fun a ha b hb e=>?_⟩⟩
  ·rcases ZB.mp hx with hx|hx
   ·exact h.inn x hx
   ·rw[ZR.mp hx];exact h1
  ·have:=ZR.mp hb
   subst this
   exact h2 (e▸ha)
theorem a6z'{f:List Int→List (List Int)}{c:Nat}:∀{R:List (List Int)},(∀p∈R,(f p).length≤c)→(R.flatMap f).length≤R.length*c
 | [],_=>by simp
 |p::R,h=>by
  rw[List.flatMap_cons,Zm,Zs,Nat.succ_mul]
  have:=a6z' (R:=R) fun q hq=>h q (Za _ hq)
  have:=h p Zb
  omega
section
variable {S T:Store}{m:Int}{ts ps:List (Int×Int)}
theorem c_wy_is:a2u'=[.asg 2 wyG,.asg 3 (.lst false []),.while_ 12 wyW wyD,.ret (.blt (.sorted false (.seq .int)) [.var 3])]:=rfl
theorem opt_eq(o:Option Int)(a:Int):cmpD .Eq (optD o) (.int a) T=.ok (.bl (decide (o=some a))) T:=by
 cases o with
 |none=>rfl
 |some b=>
  have:cmpD .Eq (optD (some b)) (.int a) T=.ok (.bl (b==a)) T:=rfl
  rw[this]
  congr 2
  rw[Bool.eq_iff_iff,Yb,decide_eq_true_eq]
  exact⟨fun h=>by rw[h],fun h=>by cases h;rfl⟩
theorem eq0n(k:Nat):cmpD .Eq (.int ((k%2:Nat):Int)) (.int 0) T=.ok (.bl (decide (k%2=0))) T:=by
 have:cmpD .Eq (.int ((k%2:Nat):Int)) (.int 0) T=.ok (.bl (((k%2:Nat):Int)==0)) T:=rfl
 rw[this]
 have e:((((k%2:Nat):Int))==0)=decide (k%2=0):=by
  rw[Bool.eq_iff_iff,Yb,decide_eq_true_eq]
  omega
 rw[e]
theorem b3U'{p:List Int}(h1:1≤p.length){Φ:FT}{ρ:Rho}(h5:ρ[5]?=some (some (ntD p))):den Φ G0 wyL ρ T=.ok (.int (lastI p)) T:=by
 refine a7H' (e:=.int (-1)) (a0i' h5) ?_ (a6x' (S:=T) (d:=ntD p) (ns:=p) rfl h1)
 simp only[den,Res.bind]
theorem wyT_den(hT:Flat T)(hp:ps.length≤28){p:List Int}(h1:1≤p.length){w v F a:Option D}{n:Int}:denT a0a' G0 wyT [w,some (.tup (tiesD ps)),v,F,a,some (ntD p),some (.int n)] T=.ok (kidB ps p n) T:=by
 have t1:denT a0a' G0 (.cmp .NotIn (.var 6) (.var 5)) [w,some (.tup (tiesD ps)),v,F,a,some (ntD p),some (.int n)] T=.ok (!decide (n∈p)) T:=by
  refine T_cm (S:=T) (a0i' (i:=6) rfl) (a0i' (i:=5) rfl) ?_
  have:=b3S' (S:=T) (d:=ntD p) (l:=p) rfl n
  show boolR ((inD (.int n) (ntD p) T).map not) _=_
  rw[this];rfl
 have hm:a0O' [.tup (tiesD ps),.int n] T=.ok (optD (mateI ps n)) T:=K21.a3X' hT (by omega) n
 have t2:denT a0a' G0 (.cmp .Eq (.cmp .Eq (.call "_law_mate" [.var 1,.var 6]) wyL) (.cmp .Eq (.bin .Mod (.blt .len [.var 5]) (.lit (.int 2))) (.lit (.int 0)))) [w,some (.tup (tiesD ps)),v,F,a,some (ntD p),some (.int n)] T=.ok (decide (mateI ps n=some (lastI p))==decide (p.length%2=0)) T:=
  T_cm (S:=T) (a8r' (a3E' a3h' (a0i' (i:=1) rfl) (a0i' (i:=6) rfl) hm) (b3U' h1 rfl) (opt_eq _ _)) (a8r' (a2B' (a2X' (S:=T) (a0i' (i:=5) rfl) (len_nt p)) a1O' (b1R' _)) a1O' (eq0n _)) (eq_bl _ _)
 unfold wyT
 generalize(CE.cmp .NotIn (.var 6) (.var 5))=q1 at t1⊢
 generalize(CE.cmp .Eq (.cmp .Eq (.call "_law_mate" [.var 1,.var 6]) wyL) (.cmp .Eq (.bin .Mod (.blt .len [.var 5]) (.lit (.int 2))) (.lit (.int 0))))=q2 at t2⊢
 unfold kidB
 simp only[denT,t1,t2,Res.bind]
 cases decide (n∈p)<;>simp
theorem a5c'(hT:Flat T)(hp:ps.length≤28){p:List Int}(h1:1≤p.length)(h8:p.length≤100){w v F:Option D}{step:D→Rho→Store→Res Fl}(hs:∀e ρ S',ρ.length=7→step e ρ S'=denSs a0a' G0 wyI (ρ.set 6 (some e)) S'):∀(ns:List Int) (A:List (List Int)) (x6:Option D),A.length+ns.length≤1000000→∃y6,
  forD step (ns.map D.int) [w,some (.tup (tiesD ps)),v,F,some (.ref T.length),some (ntD p),x6] (T++[A.map ntD])=.ok (.next [w,some (.tup (tiesD ps)),v,F,some (.ref T.length),some (ntD p),y6]) (T++[(A++(ns.filter (kidB ps p)).map fun n=>p++[n]).map ntD])
 | [],A,x6,_=>⟨x6,by show _=Res.ok _ (T++[(A++[]).map ntD]);rw[List.append_nil];rfl⟩
 |n::ns,A,x6,hl=>by
  rw[Zs]at hl
  have hT2:Flat (T++[A.map ntD]):=hT.snoc (a5b' A)
  have ht:=wyT_den (T:=T++[A.map ntD]) (ps:=ps) hT2 hp h1 (w:=w) (v:=v) (F:=F) (a:=some (.ref T.length)) (n:=n)
  rw[ZA]
  unfold forD
  rw[hs _ _ _ rfl]
  show ∃y6,Res.bind (denSs a0a' G0 wyI [w,some (.tup (tiesD ps)),v,F,some (.ref T.length),some (ntD p),some (.int n)] (T++[A.map ntD])) _=_
  cases hb:kidB ps p n with
  |false=>
   rw[hb]at ht
   have e:denSs a0a' G0 wyI [w,some (.tup (tiesD ps)),v,F,some (.ref T.length),some (ntD p),some (.int n)] (T++[A.map ntD])=.ok (.next [w,some (.tup (tiesD ps)),v,F,some (.ref T.length),some (ntD p),some (.int n)]) (T++[A.map ntD]):=by
    unfold wyI
    refine(a0l' ?_).trans rfl
    rw[a5k' ht]
    simp only[Zx,Z4,denSs]
   rw[e,List.filter_cons_of_neg (by simp[hb])]
   exact a5c' hT hp h1 h8 hs ns A _ (by omega)
  |true=>
   rw[hb]at ht
   have hadd:opD .Add (ntD p) (.tup [.int n]) (T++[A.map ntD])=.ok (ntD (p++[n])) (T++[A.map ntD]):=by
    have:=b1N' (S:=T++[A.map ntD]) (p:=p.map D.int) (q:=[.int n]) (by rw[Zk];simp;omega)
    have e9:ntD (p++[n])=.tup (p.map D.int++[.int n]):=by unfold ntD;rw[List.map_append];rfl
    rw[e9]
    exact this
   have happ:=b1M' (T:=T) (A:=A.map ntD) (d:=ntD (p++[n])) (by rw[Zk];show _<16777216;omega)
   have e:denSs a0a' G0 wyI [w,some (.tup (tiesD ps)),v,F,some (.ref T.length),some (ntD p),some (.int n)] (T++[A.map ntD])=.ok (.next [w,some (.tup (tiesD ps)),v,F,some (.ref T.length),some (ntD p),some (.int n)]) (T++[(A++[p++[n]]).map ntD]):=by
    unfold wyI
    refine(a0l' ?_).trans rfl
    rw[a5k' ht,if_pos rfl]
    refine(a0l' (ρ':=[w,some (.tup (tiesD ps)),v,F,some (.ref T.length),some (ntD p),some (.int n)]) (S':=T++[(A++[p++[n]]).map ntD]) ?_).trans rfl
    rw[List.map_append,List.map_singleton]
    generalize ntD (p++[n])=q at*
    generalize ntD p=q2 at*
    simp only[denS,den,denL,Res.bind,hadd,methD,happ,Res.noErr,Zf,Zi]
   rw[e,List.filter_cons_of_pos hb,ZA]
   obtain⟨y6,ih⟩:=a5c' hT hp h1 h8 hs ns (A++[p++[n]]) (some (.int n)) (by rw[Zm];simp;omega)
   refine⟨y6,?_⟩
   rw[Zu]at ih
   exact ih
theorem near_D(hT:Flat T)(W:Web m ts){p:Int}(hp:0≤p∧p<m):a2s' [webD m ts,.int p] T=.ok (.lst ((nearI m ts p).map D.int)) T:=by
 rw[K21.b3g' W hp]
 exact K21.a9Z' hT W.few p
theorem last_in{k:Nat}{p:List Int}(h:Ch m k p)(h1:1≤k):0≤lastI p∧lastI p<m:=by
 have hl:=h.len
 refine h.inn (lastI p) ?_
 unfold lastI gI
 rw[ZX,Ze (by omega)]
 exact Z3 _
theorem w_step(hT:Flat T)(W:Web m ts)(hp:ps.length≤28){k:Nat}{p:List Int}(h:Ch m k p)(h1:1≤k)(h8:k≤8){A:List (List Int)}(hA:A.length≤900000){v F x6:Option D}:∃y6,denSs a0a' G0 wyB [some (webD m ts),some (.tup (tiesD ps)),v,F,some (.ref T.length),some (ntD p),x6] (T++[A.map ntD])=.ok (.next [some (webD m ts),some (.tup (tiesD ps)),v,F,some (.ref T.length),some (ntD p),y6]) (T++[(A++kids m ts ps p).map ntD]):=by
 have hl:=h.len
 have hT2:Flat (T++[A.map ntD]):=hT.snoc (a5b' A)
 have hn:=near_D (T:=T++[A.map ntD]) hT2 W (last_in h h1)
 have hnl:(nearI m ts (lastI p)).length≤8:=by
  have h2:=W.hi
  have h3:=W.lo
  refine ZL (ZS _ _) ?_
  rw[K21.a0g']
  omega
 obtain⟨y6,e⟩:=a5c' hT hp (p:=p) (by omega) (by omega) (w:=some (webD m ts)) (v:=v) (F:=F) (step:=fun x ρ S=>match asgCT (.var 6) x ρ with
   |some ρ'=>denSs a0a' G0 wyI ρ' S
   |none=>.fail) (fun e ρ S' hr=>by
    have:asgCT (.var 6) e ρ=some (ρ.set 6 (some e)):=by simp[asgCT,hr]
    simp only[this]) (nearI m ts (lastI p)) A x6 (by omega)
 refine⟨y6,?_⟩
 unfold wyB
 refine(a0l' ?_).trans rfl
 have hI:denI a0a' G0 (.seq (.call "_law_near" [.var 0,wyL])) [some (webD m ts),some (.tup (tiesD ps)),v,F,some (.ref T.length),some (ntD p),x6] (T++[A.map ntD])=.ok (.items ((nearI m ts (lastI p)).map D.int)) (T++[A.map ntD]):=
  a5m' (S:=T++[A.map ntD]) (a3E' (S:=T++[A.map ntD]) a3g' (a0i' (i:=0) rfl) (b3U' (by omega) rfl) hn) rfl
 rw[a6q' hI]
 exact e
theorem a9l'(hT:Flat T)(W:Web m ts)(hp:ps.length≤28){k:Nat}(h1:1≤k)(h8:k≤8){v F:Option D}{step:D→Rho→Store→Res Fl}(hs:∀e ρ S',ρ.length=7→step e ρ S'=denSs a0a' G0 wyB (ρ.set 5 (some e)) S'):∀(R A:List (List Int)) (x5 x6:Option D),(∀p∈R,Ch m k p)→A.length+(8-k)*R.length≤100000→∃y5 y6,
  forD step (R.map ntD) [some (webD m ts),some (.tup (tiesD ps)),v,F,some (.ref T.length),x5,x6] (T++[A.map ntD])=.ok (.next [some (webD m ts),some (.tup (tiesD ps)),v,F,some (.ref T.length),y5,y6]) (T++[(A++R.flatMap (kids m ts ps)).map ntD])
 | [],A,x5,x6,_,_=>⟨x5,x6,by rw[List.flatMap_nil,List.append_nil];rfl⟩
 |p::R,A,x5,x6,hR,hA=>by
  rw[Zs,Nat.mul_add,Nat.mul_one]at hA
  have hq:=hR p Zb
  obtain⟨y6,e⟩:=w_step hT W hp hq h1 h8 (A:=A) (by omega) (v:=v) (F:=F) (x6:=x6)
  have hx:=(b0b' (ps:=ps) W hq).1
  obtain⟨z5,z6,ih⟩:=a9l' hT W hp h1 h8 hs R (A++kids m ts ps p) (some (ntD p)) y6 (fun q hq=>hR q (Za _ hq)) (by rw[Zm];omega)
  refine⟨z5,z6,?_⟩
  rw[ZA]
  unfold forD
  rw[hs _ _ _ rfl]
  have e':denSs a0a' G0 wyB ([some (webD m ts),some (.tup (tiesD ps)),v,F,some (.ref T.length),x5,x6].set 5 (some (ntD p))) (T++[A.map ntD])=_:=e
  rw[e']
  rw[Zu]at ih
  exact ih
theorem T_call3{Φ:FT}{f:Str}{φ:List D→Store→Res D}{a b c:CE}{ρ:Rho}{x y z:D}{k:Bool}(hf:Φ f=some φ)(h1:den Φ G0 a ρ S=.ok x S)(h2:den Φ G0 b ρ S=.ok y S)(h3:den Φ G0 c ρ S=.ok z S)(h:φ [x,y,z] S=.ok (.bl k) S):denT Φ G0 (.call f [a,b,c]) ρ S=.ok k S:=by
 simp only[denT,denL,hf,h1,h2,h3,Res.bind,h,truD]
theorem wyF_den(hT:Flat T)(hp:ps.length≤28){k:Nat}(h8:k≤9){R:List (List Int)}{n:Nat}(hn:T[n]?=some (R.map ntD))(hR:∀p∈R,Ch m k p)(hl:R.length≤100000){x3 x4 x5 x6:Option D}:den a0a' G0 wyF [some (webD m ts),some (.tup (tiesD ps)),some (.ref n),x3,x4,x5,x6] T=.ok (.lst ((R.filter (wayB ts ps)).map ntD)) T:=by
 have step:∀p∈R,∀acc:List D,acc.length<big→(fun(y:D) (acc:List D) (S2:Store)=>match a0p' (.var 0) y [none,some (webD m ts),some (.tup (tiesD ps))]with
   |some ρ'=>(denTs a0a' G0 [.call "_law_is_way" [.var 1,.var 2,.var 0]] ρ' S2).bind fun k S3=>if k=true then denB a0a' G0 (.emit (.var 0)) ρ' acc S3 else .ok acc S3
   |none=>.fail) (ntD p) acc T=.ok (if wayB ts ps p=true then acc++[ntD p]else acc) T:=fun p hpR acc hac=>by
  have ha':acc.length<16777216:=hac
  have h1:a0p' (.var 0) (ntD p) [none,some (webD m ts),some (.tup (tiesD ps))]=some [some (ntD p),some (webD m ts),some (.tup (tiesD ps))]:=rfl
  have hc:=hR p hpR
  have hw:=lw_yes (S:=T) (m:=m) (ts:=ts) (ps:=ps) hT hp (ns:=p) (by rw[hc.len];omega) hc.inn
  have hT1:denT a0a' G0 (.call "_law_is_way" [.var 1,.var 2,.var 0]) [some (ntD p),some (webD m ts),some (.tup (tiesD ps))] T=.ok (wayB ts ps p) T:=T_call3 a2v' (a0i' (i:=1) rfl) (a0i' (i:=2) rfl) (a0i' (i:=0) rfl) hw
  generalize(CE.call "_law_is_way" [.var 1,.var 2,.var 0])=q at hT1⊢
  simp only[h1,denTs,hT1,Res.bind]
  cases wayB ts ps p with
  |true=>simp[denB,den,Res.bind,ha']
  |false=>simp
 refine a2A' (its:=.live (R.length+1) (a1D' n)) (S1:=T) ?_ ?_
 ·rw[denI]
  have:=a0i' (Φ:=a0a') (ρ:=[some (webD m ts),some (.tup (tiesD ps)),some (.ref n),x3,x4,x5,x6]) (S:=T) (i:=2) (d:=.ref n) rfl
  have this':den a0a' G0 (.var 2) [some (webD m ts),some (.tup (tiesD ps)),some (.ref n),x3,x4,x5,x6] T=.ok (.ref n) T:=this
  rw[this']
  simp only[Res.bind,a1f',hn,Option.getD_some,Zk]
 ·have:=K21.a8q' (f:=ntD) (p:=wayB ts ps) (e:=ntD) (xs:=R) (S:=T) (k:=n) (step:=fun(y:D) (acc:List D) (S2:Store)=>match a0p' (.var 0) y [none,some (webD m ts),some (.tup (tiesD ps))]with
   |some ρ'=>(denTs a0a' G0 [.call "_law_is_way" [.var 1,.var 2,.var 0]] ρ' S2).bind fun k S3=>if k=true then denB a0a' G0 (.emit (.var 0)) ρ' acc S3 else .ok acc S3
   |none=>.fail) hn step R.length 0 [] (by simp) (by show 0+R.length≤16777216;omega)
  rw[List.nil_append,List.drop_zero]at this
  exact this
theorem a9m'{p q:List D}(h:p.length+q.length≤1000000):opD .Add (.lst p) (.lst q) S=.ok (.lst (p++q)) S:=by
 have e1:opD .Add (.lst p) (.lst q) S=if p.length+q.length≤big then .ok (.lst (p++q)) S else .fail:=by simp only[opD,addD,Py.a3G']
 rw[e1,if_pos (by show _≤16777216;omega)]
theorem wyW_den{v:D}{R:List (List Int)}(hv:Row T v R){x0 x1:Option D}{x:List (Option D)}:denT a0a' G0 wyW (x0::x1::some v::x) T=.ok (!R.isEmpty) T:=by
 have hq:cmpD .NotEq v (.lst []) T=.ok (.bl (!R.isEmpty)) T:=by
  have key:∀R:List (List Int),boolR ((if(R.map ntD).length=0 then allO (List.zipWith (eqF T 39) (R.map ntD) [])else some false).map not) T=.ok (.bl (!R.isEmpty)) T:=fun R=>by
   cases R with
   |nil=>rfl
   |cons p R=>rfl
  rcases hv with rfl| ⟨n,rfl,hn⟩
  ·exact key R
  ·have e:cmpD .NotEq (.ref n) (.lst []) T=boolR ((match(T[n]?).map Sh.lst,some (Sh.lst [])with
    |some x,some y=>eqS (eqF T 39) x y
    |_,_=>none).map not) T:=rfl
   rw[e,hn]
   exact key R
 exact T_cm (S:=T) (a0i' (i:=2) rfl) (by simp only[den,denL,Res.bind,Zx,Z4]) hq
theorem w_body(hT:Flat T)(W:Web m ts)(hp:ps.length≤28){k:Nat}(hk:1≤k)(hk8:k≤8){F R:List (List Int)}{v:D}(hv:Row T v R)(hR:∀p∈R,Ch m k p)(hl:R.length≤cnt k)(hF:F.length≤400000){x4 x5 x6:Option D}:∃y5 y6,denSs a0a' G0 wyD [some (webD m ts),some (.tup (tiesD ps)),some v,some (.lst (F.map ntD)),x4,x5,x6] T=.ok (.next [some (webD m ts),some (.tup (tiesD ps)),some (.ref T.length),some (.lst ((F++(R.flatMap (kids m ts ps)).filter (wayB ts ps)).map ntD)),some (.ref T.length),y5,y6]) (T++[(R.flatMap (kids m ts ps)).map ntD]):=by
 obtain⟨c1,c2,c3⟩:=cnt_ok k hk hk8
 have hmul:(8-k)*R.length≤40320:=by
  have:=Nat.mul_le_mul_left (8-k) hl
  rw[Nat.mul_comm (8-k) (cnt k),c1]at this
  omega
 have hl2:(R.flatMap (kids m ts ps)).length≤40320:=by
  have:=a6z' (c:=8-k) (R:=R) fun p hq=>(b0b' (ps:=ps) W (hR p hq)).1
  rw[Nat.mul_comm]at this
  omega
 have hR2:∀q∈R.flatMap (kids m ts ps),Ch m (k+1) q:=fun q hq=>by
  obtain⟨p,hq1,hq2⟩:=Z7.mp hq
  exact(b0b' W (hR p hq1)).2 q hq2
 have e3:den a0a' G0 (.lst true []) [some (webD m ts),some (.tup (tiesD ps)),some v,some (.lst (F.map ntD)),x4,x5,x6] T=.ok (.ref T.length) (T++[([]:List (List Int)).map ntD]):=by
  simp only[den,denL,Res.bind,if_true]
  rfl
 obtain⟨y5,y6,ef⟩:=a9l' hT W hp hk hk8 (v:=some v) (F:=some (.lst (F.map ntD))) (step:=fun x ρ S=>match asgCT (.var 5) x ρ with
   |some ρ'=>denSs a0a' G0 wyB ρ' S
   |none=>.fail) (fun e ρ S' hr=>by
    have:asgCT (.var 5) e ρ=some (ρ.set 5 (some e)):=by
     simp[asgCT,hr]
    simp only[this]) R [] x5 x6 hR (by simp;omega)
 rw[List.nil_append]at ef
 refine⟨y5,y6,?_⟩
 unfold wyD
 refine(a0K' e3).trans ?_
 show denSs _ _ _ [some (webD m ts),some (.tup (tiesD ps)),some v,some (.lst (F.map ntD)),some (.ref T.length),x5,x6] (T++[([]:List (List Int)).map ntD])=_
 have e4:denS a0a' G0 (.for_ (.var 5) (.seq (.var 2)) wyB) [some (webD m ts),some (.tup (tiesD ps)),some v,some (.lst (F.map ntD)),some (.ref T.length),x5,x6] (T++[([]:List (List Int)).map ntD])=.ok (.next [some (webD m ts),some (.tup (tiesD ps)),some v,some (.lst (F.map ntD)),some (.ref T.length),y5,y6]) (T++[(R.flatMap (kids m ts ps)).map ntD]):=by
  rcases hv with rfl| ⟨n,rfl,hn⟩
  ·exact(a6q' (Γ:=G0) (a5m' (a0i' (i:=2) rfl) rfl)).trans ef
  ·have hlt:=(Zh.mp hn).1
   have hn2:(T++[([]:List (List Int)).map ntD])[n]?=some (R.map ntD):=by rw[Zo hlt];exact hn
   rw[a6q' (its:=.live (R.length+1) (a1D' n)) (S1:=T++[([]:List (List Int)).map ntD]) (by
    have this':den a0a' G0 (.var 2) [some (webD m ts),some (.tup (tiesD ps)),some (.ref n),some (.lst (F.map ntD)),some (.ref T.length),x5,x6] (T++[([]:List (List Int)).map ntD])=.ok (.ref n) (T++[([]:List (List Int)).map ntD]):=a0i' (i:=2) rfl
    rw[denI,this']
    simp only[Res.bind,a1f',hn2,Option.getD_some,Zk])]
   have hb:=K21.forB_eq (T:=T) (k:=n) (xs:=R.map ntD) (step:=fun x ρ S=>match asgCT (.var 5) x ρ with
    |some ρ'=>denSs a0a' G0 wyB ρ' S
    |none=>.fail) hn (fun i ρ S=>∃(A:List (List Int)) (z5 z6:Option D),ρ=[some (webD m ts),some (.tup (tiesD ps)),some (.ref n),some (.lst (F.map ntD)),some (.ref T.length),z5,z6]∧S=T++[A.map ntD]∧A.length≤8*i) (fun i ρ S ⟨A,_,_,_,e,_⟩=>⟨A.map ntD,e⟩) (fun i x hx ρ S ⟨A,z5,z6,e1,e2,hA⟩=>by
     subst e1 e2
     obtain⟨hi,rfl⟩:=Zh.mp hx
     rw[Zk]at hi
     rw[List.getElem_map]
     have hq:=hR _ (Z3 hi)
     obtain⟨y6,e⟩:=w_step hT W hp hq hk hk8 (A:=A) (by omega) (v:=some (.ref n)) (F:=some (.lst (F.map ntD))) (x6:=z6)
     refine⟨_,_,⟨A++kids m ts ps R[i],_,y6,rfl,rfl,?_⟩,e⟩
     have:=(b0b' (ps:=ps) W hq).1
     rw[Zm]
     omega) R.length 0 [some (webD m ts),some (.tup (tiesD ps)),some (.ref n),some (.lst (F.map ntD)),some (.ref T.length),x5,x6] (T++[([]:List (List Int)).map ntD]) (by rw[Zk];omega) ⟨[],x5,x6,rfl,rfl,by simp⟩
   rw[List.drop_zero]at hb
   exact hb.trans ef
 refine(a0l' e4).trans ?_
 refine(a0K' (a0i' (i:=4) rfl)).trans ?_
 show denSs _ _ _ [some (webD m ts),some (.tup (tiesD ps)),some (.ref T.length),some (.lst (F.map ntD)),some (.ref T.length),y5,y6] (T++[(R.flatMap (kids m ts ps)).map ntD])=_
 have hT2:Flat (T++[(R.flatMap (kids m ts ps)).map ntD]):=hT.snoc (a5b' _)
 have eF:=wyF_den (T:=T++[(R.flatMap (kids m ts ps)).map ntD]) (m:=m) (ts:=ts) (ps:=ps) hT2 hp (k:=k+1) (by omega) boxE hR2 (by omega) (x3:=some (.lst (F.map ntD))) (x4:=some (.ref T.length)) (x5:=y5) (x6:=y6)
 have hfl:((R.flatMap (kids m ts ps)).filter (wayB ts ps)).length≤(R.flatMap (kids m ts ps)).length:=ZS _ _
 have e5:=a2B' (o:=.Add) (a0i' (ρ:=[some (webD m ts),some (.tup (tiesD ps)),some (.ref T.length),some (.lst (F.map ntD)),some (.ref T.length),y5,y6]) (S:=T++[(R.flatMap (kids m ts ps)).map ntD]) (i:=3) rfl) eF (a9m' (by rw[Zk,Zk];omega))
 rw[←List.map_append]at e5
 exact(a0K' e5).trans rfl
def fb:Nat→Nat
 |1=>0|2=>56|3=>56|4=>1736|5=>1736|6=>21896|7=>21896|8=>62216|_=>62216
theorem fb_ok:∀k:Nat,1≤k→k≤8→fb k+(if(k+1)%2=0 then cnt (k+1)else 0)≤fb (k+1)∧fb k≤62216:=by
 intro k h1 h2
 have:k=1∨k=2∨k=3∨k=4∨k=5∨k=6∨k=7∨k=8:=by omega
 rcases this with rfl|rfl|rfl|rfl|rfl|rfl|rfl|rfl<;>decide
def Fw(m:Int)(p:List Int):Prop:=InW m p∧1≤p.length∧p.length≤8
def fdF(m:Int)(ts ps:List (Int×Int)):Nat→List (List Int)→List (List Int)
 |0,_=>[]
 |f+1,R=>(R.flatMap (kids m ts ps)).filter (wayB ts ps)++fdF m ts ps f (R.flatMap (kids m ts ps))
theorem b3V':∀f:Nat,fdF m ts ps f []=[]
 |0=>rfl
 |f+1=>b3V' f
theorem a9n'(W:Web m ts)(hp:ps.length≤28)(S:Store):∀(f k:Nat) (F R:List (List Int)) (v:D) (T:Store) (x4 x5 x6:Option D),10≤k+f→1≤k→k≤9→Flat T→S.length≤T.length→T.take S.length=S→Row T v R→(∀p∈R,Ch m k p)→R.length≤cnt k→(∀p∈F,Fw m p)→F.length≤fb k→
  ∃(F':List (List Int)) (v' y4 y5 y6:Option D) (T':Store),F'=F++fdF m ts ps f R∧(∀p∈F',Fw m p)∧F'.length≤62216∧T'.take S.length=S∧
   a2f' (denT a0a' G0 wyW) (denSs a0a' G0 wyD) f [some (webD m ts),some (.tup (tiesD ps)),some v,some (.lst (F.map ntD)),x4,x5,x6] T=.ok (.next [some (webD m ts),some (.tup (tiesD ps)),v',some (.lst (F'.map ntD)),y4,y5,y6]) T'
 |0,k,F,R,v,T,x4,x5,x6,h,_,h9,_,_,_,_,_,_,_,_=>absurd h (by omega)
 |f+1,k,F,R,v,T,x4,x5,x6,h,h1,h9,hT,hle,hst,hv,hR,hl,hF,hFl=>by
  have hc:=wyW_den hv (x0:=some (webD m ts)) (x1:=some (.tup (tiesD ps))) (x:=[some (.lst (F.map ntD)),x4,x5,x6])
  cases hRe:R with
  |nil=>
   have hfb:fb k≤62216:=by
    have:k=1∨k=2∨k=3∨k=4∨k=5∨k=6∨k=7∨k=8∨k=9:=by omega
    rcases this with rfl|rfl|rfl|rfl|rfl|rfl|rfl|rfl|rfl<;>decide
   refine⟨F,some v,x4,x5,x6,T,by rw[b3V',List.append_nil],hF,by omega,hst,?_⟩
   rw[hRe]at hc
   unfold a2f'
   rw[hc]
   rfl
  |cons p0 R0=>
   have hk8:k≤8:=by
    rcases Nat.lt_or_ge k 9 with z|z
    ·omega
    ·have:k=9:=by omega
     rw[hRe,this]at hl
     have:(p0::R0).length≤0:=hl
     simp at this
   obtain⟨c1,c2,c3⟩:=cnt_ok k h1 hk8
   obtain⟨b1,b2⟩:=fb_ok k h1 hk8
   obtain⟨y5,y6,eb⟩:=w_body hT W hp h1 hk8 hv hR hl (F:=F) (by omega) (x4:=x4) (x5:=x5) (x6:=x6)
   have hT':Flat (T++[(R.flatMap (kids m ts ps)).map ntD]):=hT.snoc (a5b' _)
   have hR':∀q∈R.flatMap (kids m ts ps),Ch m (k+1) q:=fun q hq=>by
    obtain⟨p,hq1,hq2⟩:=Z7.mp hq
    exact(b0b' W (hR p hq1)).2 q hq2
   have hl':(R.flatMap (kids m ts ps)).length≤cnt (k+1):=by
    have:=a6z' (c:=8-k) (R:=R) fun p hq=>(b0b' (ps:=ps) W (hR p hq)).1
    have h2:=Nat.mul_le_mul_right (8-k) hl
    omega
   have hmem8:∀q∈R.flatMap (kids m ts ps),q.length≤8:=fun q hq=>b1Q' W.hi (hR' q hq).nod (hR' q hq).inn
   have hF':∀p∈F++(R.flatMap (kids m ts ps)).filter (wayB ts ps),Fw m p:=fun p hq=>by
    rcases ZB.mp hq with hq|hq
    ·exact hF p hq
    ·have hm:=(ZG.mp hq).1
     have:=hR' p hm
     exact⟨this.inn,by rw[this.len];omega,hmem8 p hm⟩
   have hfl:((R.flatMap (kids m ts ps)).filter (wayB ts ps)).length≤(if(k+1)%2=0 then cnt (k+1)else 0):=by
    split
    ·exact ZL (ZS _ _) hl'
    ·rename_i ho
     have:(R.flatMap (kids m ts ps)).filter (wayB ts ps)=[]:=by
      rw[List.filter_eq_nil_iff]
      intro q hq hw
      have hlen:=(hR' q hq).len
      unfold wayB len2B at hw
      rw[hlen]at hw
      have:(k+1)%2=1:=by omega
      simp[this]at hw
     rw[this]
     exact Zj _
   obtain⟨F',v',z4,z5,z6,T',a0,a1,a2,a3,ih⟩:=a9n' W hp S f (k+1) (F++(R.flatMap (kids m ts ps)).filter (wayB ts ps)) (R.flatMap (kids m ts ps)) (.ref T.length) (T++[(R.flatMap (kids m ts ps)).map ntD]) (some (.ref T.length)) y5 y6 (by omega) (by omega) (by omega) hT' (by rw[Zm];omega) (by rw[List.take_append_of_le_length hle];exact hst) (.inr ⟨T.length,rfl,boxE⟩) hR' hl' hF' (by rw[Zm];omega)
   refine⟨F',v',z4,z5,z6,T',by rw[a0,←hRe,Zu];rfl,a1,a2,a3,?_⟩
   rw[hRe]at hc
   unfold a2f'
   rw[hc]
   show(Res.bind (denSs a0a' G0 wyD [some (webD m ts),some (.tup (tiesD ps)),some v,some (.lst (F.map ntD)),x4,x5,x6] T) fun f' S'=>match f' with
    | .next ρ'=>a2f' (denT a0a' G0 wyW) (denSs a0a' G0 wyD) f ρ' S'
    | .cont ρ'=>a2f' (denT a0a' G0 wyW) (denSs a0a' G0 wyD) f ρ' S'
    | .brk ρ'=>.ok (.next ρ') S'
    | .ret d=>.ok (.ret d) S')=_
   rw[eb]
   exact ih
theorem nts_of{Q:List Int→Prop}:∀(L:List D),(∀d∈L,∃p,Q p∧d=ntD p)→∃F:List (List Int),L=F.map ntD∧∀p∈F,Q p
 | [],_=>⟨[],rfl,fun _ h=>by cases h⟩
 |d::L,h=>by
  obtain⟨F,rfl,hF⟩:=nts_of L fun e he=>h e (Za _ he)
  obtain⟨p,hp,rfl⟩:=h d Zb
  exact⟨p::F,rfl,fun q hq=>by
   rcases Zn.mp hq with rfl|hq
   ·exact hp
   ·exact hF q hq⟩
theorem b1T'{F:List (List Int)}(hF:∀p∈F,1≤p.length)(hl:F.length<65536){d:D}(hd:seqOf S d=some (F.map ntD)):a2Y' false (.seq .int) [d] S=.ok (.lst (a2Z' (ltK (.seq .int)) (F.map ntD))) S∧a2Y' true (.seq .int) [d] S=.ok (.ref S.length) (S++[a2Z' (ltK (.seq .int)) (F.map ntD)]):=by
 have e1:(F.map ntD).all (hasTy (.seq .int))=true:=by
  rw[ZF]
  intro x hx
  obtain⟨p,_,rfl⟩:=ZC.mp hx
  show(p.map D.int).all (hasTy .int)=true
  rw[ZF]
  intro y hy
  obtain⟨n,_,rfl⟩:=ZC.mp hy
  rfl
 have e3:a3H' (.seq .int) (F.map ntD)=true:=by
  have:((F.map ntD).all fun d=> !isNil d)=true:=by
   rw[ZF]
   intro x hx
   obtain⟨p,hp,rfl⟩:=ZC.mp hx
   have:=hF p hp
   cases p with
   |nil=>simp at this
   |cons a p=>rfl
  show(noStr .int&&(((F.map ntD).all fun d=> !isNil d)||isNil ((F.map ntD).headD .non)))=true
  rw[this]
  rfl
 have hc:(F.map ntD).all (hasTy (.seq .int))=true∧(F.map ntD).length<65536∧a3H' (.seq .int) (F.map ntD)=true:=⟨e1,by rw[Zk];exact hl,e3⟩
 unfold a2Y'
 simp only[hd]
 exact⟨by rw[if_pos hc];rfl,by rw[if_pos hc];rfl⟩
def a5n'(m:Int)(ts ps:List (Int×Int)):List (List Int):=fdF m ts ps 12 ((a0q' m ps).map fun i=>[i])
theorem a9o'(hS:Flat S)(W:Web m ts)(hp:ps.length≤28):(∀p∈a5n' m ts ps,Fw m p)∧(a5n' m ts ps).length≤62216∧a2w' [webD m ts,.tup (tiesD ps)] S=.ok (.lst (a2Z' (ltK (.seq .int)) ((a5n' m ts ps).map ntD))) S:=by
 have h1:=W.lo
 have h8:=W.hi
 have hin:∀i∈a0q' m ps,0≤i∧i<m:=fun i hi=>by
  have:=K21.a0Q' (ZG.mp hi).1
  omega
 have hll:(a0q' m ps).length≤8:=by
  refine ZL (ZS _ _) ?_
  rw[K21.a0g']
  omega
 have hR1:∀p∈(a0q' m ps).map (fun i=>[i]),Ch m 1 p:=fun p hq=>by
  obtain⟨i,hi,rfl⟩:=ZC.mp hq
  exact⟨rfl,fun n hn=>by rw[ZR.mp hn];exact hin i hi,by simp⟩
 obtain⟨F,v',y4,y5,y6,T',hE,hF,hFl,hst,ew⟩:=a9n' W hp S 12 1 [] ((a0q' m ps).map fun i=>[i]) (.lst (((a0q' m ps).map fun i=>[i]).map ntD)) S none none none (by omega) (by omega) (by omega) hS (Zj _) (List.take_length) (.inl rfl) hR1 (by rw[Zk];exact hll) (fun p hq=>by cases hq) (by simp)
 have hE':F=a5n' m ts ps:=by rw[hE];rfl
 rw[←hE']
 refine⟨hF,hFl,?_⟩
 have es:=(b1T' (S:=T') (fun p hp=>(hF p hp).2.1) (show F.length<65536 by omega) (d:=.lst (F.map ntD)) rfl).1
 generalize hG:a2Z' (ltK (.seq .int)) (F.map ntD)=L2 at es⊢
 have hlowL:lowL 0 L2=true:=by
  rw[←hG]
  exact K21.a3Z'.mpr fun x hx=>by
   obtain⟨p,_,rfl⟩:=ZC.mp ((a1a' _ _).mem_iff.mp hx)
   exact b5s' p
 have hlo:a1I' [webD m ts,.tup (tiesD ps)] S=.ok (.tup ((a0q' m ps).map D.int)) S:=K21.a8n' hS h1 h8 ts (by omega)
 have e2:den a0a' G0 wyG [some (webD m ts),some (.tup (tiesD ps)),none,none,none,none,none] S=.ok (.lst ((a0q' m ps).map fun i=>ntD [i])) S:=
  a7G' (S:=S) (Φ:=a0a') (ds:=a0q' m ps) (h:=D.int) (r0:=[none]) (rs:=fun i=>[some (.int i)]) (f:=fun i=>ntD [i]) (a5m' (S:=S) (a3E' a2T' (a0i' (i:=0) rfl) (a0i' (i:=1) rfl) hlo) rfl) rfl (fun _ _=>rfl) (by omega) (fun i _=>by simp only[den,denL,Res.bind,Zf];rfl)
 have hd:denSs a0a' G0 a2u' [some (webD m ts),some (.tup (tiesD ps)),none,none,none,none,none] S=.ok (.ret (.lst L2)) T':=by
  rw[c_wy_is]
  refine(a0K' e2).trans ?_
  show denSs _ _ _ [some (webD m ts),some (.tup (tiesD ps)),some (.lst ((a0q' m ps).map fun i=>ntD [i])),none,none,none,none] S=_
  refine(a0K' (d:=.lst []) (S':=S) (by simp only[den,denL,Res.bind,Zx,Z4])).trans ?_
  show denSs _ _ _ [some (webD m ts),some (.tup (tiesD ps)),some (.lst ((a0q' m ps).map fun i=>ntD [i])),some (.lst []),none,none,none] S=_
  refine(a0l' (ρ':=[some (webD m ts),some (.tup (tiesD ps)),v',some (.lst (F.map ntD)),y4,y5,y6]) (S':=T') ?_).trans ?_
  ·rw[denS]
   rw[List.map_map]at ew
   exact ew
  ·exact a3k' (K21.a5l' (a2X' (S:=T') (a0i' (i:=3) rfl) es))
 show runD a0a' G0 a2u' a4P'.length 2 [webD m ts,.tup (tiesD ps)] S=_
 have hd':denSs a0a' G0 a2u' (([webD m ts,.tup (tiesD ps)]:List D).map some++List.replicate (a4P'.length-2) none) S=_:=hd
 unfold runD
 rw[if_pos (show [webD m ts,D.tup (tiesD ps)].length=2 from rfl),hd']
 show trim S.length (.lst L2) T'=_
 have hlow:lowD 0 (.lst L2)=true:=hlowL
 rw[K21.a2J' (by rw[hst];exact hS) hlow,hst]
end
end K21
end
section
namespace K21
open PySem PySem.Spec PyProof.Rows L2 Py
abbrev Ti:=Int×Int
theorem a7I'(a b:Int):toT a b=(a,b)∨toT a b=(b,a):=by
 unfold toT
 rcases Int.le_total a b with h|h
 ·left;rw[Int.min_eq_left h,Int.max_eq_right h]
 ·right;rw[Int.min_eq_right h,Int.max_eq_left h]
theorem a3o'(a b:Int):toT a b=toT b a:=by
 unfold toT
 rw[Int.min_comm,Int.max_comm]
theorem toT_lt{a b:Int}(h:a<b):toT a b=(a,b):=by
 unfold toT
 rw[Int.min_eq_left (by omega),Int.max_eq_right (by omega)]
theorem b1U':∀{ps:List Ti},(∀t∈ps,t.1<t.2)→(a0B' ps).Nodup→∀{p q:Int},mateI ps p=some q↔(p≠q∧toT p q∈ps)
 | [],_,_,p,q=>by simp[mateI]
 |t::ps,hv,hn,p,q=>by
  have ht:=hv t Zb
  have hn':(t.1::t.2::a0B' ps).Nodup:=hn
  obtain⟨n1,n2⟩:=ZJ.mp hn'
  obtain⟨n3,n4⟩:=ZJ.mp n2
  have ih:=b1U' (fun u hu=>hv u (Za _ hu)) n4 (p:=p) (q:=q)
  have hpl:∀{x y:Int},toT x y∈ps→x∈a0B' ps:=fun{x y} h=>by
   unfold a0B'
   rw[Z7]
   refine⟨_,h,?_⟩
   rcases a7I' x y with e|e<;>rw[e]<;>simp
  unfold mateI
  by_cases h1:p=t.1
  ·rw[if_pos h1]
   constructor
   ·intro e
    cases e
    refine⟨by omega,?_⟩
    rw[h1,toT_lt ht]
    exact Zb
   ·rintro⟨hne,h⟩
    rcases Zn.mp h with h|h
    ·have:q=t.2:=by
      rcases a7I' p q with e|e
      ·rw[e]at h;rw[←h]
      ·rw[e]at h
       have z1:q=t.1:=by rw[←h]
       omega
     rw[this]
    ·exact absurd (Za _ (h1▸hpl h)) n1
  ·rw[if_neg h1]
   by_cases h2:p=t.2
   ·rw[if_pos h2]
    constructor
    ·intro e
     cases e
     refine⟨by omega,?_⟩
     rw[h2,a3o',toT_lt ht]
     exact Zb
    ·rintro⟨hne,h⟩
     rcases Zn.mp h with h|h
     ·have:q=t.1:=by
       rcases a7I' p q with e|e
       ·rw[e]at h
        have z1:p=t.1:=by rw[←h]
        omega
       ·rw[e]at h;rw[←h]
      rw[this]
     ·exact absurd (h2▸hpl h) n3
   ·rw[if_neg h2,ih]
    constructor
    ·rintro⟨a,b⟩
     exact⟨a,Za _ b⟩
    ·rintro⟨a,b⟩
     refine⟨a,?_⟩
     rcases Zn.mp b with b|b
     ·exfalso
      rcases a7I' p q with e|e
      ·rw[e]at b
       exact h1 (by rw[←b])
      ·rw[e]at b
       exact h2 (by rw[←b])
     ·exact b
section
variable {m:Int}{ts ps:List Ti}
structure Ok2 (m:Int)(ts ps:List Ti):Prop where
 W:Web m ts
 P:Pairing ts ps
theorem Ok2.mate(O:Ok2 m ts ps){p q:Int}:mateI ps p=some q↔(p≠q∧toT p q∈ps):=b1U' (fun t ht=>(O.W.tie t (O.P.sub t ht)).2.1) O.P.un
theorem Ok2.symm(O:Ok2 m ts ps){p q:Int}(h:mateI ps p=some q):mateI ps q=some p:=by
 rw[O.mate]at h⊢
 exact⟨h.1.symm,by rw[a3o'];exact h.2⟩
theorem Ok2.inn(O:Ok2 m ts ps){p q:Int}(h:mateI ps p=some q):0≤q∧q<m:=by
 have:=(O.mate.mp h).2
 have ht:=O.W.tie _ (O.P.sub _ this)
 rcases a7I' p q with e|e<;>rw[e]at ht
 ·have h1:0≤p∧p<q∧q<m:=ht
  omega
 ·have h1:0≤q∧q<p∧p<m:=ht
  omega
def Alt(ts ps:List Ti)(ns:List Int):Prop:=∀i,i+1<ns.length→tieAt ns i∈ts∧(tieAt ns i∈ps↔i%2=1)
structure Rwy (m:Int)(ts ps:List Ti)(ns:List Int):Prop where
 ne:1≤ns.length
 inn:InW m ns
 nod:ns.Nodup
 lo:mateI ps (gI ns 0)=none
 alt:Alt ts ps ns
theorem gI_l{s t:List Int}{i:Nat}(h:i<s.length):gI (s++t) i=gI s i:=by
 unfold gI
 rw[ZX,ZX,Zo h]
theorem gI_r{s t:List Int}{e:Int}:gI (s++e::t) s.length=e:=by
 unfold gI
 rw[ZX,Zv (Zj _)]
 simp
theorem a8s'{s:List Int}{i:Nat}(h:i<s.length):gI s i∈s:=by
 unfold gI
 rw[ZX,Ze h]
 exact Z3 _
theorem mem_gI{s:List Int}{x:Int}(h:x∈s):∃i,i<s.length∧gI s i=x:=by
 obtain⟨i,hi,e⟩:=ZV.mp h
 refine⟨i,hi,?_⟩
 unfold gI
 rw[ZX,Ze hi,e]
 rfl
theorem tie_l{s t:List Int}{i:Nat}(h:i+1<s.length):tieAt (s++t) i=tieAt s i:=by
 unfold tieAt
 rw[gI_l (by omega),gI_l h]
theorem tie_r{s t:List Int}{e:Int}(h:1≤s.length):tieAt (s++e::t) (s.length-1)=toT (lastI s) e:=by
 unfold tieAt lastI
 rw[gI_l (by omega),show s.length-1+1=s.length by omega,gI_r]
theorem Rwy.snoc{s:List Int}(h1:1≤s.length){n:Int}:Rwy m ts ps (s++[n])↔Rwy m ts ps s∧(0≤n∧n<m)∧n∉s∧toT (lastI s) n∈ts∧(toT (lastI s) n∈ps↔s.length%2=0):=by
 constructor
 ·intro h
  have hl:=h.nod
  obtain⟨a1,a2,a3⟩:=ZO.mp hl
  have ht:=h.alt (s.length-1) (by rw[Zm];simp;omega)
  rw[tie_r h1]at ht
  refine⟨⟨h1,fun x hx=>h.inn x (Z0 _ hx),a1,?_,fun i hi=>?_⟩,h.inn n (by simp),fun z=>a3 n z n (by simp) rfl,ht.1,ht.2.trans (by omega)⟩
  ·have:=h.lo
   rw[gI_l (by omega)]at this
   exact this
  ·have:=h.alt i (by rw[Zm];simp;omega)
   rw[tie_l hi]at this
   exact this
 ·rintro⟨hs,hn,hm,ht,hp⟩
  refine⟨by simp,fun x hx=>?_,ZO.mpr ⟨hs.nod,by simp,fun a ha b hb e=>?_⟩,?_,fun i hi=>?_⟩
  ·rcases ZB.mp hx with hx|hx
   ·exact hs.inn x hx
   ·rw[ZR.mp hx];exact hn
  ·rw[ZR.mp hb]at e
   exact hm (e▸ha)
  ·rw[gI_l (by omega)];exact hs.lo
  ·rw[Zm]at hi
   have hi':i+1<s.length+1:=hi
   by_cases hc:i+1<s.length
   ·rw[tie_l hc];exact hs.alt i hc
   ·have:i=s.length-1:=by omega
    subst this
    rw[tie_r h1]
    exact⟨ht,hp.trans (by omega)⟩
theorem Rwy.len8(W:Web m ts){s:List Int}(h:Rwy m ts ps s):s.length≤8:=b1Q' W.hi h.nod h.inn
theorem a3F'{s:List Int}(h:1≤s.length):s=s.dropLast++[lastI s]:=by
 have hne:s≠[]:=fun z=>by rw[z]at h;simp at h
 have e:=List.dropLast_concat_getLast hne
 have e2:s.getLast hne=lastI s:=by
  unfold lastI gI
  rw[ZX,Ze (by omega),List.getLast_eq_getElem]
  rfl
 rw[e2]at e
 exact e.symm
def rowsN(m:Int)(ts ps:List Ti):Nat→List (List Int)
 |0=>(a0q' m ps).map fun i=>[i]
 |k+1=>(rowsN m ts ps k).flatMap (kids m ts ps)
theorem a4y'(O:Ok2 m ts ps){i:Int}:i∈a0q' m ps↔(0≤i∧i<m)∧mateI ps i=none:=by
 unfold a0q'
 rw[ZG]
 have hm:=O.W.lo
 constructor
 ·rintro⟨h1,h2⟩
  have:=K21.a0Q' h1
  exact⟨by omega,by simpa using h2⟩
 ·rintro⟨h1,h2⟩
  refine⟨?_,by simp[h2]⟩
  have key:∀(n:Nat) (lo x:Int),lo≤x→x<lo+n→x∈a0s' lo n:=by
   intro n
   induction n with
   |zero=>intro lo x h1 h2;omega
   |succ n ih=>
    intro lo x h1 h2
    unfold a0s'
    by_cases e:x=lo
    ·subst e;exact Zb
    ·exact Za _ (ih (lo+1) x (by omega) (by omega))
  exact key _ _ _ (by omega) (by omega)
theorem a9p'{x:Int}(h0:0≤x)(h1:x<m):x∈a0s' 0 m.toNat:=by
 have key:∀(n:Nat) (lo x:Int),lo≤x→x<lo+n→x∈a0s' lo n:=by
  intro n
  induction n with
  |zero=>intro lo x h1 h2;omega
  |succ n ih=>
   intro lo x h1 h2
   unfold a0s'
   by_cases e:x=lo
   ·subst e;exact Zb
   ·exact Za _ (ih (lo+1) x (by omega) (by omega))
 exact key _ _ _ h0 (by omega)
theorem b3W'(O:Ok2 m ts ps){p:List Int}:(∃i∈a0q' m ps,p=[i])↔Rwy m ts ps p∧p.length=1:=by
 constructor
 ·rintro⟨i,hi,rfl⟩
  obtain⟨h1,h2⟩:=(a4y' O).mp hi
  exact⟨⟨Zj _,fun n hn=>by rw[ZR.mp hn];exact h1,by simp,h2,fun i hi=>by simp at hi⟩,rfl⟩
 ·rintro⟨h,hl⟩
  obtain⟨i,rfl⟩:=List.length_eq_one_iff.mp hl
  exact⟨i,(a4y' O).mpr ⟨h.inn i (by simp),h.lo⟩,rfl⟩
theorem b1V'(O:Ok2 m ts ps){a n:Int}:n∈nearI m ts a↔(0≤n∧n<m)∧toT a n∈ts:=by
 unfold nearI
 rw[ZG]
 have hm:=O.W.lo
 constructor
 ·rintro⟨h1,h2⟩
  have:=K21.a0Q' h1
  exact⟨by omega,of_decide_eq_true h2⟩
 ·rintro⟨h1,h2⟩
  exact⟨a9p' h1.1 h1.2,Zy h2⟩
theorem a9q'(O:Ok2 m ts ps){p q:List Int}(h1:Rwy m ts ps p):q∈kids m ts ps p↔∃n,q=p++[n]∧Rwy m ts ps q:=by
 unfold kids
 rw[ZC]
 constructor
 ·rintro⟨n,hn,rfl⟩
  obtain⟨ha,hb⟩:=ZG.mp hn
  obtain⟨hr,ht⟩:=(b1V' O).mp ha
  unfold kidB at hb
  rw[Zr]at hb
  have hnm:n∉p:=by simpa using hb.1
  have hq:(mateI ps n=some (lastI p))↔p.length%2=0:=by
   have:=hb.2
   rw[Yb,decide_eq_decide]at this
   exact this
  refine⟨n,rfl,(Rwy.snoc h1.ne).mpr ⟨h1,hr,hnm,ht,?_⟩⟩
  rw[←hq,O.mate,a3o']
  have hne:n≠lastI p:=fun z=>hnm (z▸a8s' (by have:=h1.ne;omega))
  exact⟨fun h=>⟨hne,h⟩,fun h=>h.2⟩
 ·rintro⟨n,rfl,hs⟩
  obtain⟨_,hr,hnm,ht,hp⟩:=(Rwy.snoc h1.ne).mp hs
  refine⟨n,ZG.mpr ⟨(b1V' O).mpr ⟨hr,ht⟩,?_⟩,rfl⟩
  unfold kidB
  rw[Zr]
  refine⟨by simpa using hnm,?_⟩
  rw[Yb,decide_eq_decide,O.mate,←hp,a3o']
  have hne:n≠lastI p:=fun z=>hnm (z▸a8s' (by have:=h1.ne;omega))
  exact⟨fun h=>h.2,fun h=>⟨hne,h⟩⟩
theorem a2C'(O:Ok2 m ts ps):∀(k:Nat) {p:List Int},p∈rowsN m ts ps k↔Rwy m ts ps p∧p.length=k+1
 |0,p=>by
  rw[←b3W' O]
  unfold rowsN
  rw[ZC]
  exact⟨fun⟨i,h,e⟩=>⟨i,h,e.symm⟩,fun⟨i,h,e⟩=>⟨i,h,e.symm⟩⟩
 |k+1,p=>by
  unfold rowsN
  rw[Z7]
  constructor
  ·rintro⟨s,hs,hp⟩
   obtain⟨h1,h2⟩:=(a2C' O k).mp hs
   obtain⟨n,rfl,hq⟩:=(a9q' O h1).mp hp
   exact⟨hq,by rw[Zm,h2];rfl⟩
  ·rintro⟨h,hl⟩
   have e:=a3F' h.ne
   have hdl:p.dropLast.length=k+1:=by rw[List.length_dropLast,hl];rfl
   have hs:Rwy m ts ps (p.dropLast++[lastI p]):=e▸h
   have hd:=((Rwy.snoc (by omega)).mp hs).1
   exact⟨p.dropLast,(a2C' O k).mpr ⟨hd,hdl⟩,(a9q' O hd).mpr ⟨lastI p,e,h⟩⟩
theorem a5U'{α β:Type}{f:α→List β}:∀{R:List α},R.Nodup→(∀s∈R,(f s).Nodup)→(∀s∈R,∀t∈R,∀x,x∈f s→x∈f t→s=t)→(R.flatMap f).Nodup
 | [],_,_,_=>by simp
 |s::R,h1,h2,h3=>by
  obtain⟨n1,n2⟩:=ZJ.mp h1
  rw[List.flatMap_cons]
  refine ZO.mpr ⟨h2 s Zb,a5U' n2 (fun t ht=>h2 t (Za _ ht)) (fun t ht u hu=>h3 t (Za _ ht) u (Za _ hu)),fun a ha b hb e=>?_⟩
  subst e
  obtain⟨t,ht,hx⟩:=Z7.mp hb
  exact n1 (h3 s Zb t (Za _ ht) a ha hx▸ht)
theorem b1W'{α β:Type}{f:α→β}{l:List α}(h:l.Nodup)(hf:∀a b,f a=f b→a=b):(l.map f).Nodup:=by
 refine List.pairwise_map.mpr (h.imp fun{a b} hne e=>hne (hf a b e))
theorem kids_nd{p:List Int}:(kids m ts ps p).Nodup:=by
 unfold kids
 refine b1W' ?_ fun a b e=>by simpa using e
 unfold nearI
 exact(K21.a0H'.sublist ZU).sublist ZU
theorem b3X'(O:Ok2 m ts ps):∀k:Nat,(rowsN m ts ps k).Nodup
 |0=>by
  unfold rowsN
  refine b1W' ?_ fun a b e=>by simpa using e
  unfold a0q'
  exact K21.a0H'.sublist ZU
 |k+1=>by
  unfold rowsN
  refine a5U' (b3X' O k) (fun s _=>kids_nd) fun s hs t ht x h1 h2=>?_
  obtain⟨a1,a2⟩:=(a2C' O k).mp hs
  obtain⟨b1,b2⟩:=(a2C' O k).mp ht
  obtain⟨n,rfl,_⟩:=(a9q' O a1).mp h1
  obtain⟨n',e,_⟩:=(a9q' O b1).mp h2
  exact(List.append_inj e (by omega)).1
theorem fd_is(f k:Nat):fdF m ts ps f (rowsN m ts ps k)=(List.range f).flatMap fun j=>(rowsN m ts ps (k+1+j)).filter (wayB ts ps):=by
 induction f generalizing k with
 |zero=>rfl
 |succ f ih=>
  unfold fdF
  have e:(rowsN m ts ps k).flatMap (kids m ts ps)=rowsN m ts ps (k+1):=rfl
  rw[e,ih,List.range_succ_eq_map,List.flatMap_cons,List.flatMap_map]
  have e2:(fun j=>(rowsN m ts ps (k+1+1+j)).filter (wayB ts ps))=fun j=>(rowsN m ts ps (k+1+Nat.succ j)).filter (wayB ts ps):=by
   funext j
   rw[show k+1+1+j=k+1+Nat.succ j by omega]
  rw[e2]
theorem b3n'(O:Ok2 m ts ps){q:List Int}:q∈a5n' m ts ps↔Rwy m ts ps q∧wayB ts ps q=true:=by
 have e:a5n' m ts ps=fdF m ts ps 12 (rowsN m ts ps 0):=rfl
 rw[e,fd_is,Z7]
 constructor
 ·rintro⟨j,_,h⟩
  obtain⟨h1,h2⟩:=ZG.mp h
  exact⟨((a2C' O _).mp h1).1,h2⟩
 ·rintro⟨h1,h2⟩
  have h8:=h1.len8 O.W
  have hl:2≤q.length:=by
   unfold wayB len2B at h2
   rw[Zr,Zr]at h2
   have:=h2.2.1
   simp at this
   omega
  exact⟨q.length-2,by rw[Ya];omega,ZG.mpr ⟨(a2C' O _).mpr ⟨h1,by omega⟩,h2⟩⟩
theorem b5C'(O:Ok2 m ts ps):(a5n' m ts ps).Nodup:=by
 have e:a5n' m ts ps=fdF m ts ps 12 (rowsN m ts ps 0):=rfl
 rw[e,fd_is]
 refine a5U' List.nodup_range (fun j _=>(b3X' O _).sublist ZU) fun s _ t _ x h1 h2=>?_
 have a:=((a2C' O _).mp (ZG.mp h1).1).2
 have b:=((a2C' O _).mp (ZG.mp h2).1).2
 omega
def sKid(m:Int)(ts ps:List Ti)(s:List Int):List (List Int):=((a0s' 0 m.toNat).filter fun p=> !decide (p∈s)&&(tied ts (lastI s) p&&(mateI ps p).isSome)).map fun p=>s++[p,(mateI ps p).getD 0]
def stemN(m:Int)(ts ps:List Ti):Nat→List (List Int)
 |0=>(a0q' m ps).map fun i=>[i]
 |k+1=>(stemN m ts ps k).flatMap (sKid m ts ps)
theorem b3Y'(O:Ok2 m ts ps){s:List Int}(h:Rwy m ts ps s)(ho:s.length%2=1){i:Nat}(h0:1≤i)(hi:i<s.length):∃x∈s,mateI ps (gI s i)=some x:=by
 have inj:∀{i j:Nat},i<s.length→j<s.length→gI s i=gI s j→i=j:=fun{i j} hi hj e=>by
  unfold gI at e
  rw[ZX,ZX,Ze hi,Ze hj]at e
  exact(List.getElem_inj h.nod).mp e
 rcases Nat.mod_two_eq_zero_or_one i with z|z
 ·have ht:=(h.alt (i-1) (by omega)).2.mpr (by omega)
  unfold tieAt at ht
  rw[show i-1+1=i by omega]at ht
  refine⟨gI s (i-1),a8s' (by omega),O.mate.mpr ⟨fun e=>?_,by rw[a3o'];exact ht⟩⟩
  have:=inj hi (by omega) e
  omega
 ·have ht:=(h.alt i (by omega)).2.mpr z
  unfold tieAt at ht
  refine⟨gI s (i+1),a8s' (by omega),O.mate.mpr ⟨fun e=>?_,ht⟩⟩
  have:=inj hi (by omega) e
  omega
theorem a6A'(O:Ok2 m ts ps){s q:List Int}(h1:Rwy m ts ps s)(ho:s.length%2=1):q∈sKid m ts ps s↔∃a b,q=s++[a,b]∧Rwy m ts ps q:=by
 have hne:=h1.ne
 have app:∀a b:Int,s++[a,b]=(s++[a])++[b]:=fun a b=>by simp
 have la:∀a:Int,lastI (s++[a])=a:=fun a=>by
  unfold lastI
  rw[Zm]
  show gI (s++[a]) (s.length+1-1)=a
  rw[Nat.add_sub_cancel]
  exact gI_r
 unfold sKid
 rw[ZC]
 constructor
 ·rintro⟨p,hp,rfl⟩
  obtain⟨ha,hb⟩:=ZG.mp hp
  rw[Zr,Zr]at hb
  obtain⟨hb1,hb2,hb3⟩:=hb
  have hps:p∉s:=by simpa using hb1
  have ht:toT (lastI s) p∈ts:=of_decide_eq_true hb2
  obtain⟨q,hq⟩:=Option.isSome_iff_exists.mp hb3
  rw[hq]
  show ∃a b,s++[p,q]=s++[a,b]∧Rwy m ts ps (s++[p,q])
  have hr:=K21.a0Q' ha
  have hm:=O.W.lo
  have hqr:=O.inn hq
  have hls:lastI s∈s:=a8s' (by omega)
  have hqs:q∉s:=fun z=>by
   obtain⟨i,hi,e⟩:=mem_gI z
   have hqp:=O.symm hq
   rcases Nat.eq_zero_or_pos i with z0|z0
   ·subst z0
    have:=h1.lo
    rw[e,hqp]at this
    cases this
   ·obtain⟨x,hx,ex⟩:=b3Y' O h1 ho z0 hi
    rw[e,hqp]at ex
    cases ex
    exact hps hx
  have hpq:=(O.mate.mp hq)
  refine⟨p,q,rfl,?_⟩
  rw[app]
  have s1:Rwy m ts ps (s++[p]):=(Rwy.snoc hne).mpr ⟨h1,by omega,hps,ht,⟨fun z=>?_,fun z=>by omega⟩⟩
  ·refine(Rwy.snoc (by simp)).mpr ⟨s1,hqr,fun z=>?_,?_,?_⟩
   ·rcases ZB.mp z with z|z
    ·exact hqs z
    ·exact hpq.1 (ZR.mp z).symm
   ·rw[la]
    exact O.P.sub _ hpq.2
   ·rw[la,Zm]
    exact⟨fun _=>by show(s.length+1)%2=0;omega,fun _=>hpq.2⟩
  ·have:mateI ps p=some (lastI s):=O.mate.mpr ⟨fun e=>hps (e▸hls),by rw[a3o'];exact z⟩
   rw[hq]at this
   cases this
   exact absurd hls hqs
 ·rintro⟨a,b,rfl,hs⟩
  rw[app]at hs
  obtain⟨s1,hb1,hb2,hb3,hb4⟩:=(Rwy.snoc (by simp)).mp hs
  obtain⟨_,ha1,ha2,ha3,ha4⟩:=(Rwy.snoc hne).mp s1
  rw[la,Zm]at hb4
  rw[la]at hb3
  have hab:toT a b∈ps:=hb4.mpr (by show(s.length+1)%2=0;omega)
  have hm:mateI ps a=some b:=O.mate.mpr ⟨fun e=>hb2 (by rw[e];simp),hab⟩
  refine⟨a,ZG.mpr ⟨a9p' ha1.1 ha1.2,?_⟩,by rw[hm];rfl⟩
  rw[Zr,Zr]
  exact⟨by simpa using ha2,Zy ha3,by rw[hm];rfl⟩
theorem a1C'(O:Ok2 m ts ps):∀(k:Nat) {p:List Int},p∈stemN m ts ps k↔Rwy m ts ps p∧p.length=2*k+1
 |0,p=>by
  rw[Nat.mul_zero,Nat.zero_add,←b3W' O]
  unfold stemN
  rw[ZC]
  exact⟨fun⟨i,h,e⟩=>⟨i,h,e.symm⟩,fun⟨i,h,e⟩=>⟨i,h,e.symm⟩⟩
 |k+1,p=>by
  unfold stemN
  rw[Z7]
  constructor
  ·rintro⟨s,hs,hp⟩
   obtain⟨h1,h2⟩:=(a1C' O k).mp hs
   obtain⟨a,b,rfl,hq⟩:=(a6A' O h1 (by omega)).mp hp
   refine⟨hq,?_⟩
   rw[Zm,h2]
   show 2*k+1+2=_
   omega
  ·rintro⟨h,hl⟩
   have e:=a3F' h.ne
   have hdl:p.dropLast.length=2*k+2:=by rw[List.length_dropLast,hl];omega
   have e2:=a3F' (s:=p.dropLast) (by omega)
   have hd:Rwy m ts ps p.dropLast:=((Rwy.snoc (by omega)).mp (e▸h:Rwy m ts ps (p.dropLast++[lastI p]))).1
   have hddl:p.dropLast.dropLast.length=2*k+1:=by rw[List.length_dropLast,hdl];rfl
   have hdd:Rwy m ts ps p.dropLast.dropLast:=((Rwy.snoc (by omega)).mp (e2▸hd:Rwy m ts ps (p.dropLast.dropLast++[lastI p.dropLast]))).1
   have e3:p=p.dropLast.dropLast++[lastI p.dropLast,lastI p]:=by
    have:p.dropLast.dropLast++[lastI p.dropLast,lastI p]=(p.dropLast.dropLast++[lastI p.dropLast])++[lastI p]:=by simp
    rw[this,←e2,←e]
   exact⟨p.dropLast.dropLast,(a1C' O k).mpr ⟨hdd,hddl⟩,(a6A' O hdd (by omega)).mpr ⟨_,_,e3,h⟩⟩
theorem sKid_nd{p:List Int}:(sKid m ts ps p).Nodup:=by
 unfold sKid
 refine b1W' (K21.a0H'.sublist ZU) fun a b e=>?_
 have:=List.append_cancel_left e
 simp only[List.cons.injEq,and_true]at this
 exact this.1
theorem b3Z'(O:Ok2 m ts ps):∀k:Nat,(stemN m ts ps k).Nodup
 |0=>by
  unfold stemN
  refine b1W' ?_ fun a b e=>by simpa using e
  unfold a0q'
  exact K21.a0H'.sublist ZU
 |k+1=>by
  unfold stemN
  refine a5U' (b3Z' O k) (fun s _=>sKid_nd) fun s hs t ht x h1 h2=>?_
  obtain⟨a1,a2⟩:=(a1C' O k).mp hs
  obtain⟨b1,b2⟩:=(a1C' O k).mp ht
  obtain⟨n,n2,rfl,_⟩:=(a6A' O a1 (by omega)).mp h1
  obtain⟨n',n2',e,_⟩:=(a6A' O b1 (by omega)).mp h2
  exact(List.append_inj e (by omega)).1
def stems(m:Int)(ts ps:List Ti):List (List Int):=(List.range 4).flatMap (stemN m ts ps)
theorem a6B'(O:Ok2 m ts ps){s:List Int}:s∈stems m ts ps↔Rwy m ts ps s∧s.length%2=1:=by
 unfold stems
 rw[Z7]
 constructor
 ·rintro⟨k,_,h⟩
  obtain⟨h1,h2⟩:=(a1C' O k).mp h
  exact⟨h1,by omega⟩
 ·rintro⟨h1,h2⟩
  have:=h1.len8 O.W
  exact⟨s.length/2,by rw[Ya];omega,(a1C' O _).mpr ⟨h1,by omega⟩⟩
theorem b5D'(O:Ok2 m ts ps):(stems m ts ps).Nodup:=by
 unfold stems
 refine a5U' List.nodup_range (fun j _=>b3Z' O j) fun s _ t _ x h1 h2=>?_
 have a:=((a1C' O _).mp h1).2
 have b:=((a1C' O _).mp h2).2
 omega
def endsI(m:Int)(ts ps:List Ti)(s:List Int):List (List Int):=((a0q' m ps).filter fun e=>decide (gI s 0<e)&&tied ts (lastI s) e).map fun e=>s++[e]
def waysA(m:Int)(ts ps:List Ti):List (List Int):=(stems m ts ps).flatMap (endsI m ts ps)
theorem b4a'(O:Ok2 m ts ps){q:List Int}:wayB ts ps q=true↔q.Nodup∧2≤q.length∧q.length%2=0∧gI q 0≤gI q (q.length-1)∧mateI ps (gI q 0)=none∧mateI ps (gI q (q.length-1))=none∧Alt ts ps q:=by
 unfold wayB len2B endB tnB tiB
 simp only[Zr,decide_eq_true_eq,Bool.not_eq_true',Bool.or_eq_false_iff,decide_eq_false_iff_not,ZF,Ya,Yb,decide_eq_decide]
 constructor
 ·rintro⟨h1,⟨h2,h3⟩,⟨h4,h5,h6⟩,h7,h8⟩
  refine⟨h1,by omega,by omega,by omega,by simpa using h5,by simpa using h6,fun i hi=>⟨h8 i (by omega),h7 i (by omega)⟩⟩
 ·rintro⟨h1,h2,h3,h4,h5,h6,h7⟩
  exact⟨h1,⟨by omega,by omega⟩,⟨by omega,by simp[h5],by simp[h6]⟩,fun i hi=>(h7 i (by omega)).2,fun i hi=>(h7 i (by omega)).1⟩
theorem b1X'(O:Ok2 m ts ps){q:List Int}:q∈waysA m ts ps↔Rwy m ts ps q∧wayB ts ps q=true:=by
 unfold waysA
 rw[Z7]
 constructor
 ·rintro⟨s,hs,hq⟩
  obtain⟨h1,ho⟩:=(a6B' O).mp hs
  have hne:=h1.ne
  unfold endsI at hq
  obtain⟨e,he,rfl⟩:=ZC.mp hq
  obtain⟨hl,hb⟩:=ZG.mp he
  rw[Zr]at hb
  have hlt:gI s 0<e:=of_decide_eq_true hb.1
  have ht:toT (lastI s) e∈ts:=of_decide_eq_true hb.2
  obtain⟨hr,hlo⟩:=(a4y' O).mp hl
  have hes:e∉s:=fun z=>by
   obtain⟨i,hi,ei⟩:=mem_gI z
   rcases Nat.eq_zero_or_pos i with z0|z0
   ·subst z0;omega
   ·obtain⟨x,_,ex⟩:=b3Y' O h1 ho z0 hi
    rw[ei,hlo]at ex
    cases ex
  have hno:toT (lastI s) e∈ps→s.length%2=0:=fun z=>by
   have:mateI ps e=some (lastI s):=O.mate.mpr ⟨fun z=>hes (z▸a8s' (by omega)),by rw[a3o'];exact z⟩
   rw[hlo]at this
   cases this
  have hS:Rwy m ts ps (s++[e]):=(Rwy.snoc hne).mpr ⟨h1,hr,hes,ht,⟨fun z=>hno z,fun z=>by omega⟩⟩
  have hlen:(s++[e]).length=s.length+1:=by simp
  have hlast:gI (s++[e]) ((s++[e]).length-1)=e:=by rw[hlen,Nat.add_sub_cancel];exact gI_r
  have hf:gI (s++[e]) 0=gI s 0:=gI_l (by omega)
  exact⟨hS,(b4a' O).mpr ⟨hS.nod,by omega,by omega,by rw[hlast,hf];omega,hS.lo,by rw[hlast];exact hlo,hS.alt⟩⟩
 ·rintro⟨h,hw⟩
  obtain⟨_,h2,h3,h4,h5,h6,_⟩:=(b4a' O).mp hw
  have e:=a3F' h.ne
  have hdl:q.dropLast.length=q.length-1:=List.length_dropLast ..
  obtain⟨hd,hr,hm,ht,hp⟩:=(Rwy.snoc (by omega)).mp (e▸h:Rwy m ts ps (q.dropLast++[lastI q]))
  refine⟨q.dropLast,(a6B' O).mpr ⟨hd,by omega⟩,?_⟩
  unfold endsI
  refine ZC.mpr ⟨lastI q,ZG.mpr ⟨(a4y' O).mpr ⟨hr,h6⟩,?_⟩,e.symm⟩
  rw[Zr]
  refine⟨Zy ?_,Zy ht⟩
  have h0:gI q.dropLast 0=gI q 0:=by
   have:gI (q.dropLast++[lastI q]) 0=gI q.dropLast 0:=gI_l (by omega)
   rw[←this,←e]
  have hne:gI q.dropLast 0≠lastI q:=fun z=>hm (z▸a8s' (by omega))
  have:gI q 0≤lastI q:=h4
  omega
theorem ways_nd(O:Ok2 m ts ps):(waysA m ts ps).Nodup:=by
 unfold waysA
 refine a5U' (b5D' O) (fun s _=>?_) fun s hs t ht x h1 h2=>?_
 ·unfold endsI
  refine b1W' ?_ fun a b e=>by simpa using e
  unfold a0q'
  exact(K21.a0H'.sublist ZU).sublist ZU
 ·unfold endsI at h1 h2
  obtain⟨a,_,rfl⟩:=ZC.mp h1
  obtain⟨b,_,e⟩:=ZC.mp h2
  have:=congrArg List.dropLast e
  simpa using this.symm
theorem a9r'(O:Ok2 m ts ps):(waysA m ts ps).Perm (a5n' m ts ps):=
 (List.perm_ext_iff_of_nodup (ways_nd O) (b5C' O)).mpr fun q=>by rw[b1X' O,b3n' O]
end
end K21
end
section
namespace K21
open PySem PySem.Spec PyProof.Rows L2 Py
theorem a7J':a0n'=K21.a0n':=rfl
def a0m':List Int→List (Int×Int)
 |a::b::r=>toT a b::a0m' (b::r)
 |_=>[]
theorem tieAt_succ(a:Int)(l:List Int)(i:Nat):tieAt (a::l) (i+1)=tieAt l i:=rfl
theorem b1Y':∀o:List Int,(List.range (o.length-1)).map (tieAt o)=a0m' o
 | []=>rfl
 | [_]=>rfl
 |a::b::r=>by
  have e:(a::b::r).length-1=(b::r).length-1+1:=rfl
  rw[e,List.range_succ_eq_map,ZA,List.map_map]
  unfold a0m'
  rw[←b1Y' (b::r)]
  rfl
theorem a9s':∀o:List Int,(a0m' o).length=o.length-1
 | []=>rfl
 | [_]=>rfl
 |a::b::r=>by
  unfold a0m'
  rw[Zs,a9s' (b::r)]
  rfl
theorem a9t':∀{o:List Int} {t:Int×Int},t∈a0m' o→∃a b,a∈o∧b∈o∧t=toT a b
 | [],t,h=>by cases h
 | [_],t,h=>by cases h
 |a::b::r,t,h=>by
  unfold a0m' at h
  rcases Zn.mp h with rfl|h
  ·exact⟨a,b,Zb,Za _ Zb,rfl⟩
  ·obtain⟨c,d,hc,hd,e⟩:=a9t' h
   exact⟨c,d,Za _ hc,Za _ hd,e⟩
theorem b5E'(a b:Int):toT a b=(a,b)∨toT a b=(b,a):=by
 unfold toT
 rcases Int.le_total a b with h|h
 ·left;rw[Int.min_eq_left h,Int.max_eq_right h]
 ·right;rw[Int.min_eq_right h,Int.max_eq_left h]
theorem b3o'{o:List Int}{t:Int×Int}(h:t∈a0m' o):t.1∈o∧t.2∈o:=by
 obtain⟨a,b,ha,hb,rfl⟩:=a9t' h
 rcases b5E' a b with e|e<;>rw[e]<;>exact⟨by assumption,by assumption⟩
theorem a4a':∀{o:List Int},o.Nodup→(a0m' o).Nodup
 | [],_=>by unfold a0m';simp
 | [_],_=>by unfold a0m';simp
 |a::b::r,h=>by
  unfold a0m'
  obtain⟨h1,h2⟩:=ZJ.mp h
  refine ZJ.mpr ⟨fun z=>?_,a4a' h2⟩
  obtain⟨z1,z2⟩:=b3o' z
  rcases b5E' a b with e|e<;>rw[e]at z1 z2
  ·exact h1 z1
  ·exact h1 z2
theorem b1Z'{m:Int}:∀{o:List Int},o.Nodup→(∀n∈o,0≤n∧n<m)→∀t∈a0m' o,0≤t.1∧t.1<t.2∧t.2<m
 | [],_,_,t,h=>by cases h
 | [_],_,_,t,h=>by cases h
 |a::b::r,hn,hr,t,h=>by
  unfold a0m' at h
  obtain⟨h1,h2⟩:=ZJ.mp hn
  rcases Zn.mp h with rfl|h
  ·have ha:=hr a Zb
   have hb:=hr b (Za _ Zb)
   have hab:a≠b:=fun z=>h1 (z▸Zb)
   unfold toT
   rcases Int.le_total a b with q|q
   ·rw[Int.min_eq_left q,Int.max_eq_right q];simp only;omega
   ·rw[Int.min_eq_right q,Int.max_eq_left q];simp only;omega
  ·exact b1Z' h2 (fun n hn=>hr n (Za _ hn)) t h
theorem b4b'{α:Type}:∀{l:List α} {x:α},x∈oddL l→x∈l
 | [],_,h=>by cases h
 | [_],_,h=>by cases h
 |a::b::r,x,h=>by
  rcases Zn.mp h with rfl|h
  ·exact Za _ Zb
  ·exact Za _ (Za _ (b4b' h))
theorem a5V'{α:Type}:∀(l:List α),(oddL l).Sublist l
 | []=>.slnil
 | [_]=>List.nil_sublist _
 |a::b::r=>.cons _ (.cons₂ _ (a5V' r))
theorem b4c'{α β:Type}(f:α→β):∀l:List α,oddL (l.map f)=(oddL l).map f
 | []=>rfl
 | [_]=>rfl
 |a::b::r=>by
  show f b::oddL (r.map f)=f b::(oddL r).map f
  rw[b4c' f r]
theorem a7K':∀{o:List Int},o.Nodup→(a0B' (oddL (a0m' o))).Nodup∧∀p∈a0B' (oddL (a0m' o)),p∈o.tail
 | [],_=>⟨by simp[a0m',oddL,a0B'],fun p h=>by simp[a0m',oddL,a0B']at h⟩
 | [_],_=>⟨by simp[a0m',oddL,a0B'],fun p h=>by simp[a0m',oddL,a0B']at h⟩
 | [_,_],_=>⟨by simp[a0m',oddL,a0B'],fun p h=>by simp[a0m',oddL,a0B']at h⟩
 |a::b::c::r,h=>by
  obtain⟨_,h2⟩:=ZJ.mp h
  obtain⟨hb,h3⟩:=ZJ.mp h2
  obtain⟨hc,_⟩:=ZJ.mp h3
  obtain⟨i1,i2⟩:=a7K' h3
  have e:a0B' (oddL (a0m' (a::b::c::r)))=[(toT b c).1,(toT b c).2]++a0B' (oddL (a0m' (c::r))):=rfl
  rw[e]
  have hbc:b≠c:=fun z=>hb (z▸Zb)
  have i2':∀p∈a0B' (oddL (a0m' (c::r))),p∈r:=i2
  have hbr:b∉r:=fun z=>hb (Za _ z)
  rcases b5E' b c with q|q<;>rw[q]
  ·refine⟨?_,fun p hp=>?_⟩
   ·show(b::c::a0B' (oddL (a0m' (c::r)))).Nodup
    refine ZJ.mpr ⟨fun z=>?_,ZJ.mpr ⟨fun z=>hc (i2' _ z),i1⟩⟩
    rcases Zn.mp z with z|z
    ·exact hbc z
    ·exact hbr (i2' _ z)
   ·have hp:p∈b::c::a0B' (oddL (a0m' (c::r))):=hp
    show p∈b::c::r
    rcases Zn.mp hp with rfl|hp
    ·exact Zb
    ·rcases Zn.mp hp with rfl|hp
     ·exact Za _ Zb
     ·exact Za _ (Za _ (i2' p hp))
  ·refine⟨?_,fun p hp=>?_⟩
   ·show(c::b::a0B' (oddL (a0m' (c::r)))).Nodup
    refine ZJ.mpr ⟨fun z=>?_,ZJ.mpr ⟨fun z=>hbr (i2' _ z),i1⟩⟩
    rcases Zn.mp z with z|z
    ·exact hbc z.symm
    ·exact hc (i2' _ z)
   ·have hp:p∈c::b::a0B' (oddL (a0m' (c::r))):=hp
    show p∈b::c::r
    rcases Zn.mp hp with rfl|hp
    ·exact Za _ Zb
    ·rcases Zn.mp hp with rfl|hp
     ·exact Zb
     ·exact Za _ (Za _ (i2' p hp))
theorem b0c'{a b:List (Int×Int)}(h:a.Perm b):(a0B' a).Perm (a0B' b):=h.flatMap_right _
theorem a8t'{o:List Int}{L:List (Int×Int)}(ho:o.Nodup)(hL:∀t∈a0m' o,t∈L):Pairing (sortI L) (sortI (oddL (a0m' o))):=by
 refine⟨a3m' ((a4a' ho).sublist (a5V' _)),fun t ht=>?_,?_⟩
 ·exact(a0R' L).mem_iff.mpr (hL t (b4b' ((a0R' _).mem_iff.mp ht)))
 ·exact(b0c' (a0R' _)).nodup_iff.mpr (a7K' ho).1
theorem a5W'(lo:Int):∀n:Nat,a0s' lo (n+1)=a0s' lo n++[lo+n]
 |0=>by simp[a0s']
 |n+1=>by
  have ih:=a5W' (lo+1) n
  show lo::a0s' (lo+1) (n+1)=lo::a0s' (lo+1) n++[_]
  rw[ih,List.cons_append,show lo+1+(n:Int)=lo+((n+1:Nat):Int)by omega]
section
variable {S T:Store}{m:Int}{ts ps:List (Int×Int)}{n:Nat}
theorem draw1{A:List D}{k:Int}(hS:Flat S)(hp:PenAt S n)(ha:lowL 0 A=true)(h0:0<k)(h1:k<1000):∃r S',0≤r∧r<k∧Drawn n S S'∧a0n' [.ref n,.int k] (S++[A])=.ok (.int r) (S'++[A]):=by
 obtain⟨x,y,h⟩:=id hp
 have hlt:=(Zh.mp h).1
 obtain⟨r,T,r0,r1,⟨a,b,rfl⟩,e⟩:=K21.a6s' (hS.snoc ha) (n:=n) (S:=S++[A]) ⟨x,y,by rw[Zo hlt];exact h⟩ h0 h1
 refine⟨r,S.set n [.int a,.int b],r0,r1,⟨a,b,rfl⟩,?_⟩
 rw[a7J',e,List.set_append_left _ _ hlt]
theorem a8u'{Φ:FT}{ρ:Rho}{e:CE}{A:List D}{k:Int}(hf:Φ "_law_draw"=some a0n')(hS:Flat S)(hp:PenAt S n)(ha:lowL 0 A=true)(h0:0<k)(h1:k<1000)(hr:ρ[0]?=some (some (.ref n)))(he:∀T,den Φ G0 e ρ T=.ok (.int k) T):∃r S',0≤r∧r<k∧Drawn n S S'∧den Φ G0 (.call "_law_draw" [.var 0,e]) ρ (S++[A])=.ok (.int r) (S'++[A]):=by
 obtain⟨r,S',r0,r1,d,e1⟩:=draw1 hS hp ha h0 h1
 refine⟨r,S',r0,r1,d,?_⟩
 simp only[den,denL,hf,hr,he,Res.bind,e1]
theorem b5F'{A:List D}{i:Int}{d:D}(h0:0≤i)(h1:i≤A.length)(h2:A.length≤1000):a6K' (.ref T.length) [.int i,d] (T++[A])=.ok .non (T++[A.take i.toNat++d::A.drop i.toNat]):=by
 unfold a6K'
 simp only[boxE]
 rw[if_pos ⟨h0,h1,by show _<16777216;omega⟩,setE]
theorem b2a'{step:D→Rho→Store→Res Fl}{x1:Option D}{xs:List (Option D)}(hs:∀e ρ S',4≤ρ.length→step e ρ S'=denSs a0f' G0 lgI (ρ.set 3 (some e)) S'):∀(q k:Nat) (o:List Int) (S:Store) (x3:Option D),k+q≤8→o.Perm (a0s' 0 k)→Flat S→PenAt S n→∃(o':List Int) (S':Store) (y3:Option D),o'.Perm (a0s' 0 (k+q))∧Drawn n S S'∧
  forD step ((a0s' (k:Int) q).map D.int) (some (.ref n)::x1::some (.ref S.length)::x3::xs) (S++[o.map D.int])=.ok (.next (some (.ref n)::x1::some (.ref S.length)::y3::xs)) (S'++[o'.map D.int])
 |0,k,o,S,x3,_,ho,_,hp=>⟨o,S,x3,ho,.refl hp,rfl⟩
 |q+1,k,o,S,x3,hk,ho,hS,hp=>by
  have hl:o.length=k:=by rw[ho.length_eq,K21.a0g']
  obtain⟨r,S1,r0,r1,d1,e1⟩:=a8u' (Φ:=a0f') (ρ:=some (.ref n)::x1::some (.ref S.length)::some (.int (k:Nat))::xs) (e:=.bin .Add (.var 3) (.lit (.int 1))) (A:=o.map D.int) (k:=(k:Int)+1) a0z' hS hp (K21.a3j' o) (by omega) (by omega) rfl (fun T=>a2B' (a0i' (i:=3) rfl) a1O' rfl)
  have hS1:=d1.flat hS
  have hl1:=d1.len
  have hi:=b5F' (T:=S1) (A:=o.map D.int) (i:=r) (d:=.int (k:Nat)) r0 (by rw[Zk];omega) (by rw[Zk];omega)
  have em:(o.map D.int).take r.toNat++D.int (k:Nat)::(o.map D.int).drop r.toNat=(o.take r.toNat++(k:Int)::o.drop r.toNat).map D.int:=by
   rw[List.map_append,ZA,List.map_take,List.map_drop]
  rw[em]at hi
  have hperm:(o.take r.toNat++(k:Int)::o.drop r.toNat).Perm (a0s' 0 (k+1)):=by
   rw[a5W',Int.zero_add]
   refine(List.perm_middle).trans ?_
   rw[List.take_append_drop]
   exact(List.Perm.cons _ ho).trans (List.perm_append_singleton _ _).symm
  have e2:denSs a0f' G0 lgI (some (.ref n)::x1::some (.ref S.length)::some (.int (k:Nat))::xs) (S++[o.map D.int])=.ok (.next (some (.ref n)::x1::some (.ref S.length)::some (.int (k:Nat))::xs)) (S1++[(o.take r.toNat++(k:Int)::o.drop r.toNat).map D.int]):=by
   unfold lgI
   refine(a0l' ?_).trans rfl
   rw[hl1]at hi
   generalize(CE.call "_law_draw" [.var 0,.bin .Add (.var 3) (.lit (.int 1))])=c at e1⊢
   simp only[denS,den,denL,Res.bind,e1,methD,hi,Res.noErr,Zf,Zi]
  obtain⟨o',S',y3,p',d',e'⟩:=b2a' hs q (k+1) (o.take r.toNat++(k:Int)::o.drop r.toNat) S1 (some (.int (k:Nat))) (by omega) hperm hS1 (d1.pen hp)
  refine⟨o',S',y3,by rw[show k+(q+1)=k+1+q by omega];exact p',d1.trans d',?_⟩
  show forD step (D.int (k:Nat)::(a0s' ((k:Int)+1) q).map D.int) _ _=_
  unfold forD
  rw[hs _ _ _ (by simp)]
  show Res.bind (denSs a0f' G0 lgI (some (.ref n)::x1::some (.ref S.length)::some (.int (k:Nat))::xs) (S++[o.map D.int])) _=_
  rw[e2]
  rw[hl1]at e'
  exact e'
theorem idx_at{d:D}{o:List Int}{i:Nat}(hd:seqOf T d=some (o.map D.int))(h:i<o.length):idxD d (.int (i:Nat)) T=.ok (.int (gI o i)) T:=by
 have e:atI (o.map D.int) ((i:Nat):Int)=some (.int (gI o i)):=by
  unfold atI ixN
  rw[Zk,if_pos (by omega),if_pos (by omega)]
  show(o.map D.int)[((i:Nat):Int).toNat]?=_
  rw[Int.toNat_natCast]
  exact b1O' h
 unfold idxD
 simp only[hd,e]
theorem lgC_den{o:List Int}{b:Nat}(hb:T[b]?=some (o.map D.int))(h1:1≤o.length)(h8:o.length≤8){x0:Option D}{xs:List (Option D)}:den a0f' G0 lgC (x0::some (.int (o.length:Nat))::some (.ref b)::xs) T=.ok (.lst (tiesD (a0m' o))) T:=by
 have e:=a7G' (S:=T) (Φ:=a0f') (N:=["_law_at","_law_order"]) (fr:=[none,some 2]) (tg:=.var 0) (e:=.blt .tuple [.blt (.sorted false (.int)) [.lst false [.idx (.var 1) (.var 0),.idx (.var 1) (.bin .Add (.var 0) (.lit (.int 1)))]]]) (it:=.range [.bin .Sub (.var 1) (.lit (.int 1))]) (ρ:=x0::some (.int (o.length:Nat))::some (.ref b)::xs) (ds:=List.range (o.length-1)) (h:=fun i:Nat=>D.int (i:Nat)) (r0:=[none,some (.ref b)]) (rs:=fun i:Nat=>[some (.int (i:Nat)),some (.ref b)]) (f:=fun i=>tieD (tieAt o i)) ?_ rfl (fun _ _=>rfl) (by rw[List.length_range];omega) (fun i hi=>by
  have hi:=Ya.mp hi
  have i0:=idx_at (T:=T) (d:=.ref b) (o:=o) (i:=i) hb (by omega)
  have i1:=idx_at (T:=T) (d:=.ref b) (o:=o) (i:=i+1) hb (by omega)
  have ha:opD .Add (.int (i:Nat)) (.int 1) T=.ok (.int ((i+1:Nat):Int)) T:=rfl
  have h1:=K21.a3n' (S:=T) (d:=.lst [.int (gI o i),.int (gI o (i+1))]) (l:=[gI o i,gI o (i+1)]) rfl (by simp)
  rw[sort2]at h1
  refine a2X' (S:=T) (a2X' (S:=T) (d:=.lst [.int (gI o i),.int (gI o (i+1))]) ?_ h1) ?_
  ·simp only[den,denL,Res.bind,Res.noErr,i0,ha,i1,Zf,Zi,Zx,Z4]
  ·rfl)
 ·have e2:tiesD (a0m' o)=(List.range (o.length-1)).map fun i=>tieD (tieAt o i):=by
   rw[←b1Y']
   unfold tiesD
   rw[List.map_map]
   rfl
  rw[e2]
  exact e
 ·refine rng_n (by omega) (a2B' (a0i' (i:=1) rfl) a1O' ?_)
  show Res.ok (D.int (((o.length:Nat):Int)-1)) T=_
  congr 2
  omega
theorem b0d'{m:Int}(h1:2≤m)(h2:m≤8):m*(m-1)/2=((a3Y' m.toNat).length:Nat)∧0<((a3Y' m.toNat).length:Int)∧((a3Y' m.toNat).length:Int)<1000:=by
 have:m=2∨m=3∨m=4∨m=5∨m=6∨m=7∨m=8:=by omega
 rcases this with rfl|rfl|rfl|rfl|rfl|rfl|rfl<;>decide
theorem idx_tie{l:List (Int×Int)}{r:Int}(h0:0≤r)(h1:r<(l.length:Nat)):∃t∈l,idxD (.lst (tiesD l)) (.int r) T=.ok (tieD t) T:=by
 have hn:r.toNat<l.length:=by omega
 refine⟨l[r.toNat],Z3 hn,?_⟩
 have:atI (tiesD l) r=some (tieD l[r.toNat]):=by
  unfold atI ixN tiesD
  rw[Zk,if_pos h0,if_pos h1]
  show(l.map tieD)[r.toNat]?=_
  rw[ZN,Ze hn]
  rfl
 unfold idxD
 simp only[seqOf,this]
theorem mul_0(x:D):opD .Mult (.lst [x]) (.int 0) T=.ok (.lst []) T:=by simp[opD,mulD]
theorem mul_1(x:D):opD .Mult (.lst [x]) (.int 1) T=.ok (.lst [x]) T:=by simp[opD,mulD]
structure Tis (m:Int)(L:List (Int×Int)):Prop where
 nd:L.Nodup
 ok:∀t∈L,0≤t.1∧t.1<t.2∧t.2<m
theorem b3p'(hS:Flat S)(hp:PenAt S n){A:List D}(ha:lowL 0 A=true)(h1:2≤m)(h2:m≤8){L:List (Int×Int)}(hL:Tis m L)(hl:L.length≤100){x2 x3 x5 x6 x7:Option D}:∃(L':List (Int×Int)) (S':Store) (y7:Option D),Tis m L'∧(∀t∈L,t∈L')∧L'.length≤L.length+1∧Drawn n S S'∧
  denSs a0f' G0 lgB [some (.ref n),some (.int m),x2,x3,some (.lst (tiesD L)),x5,x6,x7] (S++[A])=.ok (.next [some (.ref n),some (.int m),x2,x3,some (.lst (tiesD L')),x5,x6,y7]) (S'++[A]):=by
 obtain⟨c1,c2,c3⟩:=b0d' h1 h2
 obtain⟨r,S1,r0,r1,d1,e1⟩:=a8u' (Φ:=a0f') (ρ:=[some (.ref n),some (.int m),x2,x3,some (.lst (tiesD L)),x5,x6,x7]) (e:=.bin .FloorDiv (.bin .Mult (.var 1) (.bin .Sub (.var 1) (.lit (.int 1)))) (.lit (.int 2))) (A:=A) (k:=((a3Y' m.toNat).length:Nat)) a0z' hS hp ha (by omega) (by omega) rfl (fun T=>by
  rw[←c1]
  exact a2B' (a2B' (a0i' (i:=1) rfl) (a2B' (a0i' (i:=1) rfl) a1O' rfl) (K21.o_mul (.inl (by omega)))) a1O' (K21.o_div (by omega)))
 have hpe:a0X' [.int m] (S++[A])=.ok (.lst (tiesD (a3Y' m.toNat))) (S++[A]):=K21.a8o' (hS.snoc ha) (by omega) h2
 obtain⟨t,ht,ei⟩:=idx_tie (T:=S1++[A]) (l:=a3Y' m.toNat) r0 r1
 have hv:=(K21.a9h' (m:=m) (by omega) h2).tie t ht
 have ea:den a0f' G0 (.idx (.call "_law_pairs" [.var 1]) (.call "_law_draw" [.var 0,.bin .FloorDiv (.bin .Mult (.var 1) (.bin .Sub (.var 1) (.lit (.int 1)))) (.lit (.int 2))])) [some (.ref n),some (.int m),x2,x3,some (.lst (tiesD L)),x5,x6,x7] (S++[A])=.ok (tieD t) (S1++[A]):=by
  refine a7H' (S:=S++[A]) (S1:=S++[A]) (d:=.lst (tiesD (a3Y' m.toNat))) ?_ e1 ei
  simp only[den,denL,Res.bind,a2U',hpe,Zi,Zf]
 have hin:cmpD .NotIn (tieD t) (.lst (tiesD L)) (S1++[A])=.ok (.bl (!decide (t∈L))) (S1++[A]):=by
  show boolR ((inD (tieD t) (.tup (tiesD L)) (S1++[A])).map not) _=_
  rw[a7w'];rfl
 have hint:∀b:Bool,bltD .int [.bl b] (S1++[A])=.ok (.int (if b=true then 1 else 0)) (S1++[A]):=fun b=>rfl
 by_cases hm:t∈L
 ·refine⟨L,S1,some (tieD t),hL,fun _ h=>h,by omega,d1,?_⟩
  unfold lgB
  refine(a0K' ea).trans ?_
  show denSs _ _ _ [some (.ref n),some (.int m),x2,x3,some (.lst (tiesD L)),x5,x6,some (tieD t)] (S1++[A])=_
  refine(a0K' (d:=.lst (tiesD L)) (S':=S1++[A]) ?_).trans rfl
  refine a2B' (e:=.lst []) (a0i' (i:=4) rfl) (a2B' (S1:=S1++[A]) (d:=.lst [tieD t]) (e:=.int 0) ?_ ?_ ?_) ?_
  ·simp only[den,denL,Res.bind,Zi,Zf,Zx,Z4]
  ·refine a2X' (S:=S1++[A]) (a8r' (a0i' (i:=7) rfl) (a0i' (i:=4) rfl) hin) ?_
   rw[hint,Zy hm]
   rfl
  ·exact mul_0 _
  ·have:=a9m' (S:=S1++[A]) (p:=tiesD L) (q:=[]) (by unfold tiesD;rw[Zk];simp;omega)
   rw[List.append_nil]at this
   exact this
 ·refine⟨L++[t],S1,some (tieD t),⟨ZO.mpr ⟨hL.nd,by simp,fun a ha b hb e=>?_⟩,fun u hu=>?_⟩,fun u h=>Z0 _ h,by simp,d1,?_⟩
  ·have:=ZR.mp hb
   subst this
   exact hm (e▸ha)
  ·rcases ZB.mp hu with hu|hu
   ·exact hL.ok u hu
   ·rw[ZR.mp hu];exact hv
  ·unfold lgB
   refine(a0K' ea).trans ?_
   show denSs _ _ _ [some (.ref n),some (.int m),x2,x3,some (.lst (tiesD L)),x5,x6,some (tieD t)] (S1++[A])=_
   refine(a0K' (d:=.lst (tiesD (L++[t]))) (S':=S1++[A]) ?_).trans rfl
   refine a2B' (e:=.lst [tieD t]) (a0i' (i:=4) rfl) (a2B' (S1:=S1++[A]) (d:=.lst [tieD t]) (e:=.int 1) ?_ ?_ ?_) ?_
   ·simp only[den,denL,Res.bind,Zi,Zf,Zx,Z4]
   ·refine a2X' (S:=S1++[A]) (a8r' (a0i' (i:=7) rfl) (a0i' (i:=4) rfl) hin) ?_
    rw[hint,Zz hm]
    rfl
   ·exact mul_1 _
   ·have:=a9m' (S:=S1++[A]) (p:=tiesD L) (q:=[tieD t]) (by unfold tiesD;rw[Zk];simp;omega)
    rw[this]
    unfold tiesD
    rw[List.map_append]
    rfl
theorem a9u'{A:List D}(ha:lowL 0 A=true)(h1:2≤m)(h2:m≤8){x2 x3 x5:Option D}{step:D→Rho→Store→Res Fl}(hs:∀e ρ S',ρ.length=8→step e ρ S'=denSs a0f' G0 lgB (ρ.set 6 (some e)) S'):∀(is:List D) (L:List (Int×Int)) (S:Store) (x6 x7:Option D),Flat S→PenAt S n→Tis m L→L.length+is.length≤50→∃(L':List (Int×Int)) (S':Store) (y6 y7:Option D),Tis m L'∧(∀t∈L,t∈L')∧L'.length≤L.length+is.length∧Drawn n S S'∧
  forD step is [some (.ref n),some (.int m),x2,x3,some (.lst (tiesD L)),x5,x6,x7] (S++[A])=.ok (.next [some (.ref n),some (.int m),x2,x3,some (.lst (tiesD L')),x5,y6,y7]) (S'++[A])
 | [],L,S,x6,x7,hS,hp,hL,_=>⟨L,S,x6,x7,hL,fun _ h=>h,by simp,.refl hp,rfl⟩
 |i::is,L,S,x6,x7,hS,hp,hL,hl=>by
  rw[Zs]at hl
  obtain⟨L1,S1,y7,a1,a2,a3,a4,e⟩:=b3p' hS hp ha h1 h2 hL (by omega) (x2:=x2) (x3:=x3) (x5:=x5) (x6:=some i) (x7:=x7)
  obtain⟨L2,S2,z6,z7,b1,b2,b3,b4,e2⟩:=a9u' ha h1 h2 hs is L1 S1 (some i) y7 (a4.flat hS) (a4.pen hp) a1 (by omega)
  refine⟨L2,S2,z6,z7,b1,fun t ht=>b2 t (a2 t ht),by rw[Zs];omega,a4.trans b4,?_⟩
  unfold forD
  rw[hs _ _ _ rfl]
  show Res.bind (denSs a0f' G0 lgB [some (.ref n),some (.int m),x2,x3,some (.lst (tiesD L)),x5,some i,x7] (S++[A])) _=_
  rw[e]
  exact e2
theorem rng_k{j:Int}{ρ:Rho}{es:List CE}{Φ:FT}{Γ:Str→Option D}(h0:0≤j)(h1:j≤1000)(h:denL Φ Γ es ρ S=.ok [.int j] T):denI Φ Γ (.range es) ρ S=.ok (.items (a1A' 0 j.toNat)) T:=by
 have hb:(-4611686018427387904:Int)≤j∧j<4611686018427387904:=by omega
 simp[denI,Res.bind,h,hb]
theorem c_lg_is:a2x'=[.asg 1 lgA,.asg 2 (.lst true []),.for_ (.var 3) (.range [.var 1]) lgI,.asg 4 lgC,.asg 5 lgP,.for_ (.var 6) (.range [.call "_law_draw" [.var 0,.lit (.int 4)]]) lgB,.ret lgR]:=rfl
theorem long_eq(hS:Flat S)(hp:PenAt S n):∃(m:Int) (ts ps:List (Int×Int)) (S':Store),Web m ts∧Pairing ts ps∧ps.length≤28∧Drawn n S S'∧a1L' [.ref n] S=.ok (.tup [webD m ts,.tup (tiesD ps)]) S':=by
 obtain⟨r,S1,r0,r1,d1,e1⟩:=K21.a6s' (m:=4) hS hp (by omega) (by omega)
 have hS1:=d1.flat hS
 have hp1:=d1.pen hp
 have ea:den a0f' G0 lgA [some (.ref n),none,none,none,none,none,none,none] S=.ok (.int (2+2*r)) S1:=by
  have e1':den a0f' G0 (.call "_law_draw" [.var 0,.lit (.int 4)]) [some (.ref n),none,none,none,none,none,none,none] S=.ok (.int r) S1:=by
   rw[←a7J']at e1
   simp only[den,denL,Res.bind,a0z',e1,Zf]
  exact a2B' a1O' (a2B' a1O' e1' (K21.o_mul (.inl (by omega)))) rfl
 obtain⟨k,hk⟩:∃k:Nat,2+2*r=(k:Int):=⟨(2+2*r).toNat,by omega⟩
 rw[hk]at ea
 have hk2:2≤k:=by omega
 have hk8:k≤8:=by omega
 obtain⟨o,S2,y3,op,d2,e2⟩:=b2a' (n:=n) (x1:=some (.int (k:Nat))) (xs:=[none,none,none,none]) (step:=fun x ρ S=>match asgCT (.var 3) x ρ with
   |some ρ'=>denSs a0f' G0 lgI ρ' S
   |none=>.fail) (fun e ρ S' hr=>by
    have:asgCT (.var 3) e ρ=some (ρ.set 3 (some e)):=rfl
    simp only[this]) k 0 [] S1 none (by omega) (by simp[a0s']) hS1 hp1
 have hS2:=d2.flat hS1
 have hp2:=d2.pen hp1
 have hl2:=d2.len
 rw[Nat.zero_add]at op
 have ol:o.length=k:=by rw[op.length_eq,K21.a0g']
 have ond:o.Nodup:=op.nodup_iff.mpr K21.a0H'
 have oin:∀x∈o,0≤x∧x<(k:Int):=fun x hx=>by
  have:=K21.a0Q' (op.mem_iff.mp hx)
  omega
 have hlow:lowL 0 (o.map D.int)=true:=K21.a3j' o
 obtain⟨q,S3,q0,q1,d3,e3⟩:=a8u' (Φ:=a0f') (ρ:=[some (.ref n),some (.int (k:Nat)),some (.ref S1.length),y3,some (.lst (tiesD (a0m' o))),some (.tup (tiesD (sortI (oddL (a0m' o))))),none,none]) (e:=.lit (.int 4)) (A:=o.map D.int) (k:=4) a0z' hS2 hp2 hlow (by omega) (by omega) rfl (fun T=>a1O')
 have hS3:=d3.flat hS2
 have hp3:=d3.pen hp2
 have hal:=a9s' o
 have hT0:Tis (k:Int) (a0m' o):=⟨a4a' ond,b1Z' ond oin⟩
 obtain⟨L,S4,z6,z7,t1,t2,t3,d4,e4⟩:=a9u' (n:=n) hlow (m:=(k:Int)) (by omega) (by omega) (x2:=some (.ref S1.length)) (x3:=y3) (x5:=some (.tup (tiesD (sortI (oddL (a0m' o)))))) (step:=fun x ρ S=>match asgCT (.var 6) x ρ with
   |some ρ'=>denSs a0f' G0 lgB ρ' S
   |none=>.fail) (fun e ρ S' hr=>by
    have:asgCT (.var 6) e ρ=some (ρ.set 6 (some e)):=rfl
    simp only[this]) (a1A' 0 q.toNat) (a0m' o) S3 none none hS3 hp3 hT0 (by rw[a1r',Zk,K21.a0g'];omega)
 have hrl:(a1A' 0 q.toNat).length=q.toNat:=by rw[a1r',Zk,K21.a0g']
 have hL12:L.length≤12:=by omega
 have hol:=b0I' (a0m' o)
 refine⟨(k:Int),sortI L,sortI (oddL (a0m' o)),S4,a6r' (by omega) (by omega) t1.nd t1.ok (by omega),a8t' ond t2,by rw[(a0R' _).length_eq];omega,((d1.trans d2).trans d3).trans d4,?_⟩
 have hS4:=d4.flat hS3
 have hlen4:S4.length=S.length:=by rw[d4.len,d3.len,d2.len,d1.len]
 have hd:denSs a0f' G0 a2x' [some (.ref n),none,none,none,none,none,none,none] S=.ok (.ret (.tup [webD (k:Int) (sortI L),.tup (tiesD (sortI (oddL (a0m' o))))])) (S4++[o.map D.int]):=by
  rw[c_lg_is]
  refine(a0K' ea).trans ?_
  show denSs _ _ _ [some (.ref n),some (.int (k:Nat)),none,none,none,none,none,none] S1=_
  refine(a0K' (d:=.ref S1.length) (S':=S1++[([]:List Int).map D.int]) (by simp only[den,denL,Res.bind,if_true];rfl)).trans ?_
  show denSs _ _ _ [some (.ref n),some (.int (k:Nat)),some (.ref S1.length),none,none,none,none,none] (S1++[([]:List Int).map D.int])=_
  have hI1:denI a0f' G0 (.range [.var 1]) [some (.ref n),some (.int (k:Nat)),some (.ref S1.length),none,none,none,none,none] (S1++[([]:List Int).map D.int])=.ok (.items ((a0s' 0 k).map D.int)) (S1++[([]:List Int).map D.int]):=by
   have:=rng_k (S:=S1++[([]:List Int).map D.int]) (T:=S1++[([]:List Int).map D.int]) (Φ:=a0f') (Γ:=G0) (j:=(k:Int)) (es:=[.var 1]) (ρ:=[some (.ref n),some (.int (k:Nat)),some (.ref S1.length),none,none,none,none,none]) (by omega) (by omega) (by simp only[denL,den,Res.bind,Zi,Zf])
   rw[Int.toNat_natCast,a1r']at this
   exact this
  have e2':denS a0f' G0 (.for_ (.var 3) (.range [.var 1]) lgI) [some (.ref n),some (.int (k:Nat)),some (.ref S1.length),none,none,none,none,none] (S1++[([]:List Int).map D.int])=.ok (.next [some (.ref n),some (.int (k:Nat)),some (.ref S1.length),y3,none,none,none,none]) (S2++[o.map D.int]):=by
   rw[a6q' hI1]
   exact e2
  refine(a0l' e2').trans ?_
  have hb2:(S2++[o.map D.int])[S1.length]?=some (o.map D.int):=by rw[←hl2];exact boxE
  have eC:=lgC_den (T:=S2++[o.map D.int]) (o:=o) (b:=S1.length) hb2 (by omega) (by omega) (x0:=some (.ref n)) (xs:=[y3,none,none,none,none])
  rw[ol]at eC
  refine(a0K' eC).trans ?_
  show denSs _ _ _ [some (.ref n),some (.int (k:Nat)),some (.ref S1.length),y3,some (.lst (tiesD (a0m' o))),none,none,none] (S2++[o.map D.int])=_
  have eP:den a0f' G0 lgP [some (.ref n),some (.int (k:Nat)),some (.ref S1.length),y3,some (.lst (tiesD (a0m' o))),none,none,none] (S2++[o.map D.int])=.ok (.tup (tiesD (sortI (oddL (a0m' o))))) (S2++[o.map D.int]):=by
   have hs:=a1Y' (S:=S2++[o.map D.int]) (d:=.lst (tiesD (oddL (a0m' o)))) (l:=oddL (a0m' o)) rfl (by omega)
   refine a2X' (S:=S2++[o.map D.int]) (a2X' (S:=S2++[o.map D.int]) (d:=.lst (tiesD (oddL (a0m' o)))) ?_ hs) rfl
   have ho:oddD (.lst (tiesD (a0m' o))) (.int 1) (.int 2) (S2++[o.map D.int])=.ok (.lst (tiesD (oddL (a0m' o)))) (S2++[o.map D.int]):=by
    show Res.ok (D.lst (oddL (tiesD (a0m' o)))) _=_
    unfold tiesD
    rw[b4c']
   simp only[den,Res.bind,ho,Res.noErr,Zi,Zf]
  refine(a0K' eP).trans ?_
  show denSs _ _ _ [some (.ref n),some (.int (k:Nat)),some (.ref S1.length),y3,some (.lst (tiesD (a0m' o))),some (.tup (tiesD (sortI (oddL (a0m' o))))),none,none] (S2++[o.map D.int])=_
  have hI2:denI a0f' G0 (.range [.call "_law_draw" [.var 0,.lit (.int 4)]]) [some (.ref n),some (.int (k:Nat)),some (.ref S1.length),y3,some (.lst (tiesD (a0m' o))),some (.tup (tiesD (sortI (oddL (a0m' o))))),none,none] (S2++[o.map D.int])=.ok (.items (a1A' 0 q.toNat)) (S3++[o.map D.int]):=by
   refine rng_k (by omega) (by omega) ?_
   generalize(CE.call "_law_draw" [.var 0,.lit (.int 4)])=c at e3⊢
   simp only[denL,e3,Res.bind]
  have e4':denS a0f' G0 (.for_ (.var 6) (.range [.call "_law_draw" [.var 0,.lit (.int 4)]]) lgB) [some (.ref n),some (.int (k:Nat)),some (.ref S1.length),y3,some (.lst (tiesD (a0m' o))),some (.tup (tiesD (sortI (oddL (a0m' o))))),none,none] (S2++[o.map D.int])=.ok (.next [some (.ref n),some (.int (k:Nat)),some (.ref S1.length),y3,some (.lst (tiesD L)),some (.tup (tiesD (sortI (oddL (a0m' o))))),z6,z7]) (S4++[o.map D.int]):=by
   rw[a6q' hI2]
   exact e4
  refine(a0l' e4').trans ?_
  have hs:=a1Y' (S:=S4++[o.map D.int]) (d:=.lst (tiesD L)) (l:=L) rfl (by omega)
  refine a3k' (K21.a5l' ?_)
  refine K21.a5a' (S1:=S4++[o.map D.int]) (K21.a5a' (S1:=S4++[o.map D.int]) (a0i' (i:=1) rfl) (a2X' (S:=S4++[o.map D.int]) (a2X' (S:=S4++[o.map D.int]) (a0i' (i:=4) rfl) hs) rfl)) (a0i' (i:=5) rfl)
 show runD a0f' G0 a2x' a4S'.length 1 [.ref n] S=_
 have hd':denSs a0f' G0 a2x' (([.ref n]:List D).map some++List.replicate (a4S'.length-1) none) S=_:=hd
 unfold runD
 rw[if_pos (show([.ref n]:List D).length=1 from rfl),hd']
 show trim S.length (.tup [webD (k:Int) (sortI L),.tup (tiesD (sortI (oddL (a0m' o))))]) (S4++[o.map D.int])=_
 have hst:(S4++[o.map D.int]).take S.length=S4:=by rw[←hlen4,List.take_left]
 have hlo:lowD 0 (.tup [webD (k:Int) (sortI L),.tup (tiesD (sortI (oddL (a0m' o))))])=true:=by
  show(lowD 0 (webD (k:Int) (sortI L))&&(lowL 0 (tiesD (sortI (oddL (a0m' o))))&&true))=true
  rw[K21.b3P',K21.a1X']
  rfl
 rw[K21.a2J' (by rw[hst];exact hS4) hlo,hst]
end
end K21
end
section
namespace K21
open PySem PySem.Spec PyProof.Rows L2 Py
theorem cell_eq{S:Store}(hS:Flat S)(ns:List Int):∃c:Int,a1K' [.scr (ns.map D.int),.int 0] S=.ok (.int c) S:=by
 cases ns with
 |nil=>exact⟨0,a0y' rfl rfl rfl hS rfl⟩
 |cons n ns=>
  refine⟨n,a0y' rfl ?_ rfl hS rfl⟩
  have h1:lenD [.scr ((n::ns).map D.int)] S=.ok (.int ((n::ns).map D.int).length) S:=rfl
  have h2:cmpD .Lt (.int 0) (.int ((n::ns).map D.int).length) S=.ok (.bl true) S:=by
   have:cmpD .Lt (.int 0) (.int ((n::ns).map D.int).length) S=.ok (.bl (decide ((0:Int)<((n::ns).map D.int).length))) S:=rfl
   rw[this,Zy (by simp)]
  have h3:idxD (.scr ((n::ns).map D.int)) (.int 0) S=.ok (.int n) S:=by
   unfold idxD
   have:atI ((n::ns).map D.int) 0=some (.int n):=by
    unfold atI ixN
    simp
    try omega
   simp only[seqOf,this]
  generalize(n::ns).map D.int=xs at h1 h2 h3
  simp[a7n',a7m',denSs,denS,denT,den,denL,Res.bind,Res.noErr,onBl,bltD,h1,h2,h3]
theorem pen_eq{S:Store}(hS:Flat S)(c:Int):∃b:Int,a2H' [.int c] S=.ok (.ref S.length) (S++[[.int c,.int b]]):=by
 refine⟨if decide ((10:Int)^18≤c)=true then 1 else 0,?_⟩
 have e:denSs a6k' G0 a4v' ([D.int c].map some++List.replicate (a4u'.length-1) none) S=.ok (.ret (.ref S.length)) (S++[[.int c,.int (if decide ((10:Int)^18≤c)=true then 1 else 0)]]):=by
  have h1:powD (.int 10) (.int 18) S=.ok (.int ((10:Int)^18)) S:=rfl
  have h2:cmpD .GtE (.int c) (.int ((10:Int)^18)) S=.ok (.bl (decide ((10:Int)^18≤c))) S:=rfl
  have h3:∀k,intD [.bl k] S=.ok (.int (if k=true then 1 else 0)) S:=fun k=>rfl
  generalize(10:Int)^18=T at*
  simp only[a4v',a4u',denSs,denS,den,denL,Res.bind,Res.noErr,bltD,opD,h1,h2,h3,ZA,List.map_nil,Zs,Z6,List.cons_append,Zf,if_true]
 show runD a6k' G0 a4v' a4u'.length 1 [.int c] S=_
 unfold runD
 rw[if_pos (show [D.int c].length=1 from rfl),e]
 show trim S.length (.ref S.length) _=_
 unfold trim
 rw[List.take_left' rfl,if_pos hS.all,if_neg (by unfold lowD;simp)]
 simp[lowL,lowD]
end K21
end
section
namespace K21
open PySem PySem.Spec PyProof.Rows L2 Py
section
variable {S T:Store}{m:Int}{ts ps:List Ti}{n:Nat}
theorem T_and{Φ:FT}{a b:CE}{ρ:Rho}{x y:Bool}(h1:denT Φ G0 a ρ S=.ok x S)(h2:denT Φ G0 b ρ S=.ok y S):denT Φ G0 (.band a b) ρ S=.ok (x&&y) S:=by
 simp only[denT,h1,Res.bind]
 cases x
 ·simp
 ·simp[h2]
theorem T_c3{Φ:FT}{f:Str}{φ:List D→Store→Res D}{a b c:CE}{ρ:Rho}{x y z:D}{k:Bool}(hf:Φ f=some φ)(h1:den Φ G0 a ρ S=.ok x S)(h2:den Φ G0 b ρ S=.ok y S)(h3:den Φ G0 c ρ S=.ok z S)(h:φ [x,y,z] S=.ok (.bl k) S):denT Φ G0 (.call f [a,b,c]) ρ S=.ok k S:=by
 simp only[denT,denL,hf,h1,h2,h3,Res.bind,h,truD]
theorem b4d'{p:List Int}(h1:1≤p.length){Φ:FT}{ρ:Rho}(h0:ρ[0]?=some (some (ntD p))):den Φ G0 lsE ρ T=.ok (.int (lastI p)) T:=by
 refine a7H' (e:=.int (-1)) (a0i' h0) ?_ (a6x' (S:=T) (d:=ntD p) (ns:=p) rfl h1)
 simp only[den,Res.bind]
theorem c_st_is:a3P'=[.asg 2 stG,.asg 3 (.lst true []),.while_ 12 (.var 2) stB,.ret (.var 3)]:=rfl
theorem b5G'{p:List Int}{x:Int}:cmpD .NotIn (.int x) (ntD p) T=.ok (.bl (!decide (x∈p))) T:=by
 have:=b3S' (S:=T) (d:=ntD p) (l:=p) rfl x
 show boolR ((inD (.int x) (ntD p) T).map not) _=_
 rw[this];rfl
theorem rng_m{j:Int}{ρ:Rho}{e:CE}{Φ:FT}(h0:0≤j)(h1:j≤1000)(h:den Φ G0 e ρ T=.ok (.int j) T):denI Φ G0 (.range [e]) ρ T=.ok (.items ((a0s' 0 j.toNat).map D.int)) T:=by
 rw[←a1r']
 refine K21.rng_k h0 h1 ?_
 simp only[denL,h,Res.bind]
theorem stC_den(hT:Flat T)(W:Web m ts){G:List (List Int)}(hG:∀s∈G,1≤s.length∧s.length≤100)(hl:G.length≤100000){x3:Option D}:den a0d' G0 stC [some (webD m ts),some (.tup (tiesD ps)),some (.lst (G.map ntD)),x3] T=.ok (.lst ((G.flatMap (sKid m ts ps)).map ntD)) T:=by
 have w1:=W.lo
 have w2:=W.hi
 refine a2A' (its:=.items (G.map ntD)) (S1:=T) (a5m' (S:=T) (a0i' (i:=2) rfl) rfl) ?_
 have hk:∀s:List Int,((sKid m ts ps s).map ntD).length≤8:=fun s=>by
  rw[Zk]
  unfold sKid
  rw[Zk]
  refine ZL (ZS _ _) ?_
  rw[K21.a0g']
  omega
 have key:=a4X' (f:=ntD) (g:=fun s=>(sKid m ts ps s).map ntD) (c:=8) (S:=T) (step:=fun x acc S2=>match a0p' (.var 0) x [none,none,some (.tup (tiesD ps)),some (webD m ts)]with
    |some ρ'=>(denTs a0d' G0 [] ρ' S2).bind fun k S3=>if k=true then denB a0d' G0 (.inner (.var 1) (.range [.idx (.var 3) (.lit (.int 0))]) [stT] (.emit stE)) ρ' acc S3 else .ok acc S3
    |none=>.fail) hk G [] (fun s hs acc hac=>by
   have hac:acc.length+8≤16777216:=hac
   obtain⟨s1,s2⟩:=hG s hs
   have h1:a0p' (.var 0) (ntD s) [none,none,some (.tup (tiesD ps)),some (webD m ts)]=some [some (ntD s),none,some (.tup (tiesD ps)),some (webD m ts)]:=rfl
   have hI:denI a0d' G0 (.range [.idx (.var 3) (.lit (.int 0))]) [some (ntD s),none,some (.tup (tiesD ps)),some (webD m ts)] T=.ok (.items ((a0s' 0 m.toNat).map D.int)) T:=rng_m (by omega) (by omega) (a7H' (a0i' (i:=3) rfl) a1O' rfl)
   have hin:=a1z' (f:=D.int) (p:=fun p=> !decide (p∈s)&&(tied ts (lastI s) p&&(mateI ps p).isSome)) (e:=fun p=>ntD (s++[p,(mateI ps p).getD 0])) (S:=T) (step:=fun x acc S2=>match a0p' (.var 1) x [some (ntD s),none,some (.tup (tiesD ps)),some (webD m ts)]with
    |some ρ'=>(denTs a0d' G0 [stT] ρ' S2).bind fun k S3=>if k=true then denB a0d' G0 (.emit stE) ρ' acc S3 else .ok acc S3
    |none=>.fail) (a0s' 0 m.toNat) acc (fun p _ acc ha=>by
     have ha':acc.length<16777216:=ha
     have h2:a0p' (.var 1) (.int p) [some (ntD s),none,some (.tup (tiesD ps)),some (webD m ts)]=some [some (ntD s),some (.int p),some (.tup (tiesD ps)),some (webD m ts)]:=rfl
     have hm:a1U' [.tup (tiesD ps),.int p] T=.ok (optD (mateI ps p)) T:=K21.a7y' hT ps p
     have hh:a1b' [webD m ts,.int (lastI s),.int p] T=.ok (.bl (tied ts (lastI s) p)) T:=K21.a5Q' hT m ts _ _
     have t:denT a0d' G0 stT [some (ntD s),some (.int p),some (.tup (tiesD ps)),some (webD m ts)] T=.ok (!decide (p∈s)&&(tied ts (lastI s) p&&(mateI ps p).isSome)) T:=
      T_and (T_cm (S:=T) (a0i' (i:=1) rfl) (a0i' (i:=0) rfl) b5G') (T_and (T_c3 a2P' (a0i' (i:=3) rfl) (b4d' s1 rfl) (a0i' (i:=1) rfl) hh) (T_cm (S:=T) (a3E' a1o' (a0i' (i:=2) rfl) (a0i' (i:=1) rfl) hm) a1O' (b3m' _)))
     show(match a0p' (.var 1) (.int p) [some (ntD s),none,some (.tup (tiesD ps)),some (webD m ts)]with
      |some ρ'=>(denTs a0d' G0 [stT] ρ' T).bind fun k S3=>if k=true then denB a0d' G0 (.emit stE) ρ' acc S3 else .ok acc S3
      |none=>.fail)=_
     rw[h2]
     cases hb:(!decide (p∈s)&&(tied ts (lastI s) p&&(mateI ps p).isSome))with
     |false=>
      rw[hb]at t
      simp only[denTs,t,Res.bind,Zx,Z4]
     |true=>
      rw[hb]at t
      have hso:(mateI ps p).isSome=true:=by
       rw[Zr,Zr]at hb
       exact hb.2.2
      obtain⟨q,hq⟩:=Option.isSome_iff_exists.mp hso
      rw[hq]at hm⊢
      have e:den a0d' G0 stE [some (ntD s),some (.int p),some (.tup (tiesD ps)),some (webD m ts)] T=.ok (ntD (s++[p,q])) T:=by
       refine a2B' (e:=.tup [.int p,.int q]) (a0i' (i:=0) rfl) ?_ ?_
       ·exact K21.a5a' (S1:=T) (a0i' (i:=1) rfl) (a3E' a1o' (a0i' (i:=2) rfl) (a0i' (i:=1) rfl) hm)
       ·have:=b1N' (S:=T) (p:=s.map D.int) (q:=[.int p,.int q]) (by rw[Zk];simp;omega)
        have e9:ntD (s++[p,q])=.tup (s.map D.int++[.int p,.int q]):=by unfold ntD;rw[List.map_append];rfl
        rw[e9]
        exact this
      simp only[denTs,t,Res.bind,if_true,denB,e,ha',Option.getD_some]) (by rw[K21.a0g'];show _≤16777216;omega)
   have e2:(sKid m ts ps s).map ntD=((a0s' 0 m.toNat).filter fun p=> !decide (p∈s)&&(tied ts (lastI s) p&&(mateI ps p).isSome)).map fun p=>ntD (s++[p,(mateI ps p).getD 0]):=by
    unfold sKid
    rw[List.map_map]
    rfl
   show(match a0p' (.var 0) (ntD s) [none,none,some (.tup (tiesD ps)),some (webD m ts)]with
    |some ρ'=>(denTs a0d' G0 [] ρ' T).bind fun k S3=>if k=true then denB a0d' G0 (.inner (.var 1) (.range [.idx (.var 3) (.lit (.int 0))]) [stT] (.emit stE)) ρ' acc S3 else .ok acc S3
    |none=>.fail)=_
   rw[h1,e2]
   simp only[denTs,Res.bind,if_true,denB,hI]
   exact hin) (by show 0+8*G.length≤16777216;omega)
 rw[List.map_flatMap]
 exact key
theorem a8v'(W:Web m ts):∀k:Nat,(stemN m ts ps k).length≤8^(k+1)
 |0=>by
  have w1:=W.lo
  have w2:=W.hi
  unfold stemN a0q'
  rw[Zk]
  refine ZL (ZS _ _) ?_
  rw[K21.a0g']
  omega
 |k+1=>by
  have w1:=W.lo
  have w2:=W.hi
  have ih:=a8v' W k
  unfold stemN
  have:=K21.a6z' (f:=sKid m ts ps) (c:=8) (R:=stemN m ts ps k) fun p _=>by
   unfold sKid
   rw[Zk]
   refine ZL (ZS _ _) ?_
   rw[K21.a0g']
   omega
  rw[Nat.pow_succ]
  omega
theorem b5H'(O:Ok2 m ts ps):stemN m ts ps 4=[]:=by
 cases h:stemN m ts ps 4 with
 |nil=>rfl
 |cons p r=>
  have hp:p∈stemN m ts ps 4:=by rw[h];exact Zb
  obtain⟨h1,h2⟩:=(a1C' O 4).mp hp
  have:=h1.len8 O.W
  omega
theorem tru_lst(xs:List D):truD T (.lst xs)=some (!xs.isEmpty):=rfl
theorem a7L'(O:Ok2 m ts ps)(hT:Flat T):∀(f k:Nat),5≤k+f→k≤4→∃y2,a2f' (denT a0d' G0 (.var 2)) (denSs a0d' G0 stB) f [some (webD m ts),some (.tup (tiesD ps)),some (.lst ((stemN m ts ps k).map ntD)),some (.ref T.length)] (T++[((List.range k).flatMap (stemN m ts ps)).map ntD])=.ok (.next [some (webD m ts),some (.tup (tiesD ps)),y2,some (.ref T.length)]) (T++[(stems m ts ps).map ntD])
 |0,k,h,h4=>absurd h (by omega)
 |f+1,k,h,h4=>by
  have hT2:∀A:List (List Int),Flat (T++[A.map ntD]):=fun A=>hT.snoc (a5b' A)
  have tv:denT a0d' G0 (.var 2) [some (webD m ts),some (.tup (tiesD ps)),some (.lst ((stemN m ts ps k).map ntD)),some (.ref T.length)] (T++[((List.range k).flatMap (stemN m ts ps)).map ntD])=.ok (!((stemN m ts ps k).map ntD).isEmpty) (T++[((List.range k).flatMap (stemN m ts ps)).map ntD]):=by
   simp only[denT,Zi,Zf,tru_lst]
  unfold a2f'
  rw[tv]
  cases he:stemN m ts ps k with
  |nil=>
   refine⟨some (.lst (([]:List (List Int)).map ntD)),?_⟩
   have e:(List.range k).flatMap (stemN m ts ps)=stems m ts ps:=by
    have nx:∀j,stemN m ts ps (k+j)=[]:=by
     intro j
     induction j with
     |zero=>exact he
     |succ j ih=>show(stemN m ts ps (k+j)).flatMap _=[];rw[ih];rfl
    have key:∀j,(List.range (k+j)).flatMap (stemN m ts ps)=(List.range k).flatMap (stemN m ts ps):=by
     intro j
     induction j with
     |zero=>rfl
     |succ j ih=>
      rw[show k+(j+1)=k+j+1 from rfl,List.range_succ,List.flatMap_append,ih]
      simp[nx j]
    have:=key (4-k)
    rw[show k+(4-k)=4 by omega]at this
    exact this.symm
   rw[e]
   rfl
  |cons p R=>
   have hk:k≤3:=by
    rcases Nat.lt_or_ge k 4 with z|z
    ·omega
    ·have:k=4:=by omega
     subst this
     rw[b5H' O]at he
     cases he
   rw[←he]
   have hne:(!((stemN m ts ps k).map ntD).isEmpty)=true:=by rw[he];rfl
   have hlen:∀j,j≤4→(stemN m ts ps j).length≤32768:=fun j hj=>ZL (a8v' O.W j) (Nat.pow_le_pow_right (by omega) (show j+1≤5 by omega))
   have hA:((List.range k).flatMap (stemN m ts ps)).length≤200000:=by
    have:k=0∨k=1∨k=2∨k=3:=by omega
    have h0:=hlen 0 (by omega);have h1:=hlen 1 (by omega);have h2:=hlen 2 (by omega)
    rcases this with rfl|rfl|rfl|rfl<;>simp[List.range_succ,List.flatMap_append]<;>omega
   have hau:augD (.ref T.length) (.lst ((stemN m ts ps k).map ntD)) (T++[((List.range k).flatMap (stemN m ts ps)).map ntD])=.ok (.ref T.length) (T++[((List.range (k+1)).flatMap (stemN m ts ps)).map ntD]):=by
    unfold augD
    simp only[boxE,Py.a3G']
    have:=hlen k (by omega)
    rw[if_pos (by rw[Zk,Zk];show _≤16777216;omega),setE,List.range_succ,List.flatMap_append,←List.map_append]
    simp
   have eb:denSs a0d' G0 stB [some (webD m ts),some (.tup (tiesD ps)),some (.lst ((stemN m ts ps k).map ntD)),some (.ref T.length)] (T++[((List.range k).flatMap (stemN m ts ps)).map ntD])=.ok (.next [some (webD m ts),some (.tup (tiesD ps)),some (.lst ((stemN m ts ps (k+1)).map ntD)),some (.ref T.length)]) (T++[((List.range (k+1)).flatMap (stemN m ts ps)).map ntD]):=by
    have ec:=stC_den (T:=T++[((List.range (k+1)).flatMap (stemN m ts ps)).map ntD]) (ps:=ps) (hT2 _) O.W (G:=stemN m ts ps k) (fun s hs=>by
     have:=(a1C' O k).mp hs
     omega) (by have:=hlen k (by omega);omega) (x3:=some (.ref T.length))
    unfold stB
    refine(a0l' (ρ':=[some (webD m ts),some (.tup (tiesD ps)),some (.lst ((stemN m ts ps k).map ntD)),some (.ref T.length)]) (S':=T++[((List.range (k+1)).flatMap (stemN m ts ps)).map ntD]) ?_).trans ?_
    ·generalize webD m ts=w at*
     generalize(D.lst ((stemN m ts ps k).map ntD))=L at*
     simp only[denS,den,Res.bind,hau,Res.noErr,Zi,Zf]
     rfl
    ·exact(a0K' ec).trans rfl
   obtain⟨y2,ih⟩:=a7L' O hT f (k+1) (by omega) (by omega)
   refine⟨y2,?_⟩
   show(Res.bind (.ok (!((stemN m ts ps k).map ntD).isEmpty) _) fun b S1=>if b=true then Res.bind (denSs a0d' G0 stB _ S1) _ else _)=_
   rw[hne]
   show Res.bind (denSs a0d' G0 stB _ _) _=_
   rw[eb]
   exact ih
theorem b5I'(O:Ok2 m ts ps)(hS:Flat S)(hp:ps.length≤28):a2F' [webD m ts,.tup (tiesD ps)] S=.ok (.ref S.length) (S++[(stems m ts ps).map ntD]):=by
 refine K21.run_box rfl ?_ hS (a5b' _)
 show denSs a0d' G0 a3P' [some (webD m ts),some (.tup (tiesD ps)),none,none] S=_
 have hlo:a1c' [webD m ts,.tup (tiesD ps)] S=.ok (.tup ((a0q' m ps).map D.int)) S:=K21.a5O' hS O.W.lo O.W.hi ts ps
 have hll:(a0q' m ps).length≤8:=by
  have h1:=O.W.lo
  have h2:=O.W.hi
  refine ZL (ZS _ _) ?_
  rw[K21.a0g']
  omega
 have e2:den a0d' G0 stG [some (webD m ts),some (.tup (tiesD ps)),none,none] S=.ok (.lst ((stemN m ts ps 0).map ntD)) S:=by
  have:=a7G' (S:=S) (Φ:=a0d') (N:=["place"]) (fr:=[none]) (tg:=.var 0) (e:=.tup [.var 0]) (it:=.seq (.call "loose_of" [.var 0,.var 1])) (ρ:=[some (webD m ts),some (.tup (tiesD ps)),none,none]) (ds:=a0q' m ps) (h:=D.int) (r0:=[none]) (rs:=fun i=>[some (.int i)]) (f:=fun i=>ntD [i]) (a5m' (S:=S) (a3E' a2O' (a0i' (i:=0) rfl) (a0i' (i:=1) rfl) hlo) rfl) rfl (fun _ _=>rfl) (by omega) (fun i _=>by simp only[den,denL,Res.bind,Zf];rfl)
  unfold stemN
  rw[List.map_map]
  exact this
 obtain⟨y2,ew⟩:=a7L' O hS 12 0 (by omega) (by omega)
 rw[c_st_is]
 refine(a0K' e2).trans ?_
 show denSs a0d' G0 _ [some (webD m ts),some (.tup (tiesD ps)),some (.lst ((stemN m ts ps 0).map ntD)),none] S=_
 refine(a0K' (d:=.ref S.length) (S':=S++[([]:List (List Int)).map ntD]) (by simp only[den,denL,Res.bind,if_true];rfl)).trans ?_
 show denSs a0d' G0 _ [some (webD m ts),some (.tup (tiesD ps)),some (.lst ((stemN m ts ps 0).map ntD)),some (.ref S.length)] (S++[([]:List (List Int)).map ntD])=_
 refine(a0l' (ρ':=[some (webD m ts),some (.tup (tiesD ps)),y2,some (.ref S.length)]) (S':=S++[(stems m ts ps).map ntD]) ?_).trans (a3k' (K21.a5l' (a0i' (i:=3) rfl)))
 rw[denS]
 exact ew
end
end K21
end
section
namespace K21
open PySem PySem.Spec PyProof.Rows L2 Py
theorem b2b':a1K'=K21.a1K':=rfl
theorem b3q':a2H'=K21.a2H':=rfl
theorem b3r':a2I'=K21.a2I':=rfl
theorem a7M':a0M'=K21.a0M':=rfl
theorem b2c':a1L'=K21.a1L':=rfl
section
variable {S T:Store}{m:Int}{ts ps:List Ti}{n:Nat}
theorem b2d'{α:Type}{f:α→D}{g:α→List D}{c:Nat}{step:D→List D→Store→Res (List D)}{k:Nat}{xs:List α}(hg:∀x,(g x).length≤c)(hk:S[k]?=some (xs.map f))(h:∀x∈xs,∀acc,acc.length+c≤big→step (f x) acc S=.ok (acc++g x) S):∀n i acc,i+n=xs.length→acc.length+c*n≤big→compB step (a1D' k) (n+1) i acc S=.ok (acc++(xs.drop i).flatMap g) S:=by
 have hb:∀i,a1D' k S i=some ((xs.map f)[i]?):=fun i=>by unfold a1D';rw[hk];rfl
 intro n
 induction n with
 |zero=>
  intro i acc hi _
  unfold compB
  rw[hb,List.getElem?_eq_none (by rw[Zk];omega),List.drop_eq_nil_of_le (by omega)]
  simp
 |succ n ih=>
  intro i acc hi hl
  rw[Nat.mul_add,Nat.mul_one]at hl
  have hx:(xs.map f)[i]?=some (f xs[i]):=by rw[ZN,Ze (by omega)];rfl
  unfold compB
  rw[hb,hx,ZZ (by omega)]
  dsimp only
  rw[h _ (Z3 _) acc (by omega)]
  refine(ih (i+1) (acc++g xs[i]) (by omega) (by have:=hg xs[i];rw[Zm];omega)).trans ?_
  rw[List.flatMap_cons,Zu]
theorem c_aw_is:a2r'=[.expr (.call "must_be_pairing" [.var 0,.var 1]),.asg 2 (.call "loose_of" [.var 0,.var 1]),.asg 3 (.call "all_stems" [.var 0,.var 1]),.ret (.blt (.sorted true (.seq .int)) [awC])]:=rfl
theorem awC_den(O:Ok2 m ts ps)(hT:Flat T){b:Nat}(hb:T[b]?=some ((stems m ts ps).map ntD))(hl:(stems m ts ps).length≤200000){x1:Option D}:den a0j' G0 awC [some (webD m ts),x1,some (ntD (a0q' m ps)),some (.ref b)] T=.ok (.lst ((waysA m ts ps).map ntD)) T:=by
 have w1:=O.W.lo
 have w2:=O.W.hi
 have hll:(a0q' m ps).length≤8:=by
  refine ZL (ZS _ _) ?_
  rw[K21.a0g']
  omega
 have hk:∀s:List Int,((endsI m ts ps s).map ntD).length≤8:=fun s=>by
  rw[Zk]
  unfold endsI
  rw[Zk]
  exact ZL (ZS _ _) hll
 have hI0:denI a0j' G0 (.seq (.var 3)) [some (webD m ts),x1,some (ntD (a0q' m ps)),some (.ref b)] T=.ok (.live ((stems m ts ps).length+1) (a1D' b)) T:=by
  simp only[denI,den,Res.bind,Zi,Zf,a1f',hb,Option.getD_some,Zk]
 refine a2A' hI0 ?_
 have key:=b2d' (f:=ntD) (g:=fun s=>(endsI m ts ps s).map ntD) (c:=8) (S:=T) (k:=b) (xs:=stems m ts ps) (step:=fun x acc S2=>match a0p' (.var 0) x [none,none,some (webD m ts),some (ntD (a0q' m ps))]with
    |some ρ'=>(denTs a0j' G0 [] ρ' S2).bind fun k S3=>if k=true then denB a0j' G0 (.inner (.var 1) (.seq (.var 3)) [awT] (.emit awE)) ρ' acc S3 else .ok acc S3
    |none=>.fail) hk hb (fun s hs acc hac=>by
   have hac:acc.length+8≤16777216:=hac
   have hs1:=((a6B' O).mp hs).1
   have s1:=hs1.ne
   have s8:=hs1.len8 O.W
   have h1:a0p' (.var 0) (ntD s) [none,none,some (webD m ts),some (ntD (a0q' m ps))]=some [some (ntD s),none,some (webD m ts),some (ntD (a0q' m ps))]:=rfl
   have hI:denI a0j' G0 (.seq (.var 3)) [some (ntD s),none,some (webD m ts),some (ntD (a0q' m ps))] T=.ok (.items ((a0q' m ps).map D.int)) T:=a5m' (S:=T) (a0i' (i:=3) rfl) rfl
   have hin:=a1z' (f:=D.int) (p:=fun e=>decide (gI s 0<e)&&tied ts (lastI s) e) (e:=fun e=>ntD (s++[e])) (S:=T) (step:=fun x acc S2=>match a0p' (.var 1) x [some (ntD s),none,some (webD m ts),some (ntD (a0q' m ps))]with
    |some ρ'=>(denTs a0j' G0 [awT] ρ' S2).bind fun k S3=>if k=true then denB a0j' G0 (.emit awE) ρ' acc S3 else .ok acc S3
    |none=>.fail) (a0q' m ps) acc (fun e _ acc ha=>by
     have ha':acc.length<16777216:=ha
     have h2:a0p' (.var 1) (.int e) [some (ntD s),none,some (webD m ts),some (ntD (a0q' m ps))]=some [some (ntD s),some (.int e),some (webD m ts),some (ntD (a0q' m ps))]:=rfl
     have hh:a1b' [webD m ts,.int (lastI s),.int e] T=.ok (.bl (tied ts (lastI s) e)) T:=K21.a5Q' hT m ts _ _
     have t:denT a0j' G0 awT [some (ntD s),some (.int e),some (webD m ts),some (ntD (a0q' m ps))] T=.ok (decide (gI s 0<e)&&tied ts (lastI s) e) T:=
      T_and (T_cm (S:=T) (a7H' (a0i' (i:=0) rfl) a1O' (a6y' (S:=T) (d:=ntD s) (ns:=s) rfl s1)) (a0i' (i:=1) rfl) rfl) (T_c3 a3e' (a0i' (i:=2) rfl) (b4d' s1 rfl) (a0i' (i:=1) rfl) hh)
     have ee:den a0j' G0 awE [some (ntD s),some (.int e),some (webD m ts),some (ntD (a0q' m ps))] T=.ok (ntD (s++[e])) T:=by
      refine a2B' (e:=.tup [.int e]) (a0i' (i:=0) rfl) (by simp only[den,denL,Res.bind,Zi,Zf]) ?_
      have:=b1N' (S:=T) (p:=s.map D.int) (q:=[.int e]) (by rw[Zk];simp;omega)
      have e9:ntD (s++[e])=.tup (s.map D.int++[.int e]):=by unfold ntD;rw[List.map_append];rfl
      rw[e9]
      exact this
     show(match a0p' (.var 1) (.int e) [some (ntD s),none,some (webD m ts),some (ntD (a0q' m ps))]with
      |some ρ'=>(denTs a0j' G0 [awT] ρ' T).bind fun k S3=>if k=true then denB a0j' G0 (.emit awE) ρ' acc S3 else .ok acc S3
      |none=>.fail)=_
     rw[h2]
     cases hb2:(decide (gI s 0<e)&&tied ts (lastI s) e)with
     |false=>
      rw[hb2]at t
      simp only[denTs,t,Res.bind,Zx,Z4]
     |true=>
      rw[hb2]at t
      simp only[denTs,t,Res.bind,if_true,denB,ee,ha']) (by show _≤16777216;omega)
   have e2:(endsI m ts ps s).map ntD=((a0q' m ps).filter fun e=>decide (gI s 0<e)&&tied ts (lastI s) e).map fun e=>ntD (s++[e]):=by
    unfold endsI
    rw[List.map_map]
    rfl
   show(match a0p' (.var 0) (ntD s) [none,none,some (webD m ts),some (ntD (a0q' m ps))]with
    |some ρ'=>(denTs a0j' G0 [] ρ' T).bind fun k S3=>if k=true then denB a0j' G0 (.inner (.var 1) (.seq (.var 3)) [awT] (.emit awE)) ρ' acc S3 else .ok acc S3
    |none=>.fail)=_
   rw[h1,e2]
   simp only[denTs,Res.bind,if_true,denB,hI]
   exact hin) (stems m ts ps).length 0 [] (by simp) (by show 0+8*(stems m ts ps).length≤16777216;omega)
 rw[List.nil_append,List.drop_zero]at key
 unfold waysA
 rw[List.map_flatMap]
 exact key
def dueL(m:Int)(ts ps:List Ti):List D:=a2Z' (ltK (.seq .int)) ((a5n' m ts ps).map ntD)
theorem b5J'(O:Ok2 m ts ps):a2Z' (ltK (.seq .int)) ((waysA m ts ps).map ntD)=dueL m ts ps:=by
 have hty:∀F:List (List Int),∀x∈F.map ntD,hasTy (.seq .int) x=true:=fun F x hx=>by
  obtain⟨p,_,rfl⟩:=ZC.mp hx
  show(p.map D.int).all (hasTy .int)=true
  rw[ZF]
  intro y hy
  obtain⟨n,_,rfl⟩:=ZC.mp hy
  rfl
 exact a4E' rfl (hty _) ((a1a' _ _).trans ((a9r' O).map ntD)) (a4D' (lordK (.seq .int) rfl) _ (hty _))
theorem a9v':lowL 0 (dueL m ts ps)=true:=K21.a3Z'.mpr fun x hx=>by
 obtain⟨p,_,rfl⟩:=ZC.mp ((a1a' _ _).mem_iff.mp hx)
 exact b5s' p
theorem b3s'(O:Ok2 m ts ps):(stems m ts ps).length≤200000:=by
 have hlen:∀j,j≤4→(stemN m ts ps j).length≤32768:=fun j hj=>ZL (a8v' O.W j) (Nat.pow_le_pow_right (by omega) (show j+1≤5 by omega))
 have h0:=hlen 0 (by omega);have h1:=hlen 1 (by omega);have h2:=hlen 2 (by omega);have h3:=hlen 3 (by omega)
 unfold stems
 simp[List.range_succ,List.flatMap_append]
 omega
theorem b2e'(O:Ok2 m ts ps)(hS:Flat S)(hp:ps.length≤28):a1G' [webD m ts,.tup (tiesD ps)] S=.ok (.ref S.length) (S++[dueL m ts ps]):=by
 have hlo:a1c' [webD m ts,.tup (tiesD ps)] S=.ok (.tup ((a0q' m ps).map D.int)) S:=K21.a5O' hS O.W.lo O.W.hi ts ps
 have hmb:a0A' [webD m ts,.tup (tiesD ps)] S=.ok .non S:=K21.a3l' hS O.W O.P (by omega)
 have hst:=b5I' O hS hp
 have hT:Flat (S++[(stems m ts ps).map ntD]):=hS.snoc (a5b' _)
 have hc:=awC_den O hT (b:=S.length) boxE (b3s' O) (x1:=some (.tup (tiesD ps)))
 have hwl:(waysA m ts ps).length<65536:=by
  have h1:=(a9r' O).length_eq
  have h2:=(a9o' hS O.W hp).2.1
  omega
 have hso:=(b1T' (S:=S++[(stems m ts ps).map ntD]) (F:=waysA m ts ps) (fun p hq=>((b1X' O).mp hq).1.ne) hwl (d:=.lst ((waysA m ts ps).map ntD)) rfl).2
 rw[b5J' O]at hso
 have hd:denSs a0j' G0 a2r' [some (webD m ts),some (.tup (tiesD ps)),none,none] S=.ok (.ret (.ref (S.length+1))) (S++[(stems m ts ps).map ntD]++[dueL m ts ps]):=by
  rw[c_aw_is]
  refine(a0l' (ρ':=[some (webD m ts),some (.tup (tiesD ps)),none,none]) (S':=S) ?_).trans ?_
  ·generalize webD m ts=w at*
   simp only[denS,den,denL,Res.bind,a1t',hmb,Zi,Zf]
  refine(a0K' (K21.a3E' a3d' (a0i' (i:=0) rfl) (a0i' (i:=1) rfl) hlo)).trans ?_
  show denSs a0j' G0 _ [some (webD m ts),some (.tup (tiesD ps)),some (ntD (a0q' m ps)),none] S=_
  refine(a0K' (d:=.ref S.length) (S':=S++[(stems m ts ps).map ntD]) ?_).trans ?_
  ·generalize webD m ts=w at*
   simp only[den,denL,Res.bind,a2Q',hst,Zi,Zf]
  show denSs a0j' G0 _ [some (webD m ts),some (.tup (tiesD ps)),some (ntD (a0q' m ps)),some (.ref S.length)] (S++[(stems m ts ps).map ntD])=_
  refine a3k' (K21.a5l' ?_)
  rw[Zm]at hso
  generalize awC=q at hc⊢
  simp only[den,denL,hc,Res.bind,bltD,hso,Res.noErr]
  rfl
 show runD a0j' G0 a2r' a4O'.length 2 [webD m ts,.tup (tiesD ps)] S=_
 have hd':denSs a0j' G0 a2r' (([webD m ts,.tup (tiesD ps)]:List D).map some++List.replicate (a4O'.length-2) none) S=_:=hd
 unfold runD
 rw[if_pos (show [webD m ts,D.tup (tiesD ps)].length=2 from rfl),hd']
 show trim S.length (.ref (S.length+1)) _=_
 unfold trim
 rw[Zu,List.take_left' rfl,if_pos hS.all,if_neg (by unfold lowD;simp)]
 have hg:(S++([(stems m ts ps).map ntD]++[dueL m ts ps]))[S.length+1]?=some (dueL m ts ps):=by
  rw[Zv (by omega)]
  simp
 simp only[hg]
 rw[if_pos ⟨K21.a1W' _ a9v',by omega⟩]
def frD:List D→D
 | []=>.non
 |d::_=>d
theorem b4e':∃F:List (List Int),dueL m ts ps=F.map ntD:=by
 obtain⟨F,e,_⟩:=K21.nts_of (Q:=fun _=>True) (dueL m ts ps) fun d hd=>by
  obtain⟨p,_,rfl⟩:=ZC.mp ((a1a' _ _).mem_iff.mp hd)
  exact⟨p,trivial,rfl⟩
 exact⟨F,e⟩
theorem b5K'(O:Ok2 m ts ps)(hS:Flat S)(hp:ps.length≤28):a1H' [webD m ts,.tup (tiesD ps)] S=.ok (frD (dueL m ts ps)) S:=by
 have ha:=b2e' O hS hp
 have hlow:=a9v' (m:=m) (ts:=ts) (ps:=ps)
 generalize dueL m ts ps=L at*
 have hlo:lowD 0 (frD L)=true:=by
  cases L with
  |nil=>rfl
  |cons d L=>
   have:(lowD 0 d&&lowL 0 L)=true:=hlow
   rw[Zr]at this
   exact this.1
 have hd:denSs a1l' G0 a2G' [some (webD m ts),some (.tup (tiesD ps)),none] S=.ok (.ret (frD L)) (S++[L]):=by
  have htr:truD (S++[L]) (.ref S.length)=some (!L.isEmpty):=by simp only[truD,seqOf,boxE];rfl
  refine(a0K' (d:=.ref S.length) (S':=S++[L]) ?_).trans ?_
  ·generalize webD m ts=w at*
   simp only[den,denL,Res.bind,a2R',ha,Zi,Zf]
  ·show denSs a1l' G0 _ [some (webD m ts),some (.tup (tiesD ps)),some (.ref S.length)] (S++[L])=_
   refine a3k' (K21.a5l' ?_)
   cases L with
   |nil=>
    simp only[den,denT,Res.bind,Zi,Zf,htr]
    rfl
   |cons d L=>
    have hi:idxD (.ref S.length) (.int 0) (S++[d::L])=.ok d (S++[d::L]):=by
     have e:atI (d::L) 0=some d:=by
      unfold atI ixN
      rw[if_pos (by omega),if_pos (by simp)]
      rfl
     unfold idxD
     simp only[seqOf,boxE,e]
    simp only[den,denT,Res.bind,Zi,Zf,htr,hi,Res.noErr]
    rfl
 show runD a1l' G0 a2G' a3Q'.length 2 [webD m ts,.tup (tiesD ps)] S=_
 have hd':denSs a1l' G0 a2G' (([webD m ts,.tup (tiesD ps)]:List D).map some++List.replicate (a3Q'.length-2) none) S=_:=hd
 unfold runD
 rw[if_pos (show [webD m ts,D.tup (tiesD ps)].length=2 from rfl),hd']
 show trim S.length (frD L) _=_
 rw[K21.a2J' (by rw[List.take_left' rfl];exact hS) hlo,List.take_left' rfl]
theorem zip_l{step:D→Rho→Store→Res Fl}{a:Nat}{ls:List (List Int)}(ha:T[a]?=some (ls.map ntD)){da db:Option D}
  (hs:∀(l:List Int) (x y:Option D),step (.tup [ntD l,ntD l]) [da,db,x,y] T=.ok (.next [da,db,some (ntD l),some (ntD l)]) T):
  ∀(f i:Nat) (x y:Option D),ls.length<f+i→i≤ls.length→∃x' y',forB step (a6a' (.ref a) (.lst (ls.map ntD))) f i [da,db,x,y] T=.ok (.next [da,db,x',y']) T
 |0,i,x,y,h,h'=>absurd h (by omega)
 |f+1,i,x,y,h,h'=>by
  have hz:a6a' (.ref a) (.lst (ls.map ntD)) T i=some (match(ls.map ntD)[i]?,(ls.map ntD)[i]? with
   |some x,some y=>some (.tup [x,y])
   |_,_=>none):=by
   unfold a6a'
   simp only[seqOf,ha]
   all_goals rfl
  unfold forB
  rw[hz]
  rw[ZN]
  cases e:ls[i]? with
  |none=>exact⟨x,y,rfl⟩
  |some l=>
   simp only[Option.map_some]
   rw[hs]
   exact zip_l ha hs f (i+1) _ _ (by omega) (Zh.mp e).1
theorem same_rl(hT:Flat T){a:Nat}{ls:List (List Int)}(ha:T[a]?=some (ls.map ntD)):a1p' [.ref a,.lst (ls.map ntD)] T=.ok (.bl true) T:=by
 show a0h' (5+1) _ T=_
 refine a0y' rfl ?_ rfl hT rfl
 have ta:b4y' T (.ref a)=some "list":=by simp[b4y',ha]
 have h9':lenD [.lst (ls.map ntD)] T=.ok (.int ls.length) T:=by simp[lenD,seqOf]
 have h11:zipOf T (.ref a) (.lst (ls.map ntD))=some (.live (ls.length+1) (a6a' (.ref a) (.lst (ls.map ntD)))):=by
  simp[zipOf,isLst,b0J',seqOf,ha]
 have hzl:=fun(da db:Option D) (step:D→Rho→Store→Res Fl)=>zip_l (T:=T) (step:=step) (a:=a) (ls:=ls) ha (da:=da) (db:=db)
 have h1:a0t' [.lst (ls.map ntD),.ty "bool"] T=.ok (.bl false) T:=rfl
 have h2:a0t' [.lst (ls.map ntD),.ty "int"] T=.ok (.bl false) T:=rfl
 have h3:a0t' [.lst (ls.map ntD),.ty "str"] T=.ok (.bl false) T:=rfl
 have h4:cmpD .Is (.lst (ls.map ntD)) .non T=.ok (.bl false) T:=rfl
 have h5:a0t' [.ref a,.ty "list"] T=.ok (.bl true) T:=by simp only[a0t',ta];rfl
 have h5b:a0t' [.lst (ls.map ntD),.ty "list"] T=.ok (.bl true) T:=rfl
 have h6:a0t' [.ref a,.ty "tuple"] T=.ok (.bl false) T:=by simp only[a0t',ta];rfl
 have h6b:a0t' [.lst (ls.map ntD),.ty "tuple"] T=.ok (.bl false) T:=rfl
 have h7:cmpD .NotEq (.bl false) (.bl false) T=.ok (.bl false) T:=rfl
 have h8:cmpD .NotEq (.bl true) (.bl true) T=.ok (.bl false) T:=rfl
 have h9:lenD [.ref a] T=.ok (.int ls.length) T:=by simp[lenD,seqOf,ha]
 have h10:cmpD .NotEq (.int ls.length) (.int ls.length) T=.ok (.bl false) T:=by
  have:cmpD .NotEq (.int ls.length) (.int ls.length) T=.ok (.bl (!((ls.length:Int)==ls.length))) T:=rfl
  rw[this];simp
 generalize D.lst (ls.map ntD)=L at*
 unfold a1d'
 refine(a0l' (ρ':=[some (.ref a),some L,none,none]) (S':=T) (by simp[a0P',denS,denSs,denT,den,denL,Res.bind,Res.noErr,onBl,bltD,h4])).trans ?_
 refine(a0l' (ρ':=[some (.ref a),some L,none,none]) (S':=T) (by simp[denS,denSs,denT,den,denL,Res.bind,Res.noErr,onBl,bltD,h1,truD])).trans ?_
 refine(a0l' (ρ':=[some (.ref a),some L,none,none]) (S':=T) (by simp[denS,denSs,denT,den,denL,Res.bind,Res.noErr,onBl,bltD,h2,truD])).trans ?_
 refine(a0l' (ρ':=[some (.ref a),some L,none,none]) (S':=T) (by simp[denS,denSs,denT,den,denL,Res.bind,Res.noErr,onBl,bltD,h3,truD])).trans ?_
 refine(a0l' (ρ':=[some (.ref a),some L,none,none]) (S':=T) (by simp[denS,denSs,denT,den,denL,Res.bind,Res.noErr,onBl,bltD,h5,h5b,h6,h6b,h7,h8,truD])).trans ?_
 refine(a0l' (ρ':=[some (.ref a),some L,none,none]) (S':=T) (by simp[denS,denSs,denT,den,denL,Res.bind,Res.noErr,onBl,bltD,h9,h9',h10,truD])).trans ?_
 obtain⟨x',y',e⟩:=hzl (some (.ref a)) (some L) (fun x ρ S=>match asgCT (.tup [.var 2,.var 3]) x ρ with
   |some ρ'=>denSs (tbl [("_law_same",a0h' 5)]) G0 [.ite (.bnot (.call "_law_same" [.var 2,.var 3])) [.ret (.lit (.bl false))] []] ρ' S
   |none=>.fail) (fun l x y=>by
    have hq:a0h' 5 [ntD l,ntD l] T=.ok (.bl true) T:=K21.a5T' hT 3 l
    generalize ntD l=z at hq
    simp[asgCT,asgVs,denSs,denS,denT,den,denL,Res.bind,tbl,hq,truD]) (ls.length+1) 0 none none (by omega) (by omega)
 have hI:denI (tbl [("_law_same",a0h' 5)]) G0 (.zip [.var 0,.var 1]) [some (.ref a),some L,none,none] T=.ok (.live (ls.length+1) (a6a' (.ref a) L)) T:=by
  simp only[denI,denL,den,Res.bind,Zf,Zi,h11]
 exact(a0l' (ρ':=[some (.ref a),some L,x',y']) (S':=T) ((a6q' hI).trans e)).trans rfl
theorem c_rt_is:a1M'=[.asg 2 (.call "_law_ways" [.var 0,.var 1]),.for_ (.var 3) (.range [.lit (.int 2)]) rtB,.ret rtR]:=rfl
theorem turn21(O:Ok2 m ts ps)(hS:Flat S)(hp:ps.length≤28){i:Option D}{x4:Option D}:denSs a0k' G0 rtB [some (webD m ts),some (.tup (tiesD ps)),some (.lst (dueL m ts ps)),i,x4] S=.ok (.next [some (webD m ts),some (.tup (tiesD ps)),some (.lst (dueL m ts ps)),i,some (.ref S.length)]) (S++[dueL m ts ps++[.tup []]]):=by
 have ha:=b2e' O hS hp
 have hbl:(dueL m ts ps).length≤62216:=by
  have h2:=(a9o' hS O.W hp).2.1
  unfold dueL
  rw[(a1a' _ _).length_eq,Zk]
  exact h2
 obtain⟨F,hF⟩:=b4e' (m:=m) (ts:=ts) (ps:=ps)
 have hs:a1p' [.ref S.length,.lst (dueL m ts ps)] (S++[dueL m ts ps])=.ok (.bl true) (S++[dueL m ts ps]):=by
  have hf:Flat (S++[dueL m ts ps]):=hS.snoc a9v'
  rw[hF]at hf⊢
  exact same_rl hf boxE
 have hap:=b1M' (T:=S) (A:=dueL m ts ps) (d:=.tup []) (by show _<16777216;omega)
 generalize dueL m ts ps=L at*
 generalize webD m ts=w at*
 unfold rtB
 refine(a0K' (d:=.ref S.length) (S':=S++[L]) (by simp only[den,denL,Res.bind,a2W',ha,Zi,Zf])).trans ?_
 show denSs a0k' G0 _ [some w,some (.tup (tiesD ps)),some (.lst L),i,some (.ref S.length)] (S++[L])=_
 refine(b1P' (T_not (k:=true) ?_)).trans ?_
 ·simp only[denT,denL,den,Res.bind,a1g',hs,truD,Zi,Zf]
 ·refine(a0l' (ρ':=[some w,some (.tup (tiesD ps)),some (.lst L),i,some (.ref S.length)]) (S':=S++[L++[.tup []]]) ?_).trans rfl
  simp only[denS,den,denL,Res.bind,methD,hap,Res.noErr,Zi,Zf]
theorem b5L'{w p:D}{L A:List D}(hS:Flat S)(hbl:L.length≤62216)(hw:a2w' [w,p] S=.ok (.lst L) S)(t1:∀i x4:Option D,denSs a0k' G0 rtB [some w,some p,some (.lst L),i,x4] S=.ok (.next [some w,some p,some (.lst L),i,some (.ref S.length)]) (S++[A]))
  (t2:∀i x4:Option D,denSs a0k' G0 rtB [some w,some p,some (.lst L),i,x4] (S++[A])=.ok (.next [some w,some p,some (.lst L),i,some (.ref (S++[A]).length)]) (S++[A]++[A]))
  (hf:a1H' [w,p] (S++[A]++[A])=.ok (frD L) (S++[A]++[A])) (hsm:a1p' [frD L,frD L] (S++[A]++[A])=.ok (.bl true) (S++[A]++[A])):a1m' [w,p] S=.ok (.bl true) S:=by
 have hd:denSs a0k' G0 a1M' [some w,some p,none,none,none] S=.ok (.ret (.bl true)) (S++[A]++[A]):=by
  rw[c_rt_is]
  refine(a0K' (d:=.lst L) (S':=S) (K21.a3E' a2V' (a0i' (i:=0) rfl) (a0i' (i:=1) rfl) hw)).trans ?_
  show denSs a0k' G0 _ [some w,some p,some (.lst L),none,none] S=_
  have hI:denI a0k' G0 (.range [.lit (.int 2)]) [some w,some p,some (.lst L),none,none] S=.ok (.items [.int 0,.int 1]) S:=rng_m (Φ:=a0k') (T:=S) (j:=2) (e:=.lit (.int 2)) (by omega) (by omega) a1O'
  have efor:denS a0k' G0 (.for_ (.var 3) (.range [.lit (.int 2)]) rtB) [some w,some p,some (.lst L),none,none] S=.ok (.next [some w,some p,some (.lst L),some (.int 1),some (.ref (S++[A]).length)]) (S++[A]++[A]):=by
   rw[a6q' hI]
   show Res.bind (denSs a0k' G0 rtB [some w,some p,some (.lst L),some (.int 0),none] S) _=_
   rw[t1]
   show Res.bind (denSs a0k' G0 rtB [some w,some p,some (.lst L),some (.int 1),some (.ref S.length)] (S++[A])) _=_
   rw[t2]
   rfl
  refine(a0l' efor).trans ?_
  refine a3k' (K21.a5l' ?_)
  have hadd:=a9m' (S:=S++[A]++[A]) (p:=L) (q:=[.non]) (by simp;omega)
  have hix:idxD (.lst (L++[.non])) (.int 0) (S++[A]++[A])=.ok (frD L) (S++[A]++[A]):=by
   have e:atI (L++[.non]) 0=some (frD L):=by
    unfold atI ixN
    rw[if_pos (by omega),if_pos (by simp)]
    cases L<;>rfl
   unfold idxD
   simp only[seqOf,e]
  generalize S++[A]++[A]=T at*
  unfold rtR
  simp only[den,denL,Res.bind,Res.noErr,a1g',a2z',hf,hadd,hix,hsm,Zi,Zf,Zx,Z4]
 show runD a0k' G0 a1M' a3R'.length 2 [w,p] S=_
 have hd':denSs a0k' G0 a1M' (([w,p]:List D).map some++List.replicate (a3R'.length-2) none) S=_:=hd
 unfold runD
 rw[if_pos (show [w,p].length=2 from rfl),hd']
 show trim S.length (.bl true) _=_
 rw[Zu,K21.a2J' (by rw[List.take_left' rfl];exact hS) rfl,List.take_left' rfl]
theorem b2f'(O:Ok2 m ts ps)(hS:Flat S)(hp:ps.length≤28):a1m' [webD m ts,.tup (tiesD ps)] S=.ok (.bl true) S:=by
 have hA:lowL 0 (dueL m ts ps++[D.tup []])=true:=K21.a3Z'.mpr fun x hx=>by
  rcases ZB.mp hx with hx|hx
  ·exact K21.a3Z'.mp a9v' x hx
  ·rw[ZR.mp hx];rfl
 have hS1:Flat (S++[dueL m ts ps++[D.tup []]]):=hS.snoc hA
 have hS2:Flat (S++[dueL m ts ps++[D.tup []]]++[dueL m ts ps++[D.tup []]]):=hS1.snoc hA
 have hbl:(dueL m ts ps).length≤62216:=by
  have h2:=(a9o' hS O.W hp).2.1
  unfold dueL
  rw[(a1a' _ _).length_eq,Zk]
  exact h2
 obtain⟨F,hF⟩:=b4e' (m:=m) (ts:=ts) (ps:=ps)
 have hsm:∀T,Flat T→a1p' [frD (dueL m ts ps),frD (dueL m ts ps)] T=.ok (.bl true) T:=fun T hT=>by
  rw[hF]
  cases F with
  |nil=>exact K21.b5n' hT 5
  |cons p F=>exact K21.a5T' hT 4 p
 exact b5L' hS hbl (a9o' hS O.W hp).2.2 (fun i x4=>turn21 O hS hp) (fun i x4=>turn21 O hS1 hp) (b5K' O hS2 hp) (hsm _ hS2)
theorem b2g':c_law=[.for_ (.var 1) l21C l21B,.ret (.lit (.bl true))]:=rfl
theorem cells21{ns:List Int}(hS:Flat S)(hl:ns.length≤63){x:List (Option D)}:∃cs:List Int,denI t_law G0 l21C (some (.scr (ns.map D.int))::x) S=.ok (.items (cs.map D.int)) S:=by
 obtain⟨c,ec⟩:=K21.cell_eq hS ns
 rw[←b2b']at ec
 obtain⟨cs,hc,hcl⟩:∃cs:List Int,cutL (ns.map D.int) (some 1) (some 6)=cs.map D.int∧cs.length≤63:=by
  refine⟨(ns.drop _).take _,by unfold cutL;rw[←List.map_drop,←List.map_take],?_⟩
  simp;omega
 refine⟨c::cs,?_⟩
 have h1:slD (.scr (ns.map D.int)) (some 1) (some 6) S=.ok (.lst (cs.map D.int)) S:=by
  rw[←hc];rfl
 have h2:addD (.lst [.int c]) (.lst (cs.map D.int)) S=.ok (.lst ([.int c]++cs.map D.int)) S:=by
  show(if 1+(cs.map D.int).length≤big then Res.ok (D.lst ([.int c]++cs.map D.int)) S else .fail)=_
  rw[if_pos (by unfold big;simp;omega)]
 simp[l21C,denI,den,denL,Res.bind,Res.noErr,a5h',ec,optL,toOpt,h1,opD,h2,a1f']
theorem b5M':Pairing ts []:=⟨.nil,fun _ h=>(by cases h),by simp⟩
theorem body21{s0 x2 x3 x4 x5:Option D}(c:Int)(hS:Flat S):∃y2 y3 y4 y5 S',Flat S'∧denSs t_law G0 l21B [s0,some (.int c),x2,x3,x4,x5] S=.ok (.next [s0,some (.int c),y2,y3,y4,y5]) S':=by
 obtain⟨b,ep⟩:=K21.pen_eq hS c
 rw[←b3q']at ep
 have hS0:Flat (S++[[.int c,.int b]]):=hS.snoc rfl
 have hp0:PenAt (S++[[.int c,.int b]]) S.length:=⟨c,b,boxE⟩
 obtain⟨m0,ts0,ps0,S1,W0,P0,l0,D1,e1⟩:=long_eq hS0 hp0
 rw[←b2c']at e1
 have hS1:=D1.flat hS0
 have hp1:=D1.pen hp0
 obtain⟨m,ts,S2,W,D2,e2⟩:=K21.web_eq hS1 hp1
 rw[←b3r']at e2
 have hS2:=D2.flat hS1
 have hp2:=D2.pen hp1
 obtain⟨ps,S3,P,hl,D3,e3⟩:=K21.b1G' W hS2 hp2
 rw[←a7M']at e3
 have hS3:=D3.flat hS2
 have r1:=b2f' ⟨W0,P0⟩ hS2 l0
 have r2:=b2f' ⟨W,P⟩ hS3 hl
 have r3:=b2f' (ps:=[]) ⟨W,b5M'⟩ hS3 (by simp)
 have r3':a1m' [webD m ts,.tup []] S3=.ok (.bl true) S3:=r3
 refine⟨some (.ref S.length),some (webD m0 ts0),some (.tup (tiesD ps0)),some (webD m ts),S3,hS3,?_⟩
 generalize webD m ts=w at*
 generalize webD m0 ts0=w0 at*
 unfold l21B
 refine(a0K' (d:=.ref S.length) (S':=S++[[.int c,.int b]]) (by simp only[den,denL,Res.bind,a6m',ep,Zf,Zi])).trans ?_
 show denSs t_law G0 _ [s0,some (.int c),some (.ref S.length),x3,x4,x5] (S++[[.int c,.int b]])=_
 refine(a0l' (ρ':=[s0,some (.int c),some (.ref S.length),some w0,some (.tup (tiesD ps0)),x5]) (S':=S1) (by
  simp only[denS,den,denL,Res.bind,a5g',e1,Zf,Zi]
  rfl)).trans ?_
 refine(a0K' (d:=w) (S':=S2) (by simp only[den,denL,Res.bind,a6n',e2,Zf,Zi])).trans ?_
 show denSs t_law G0 _ [s0,some (.int c),some (.ref S.length),some w0,some (.tup (tiesD ps0)),some w] S2=_
 have ht:denT t_law G0 l21T [s0,some (.int c),some (.ref S.length),some w0,some (.tup (tiesD ps0)),some w] S2=.ok false S3:=by
  simp only[l21T,denT,den,denL,Res.bind,a4T',a3S',r1,r2,r3',e3,truD,Zf,Zi,Bool.not_true,Zx,Z4]
 refine(a0l' (ρ':=[s0,some (.int c),some (.ref S.length),some w0,some (.tup (tiesD ps0)),some w]) (S':=S3) ?_).trans rfl
 rw[a5k' ht]
 simp only[Zx,Z4,denSs]
end
theorem good(ns:List Int)(hl:ns.length≤63):∃S',f_law [.scr (ns.map D.int)] []=.ok (.bl true) S':=by
 obtain⟨cs,hcs⟩:=cells21 Flat.nil hl (x:=[none,none,none,none,none])
 obtain⟨ρ',S',_,hf⟩:=b1L' (step:=fun x ρ S=>match asgCT (.var 1) x ρ with
   |some ρ'=>denSs t_law G0 l21B ρ' S
   |none=>.fail) (fun ρ S=>∃x1 x2 x3 x4 x5,ρ=[some (.scr (ns.map D.int)),x1,x2,x3,x4,x5]∧Flat S) (cs.map D.int) (by
    rintro x hx ρ S ⟨x1,x2,x3,x4,x5,rfl,hS⟩
    obtain⟨c,_,rfl⟩:=ZC.mp hx
    obtain⟨y2,y3,y4,y5,S2,hS2,h2⟩:=body21 (s0:=some (.scr (ns.map D.int))) (x2:=x2) (x3:=x3) (x4:=x4) (x5:=x5) c hS
    exact⟨_,S2,⟨some (.int c),y2,y3,y4,y5,rfl,hS2⟩,h2⟩) [some (.scr (ns.map D.int)),none,none,none,none,none] [] ⟨_,_,_,_,_,rfl,Flat.nil⟩
 have hd:denSs t_law G0 c_law [some (.scr (ns.map D.int)),none,none,none,none,none] []=.ok (.ret (.bl true)) S':=by
  rw[b2g']
  refine(a0l' (ρ':=ρ') (S':=S') ?_).trans rfl
  rw[a6q' hcs]
  exact hf
 refine⟨[],?_⟩
 show runD t_law G0 c_law n_law.length 1 [.scr (ns.map D.int)] []=_
 unfold runD
 rw[if_pos (show [D.scr (ns.map D.int)].length=1 from rfl)]
 rw[show denSs t_law G0 c_law ([D.scr (ns.map D.int)].map some++List.replicate (n_law.length-1) none) []=_ from hd]
 rfl
end K21
end
section
namespace K21
open PySem PySem.Spec PyProof.Rows L2 Py
theorem walk{l:PySem.W.OpenLaw}{q:Program}{loose:List Str}{XP:(Str→Option Value)→Heap→Prop}{YP:World→Heap→Prop}{d:DefRec}{K:Params→PySem.W.Frag}(hn:l.most=some 63)(hdf:d.params.defaults=[])
  (hY:∀(w:World) (h:Heap),YP w h→(K w.params).In h)
  (F:∀(w:World) (mg:Str→Option Value) (fa:Addr) (h:Heap),(K w.params).In h→h.Ns mainGlobals mg→mg d.name=some (.ref fa)→
   ∃fd:FuncData,(∀(s:Shared) (u:Value),BindsTo s fd ⟨[u],[]⟩ [("_law_script",u)])∧∀base:Heap,(K w.params).In base→base.Ns mainGlobals mg→FnOk l.prog w (K w.params) mg base CX0 13 fa fd ["_law_script"] (spLaw (K w.params))):
  PySem.W.WalkO q loose XP YP l.row.toRowW d [] (fun f vs=>PySem.call f vs):=
 L2.walk_of (n:=63) (k:=13) (x:="_law_script") (CX:=fun _=>CX0) (sp:=fun w=>spLaw (K w.params)) hn (by decide) hdf ⟨rfl,by decide,by decide,rfl⟩ hY F (fun _ _ a ns hl hO hS=>⟨a,ns,rfl,hO,hS,hl,fun _=>rfl⟩) fun _ _ _ _ _ z=>z
end K21
namespace PySem.W.Fast
theorem tw5927389344764488590:True:=⟨⟩
theorem tw4064360162848341687:True:=⟨⟩
theorem tw17909807748759820963:True:=⟨⟩
theorem tw15867278013522681222:True:=⟨⟩
theorem tw2665710624395512155:True:=⟨⟩
theorem tw5950074813849205106:True:=⟨⟩
theorem tw12111494459033820668:True:=⟨⟩
theorem tw16538605008101505787:True:=⟨⟩
theorem tw4327306157965494391:True:=⟨⟩
theorem tw3683330219852135032:True:=⟨⟩
theorem tw18137625695270672561:True:=⟨⟩
theorem tw1837778269653794809:True:=⟨⟩
theorem tw2234797879787245864:True:=⟨⟩
theorem tw5804014536292250903:True:=⟨⟩
theorem tw8173160095407020900:True:=⟨⟩
theorem tw5836930118241088563:True:=⟨⟩
theorem tw14480197783403568246:True:=⟨⟩
theorem tw10933025491954641631:True:=⟨⟩
theorem tw4500212750723478786:True:=⟨⟩
theorem tw6657927136586439163:True:=⟨⟩
theorem tw12939401274321923638:True:=⟨⟩
theorem tw17475345133052175299:True:=⟨⟩
theorem tw10625813609436240427:True:=⟨⟩
theorem tw6702780026557217494:True:=⟨⟩
theorem tw5734610314208516866:True:=⟨⟩
theorem tw14157554168213358497:True:=⟨⟩
theorem tw9861072118265168648:True:=⟨⟩
theorem tw14898964986002928756:True:=⟨⟩
theorem tw4927163721160036403:True:=⟨⟩
theorem tw15375313607286850753:True:=⟨⟩
theorem tw14155465548569151763:True:=⟨⟩
theorem tw7336936348972154503:True:=⟨⟩
theorem tw16394502118212394678:True:=⟨⟩
theorem tw15642574761510581844:True:=⟨⟩
theorem tw9816889305936954072:True:=⟨⟩
theorem tw3654582408890917666:True:=⟨⟩
theorem tw15530569755755574844:True:=⟨⟩
theorem tw12822052070581363848:True:=⟨⟩
theorem tw7357126211806278842:True:=⟨⟩
theorem tw11459175453615957819:True:=⟨⟩
theorem tw742528416318783670:True:=⟨⟩
theorem tw13122589502939345666:True:=⟨⟩
theorem tw773104599097718500:True:=⟨⟩
theorem tw8661644166487097898:True:=⟨⟩
theorem tw9432520769652670054:True:=⟨⟩
theorem tw5258095565016291978:True:=⟨⟩
theorem tw7780795762485533035:True:=⟨⟩
theorem tw17160967000987464040:True:=⟨⟩
theorem tw13693724628830362312:True:=⟨⟩
theorem tw1646604052042115546:True:=⟨⟩
theorem tw1856836149597673639:True:=⟨⟩
theorem tw9493691166041426424:True:=⟨⟩
theorem tw14785264472467417564:True:=⟨⟩
theorem tw4385100390808957368:True:=⟨⟩
theorem tw988106167640161212:True:=⟨⟩
theorem tw6320980050050806810:True:=⟨⟩
theorem tw16247134577043890024:True:=⟨⟩
theorem tw9810674184552177346:True:=⟨⟩
theorem tw15068085594943973836:True:=⟨⟩
theorem tw17882947532269917337:True:=⟨⟩
theorem tw9510216272450987897:True:=⟨⟩
theorem tw3240366866350034340:True:=⟨⟩
theorem tw1637944613908458638:True:=⟨⟩
theorem tw5950743686021026081:True:=⟨⟩
theorem tw13600357913045740762:True:=⟨⟩
theorem tw12679978062232778444:True:=⟨⟩
theorem tw11885813478659564230:True:=⟨⟩
theorem tw16679404502296005045:True:=⟨⟩
theorem tw1373405953047131105:True:=⟨⟩
theorem tw14945450294987283948:True:=⟨⟩
theorem tw903381074701631168:True:=⟨⟩
theorem tw6972017978032158259:True:=⟨⟩
theorem tw3530193328647394352:True:=⟨⟩
theorem tw14236645859977173206:True:=⟨⟩
theorem tw9565825439270197507:True:=⟨⟩
theorem tw11279459168224164193:True:=⟨⟩
theorem tw8338356594026855718:True:=⟨⟩
theorem tw11685916966427373005:True:=⟨⟩
theorem tw15563070696916596715:True:=⟨⟩
theorem tw552054404240272508:True:=⟨⟩
theorem tw6339045166459579342:True:=⟨⟩
theorem tw15505279599807309356:True:=⟨⟩
theorem tw4856868168859838489:True:=⟨⟩
theorem tw16330060211181427840:True:=⟨⟩
theorem tw15599130459696945209:True:=⟨⟩
theorem tw15199678348098870074:True:=⟨⟩
theorem tw11824429490097300478:True:=⟨⟩
theorem tw11517467408355195995:True:=⟨⟩
theorem tw4876381843384227618:True:=⟨⟩
theorem tw9942254290797642340:True:=⟨⟩
theorem tw9885247009436219838:True:=⟨⟩
theorem tw12180983563507287356:True:=⟨⟩
theorem tw7296912562284890659:True:=⟨⟩
theorem tw10777078257660531680:True:=⟨⟩
theorem tw2175203418172244521:True:=⟨⟩
theorem tw15060311107972198095:True:=⟨⟩
theorem tw4619948762333913739:True:=⟨⟩
theorem tw6890553913541579583:True:=⟨⟩
theorem tw1683207857864692443:True:=⟨⟩
theorem tw6513963823843522700:True:=⟨⟩
theorem tw11648183693310391273:True:=⟨⟩
theorem tw14222510935442607058:True:=⟨⟩
theorem tw12595742606697015202:True:=⟨⟩
theorem tw1502713793965560620:True:=⟨⟩
theorem tw10459006636954489974:True:=⟨⟩
theorem tw9688052826966415587:True:=⟨⟩
theorem tw14218486441127635441:True:=⟨⟩
theorem tw5163198307388163229:True:=⟨⟩
theorem tw10641059083095768572:True:=⟨⟩
theorem tw294732911195384184:True:=⟨⟩
theorem tw10788515186042192071:True:=⟨⟩
theorem tw13224511749708150469:True:=⟨⟩
theorem tw6725973927006424167:True:=⟨⟩
theorem tw528676644949683199:True:=⟨⟩
theorem tw4742183815790036559:True:=⟨⟩
theorem tw4621044043456502218:True:=⟨⟩
theorem tw4331489011712770261:True:=⟨⟩
theorem tw4573560707808765746:True:=⟨⟩
theorem tw6397565361828445520:True:=⟨⟩
theorem tw4514924073855327520:True:=⟨⟩
theorem tw6177677547673836976:True:=⟨⟩
theorem tw14111212726334738509:True:=⟨⟩
theorem tw17163893112854039379:True:=⟨⟩
theorem tw301911484533390064:True:=⟨⟩
theorem tw7756685128251651381:True:=⟨⟩
theorem tw783493987563006044:True:=⟨⟩
theorem tw4149403281999203511:True:=⟨⟩
theorem tw4245136200113205829:True:=⟨⟩
theorem tw413716344626928323:True:=⟨⟩
theorem tw18196564592141709888:True:=⟨⟩
theorem tw9153582878497039178:True:=⟨⟩
theorem tw14871313291255290144:True:=⟨⟩
theorem tw10891510385005266010:True:=⟨⟩
theorem tw6916232752861063661:True:=⟨⟩
theorem tw7868709476036771812:True:=⟨⟩
theorem tw178789407718409259:True:=⟨⟩
theorem tw13434544943550643284:True:=⟨⟩
theorem tw3488590539445878818:True:=⟨⟩
theorem tw10449800636044252889:True:=⟨⟩
theorem tw9789336612165037295:True:=⟨⟩
theorem tw9689982711589721977:True:=⟨⟩
theorem tw8642377319046303448:True:=⟨⟩
theorem tw7748831423009521489:True:=⟨⟩
theorem tw10945704597972675967:True:=⟨⟩
theorem tw14348778146003556315:True:=⟨⟩
theorem tw8885579417484548157:True:=⟨⟩
theorem tw7479476120122132021:True:=⟨⟩
theorem tw7052107113900066903:True:=⟨⟩
theorem tw6303788212255576843:True:=⟨⟩
theorem tw6057646887927898379:True:=⟨⟩
theorem tw572490985687386695:True:=⟨⟩
theorem tw2120309412300331207:True:=⟨⟩
theorem tw17444410900432012768:True:=⟨⟩
theorem tw16864492926563406055:True:=⟨⟩
theorem tw16786116305784531464:True:=⟨⟩
theorem tw11485303910025451884:True:=⟨⟩
theorem tw8579760273674002268:True:=⟨⟩
theorem tw12102488769991611394:True:=⟨⟩
theorem tw15404022399600623479:True:=⟨⟩
theorem tw14349832917398787375:True:=⟨⟩
theorem tw4333244432555636502:True:=⟨⟩
theorem tw16371192354846867283:True:=⟨⟩
theorem tw14008637991634489637:True:=⟨⟩
theorem tw12100529363558554958:True:=⟨⟩
theorem tw16944393231226127159:True:=⟨⟩
theorem tw5187807230392008427:True:=⟨⟩
theorem tw4410026963555150241:True:=⟨⟩
end PySem.W.Fast
open PySem PySem.W PyProof.Rows
set_option maxRecDepth 100000 in
set_option maxHeartbeats 0 in
theorem PySem.Challenge.cw_pairwebs_k21_all_ways_holds : PySem.Challenge.rw_pairwebs_k21_all_ways.Holds := by
 w_on;o_law;k_head;(case hw=>w_witness2)
 k_fill
 refine K21.walk (l:=PySem.Challenge.rw_pairwebs_k21_all_ways) rfl rfl (fun w h Y=>PySem.W.kIn_of Y) ?F
 case F=>
  intro w mg fa h KX G hmg
  refine' K21.all_mk KX G hmg K21.good ⟨K21.dm ?_ ?_ ?_ ?_,K21.dm ?_ ?_ ?_ ?_,K21.dm ?_ ?_ ?_ ?_,K21.dm ?_ ?_ ?_ ?_,K21.dm ?_ ?_ ?_ ?_,K21.dm ?_ ?_ ?_ ?_,K21.dm ?_ ?_ ?_ ?_,K21.dm ?_ ?_ ?_ ?_,K21.dm ?_ ?_ ?_ ?_,K21.dm ?_ ?_ ?_ ?_,K21.dm ?_ ?_ ?_ ?_,K21.dm ?_ ?_ ?_ ?_,K21.dm ?_ ?_ ?_ ?_,K21.dm ?_ ?_ ?_ ?_,K21.dm ?_ ?_ ?_ ?_,K21.dm ?_ ?_ ?_ ?_,K21.dm ?_ ?_ ?_ ?_,K21.dm ?_ ?_ ?_ ?_,K21.dm ?_ ?_ ?_ ?_,K21.dm ?_ ?_ ?_ ?_,K21.dm ?_ ?_ ?_ ?_,K21.dm ?_ ?_ ?_ ?_,K21.dm ?_ ?_ ?_ ?_,K21.dm ?_ ?_ ?_ ?_,K21.dm ?_ ?_ ?_ ?_,K21.dm ?_ ?_ ?_ ?_,K21.dm ?_ ?_ ?_ ?_,K21.dm ?_ ?_ ?_ ?_,K21.dm ?_ ?_ ?_ ?_,K21.dm ?_ ?_ ?_ ?_,K21.dm ?_ ?_ ?_ ?_,K21.dm ?_ ?_ ?_ ?_,K21.dm ?_ ?_ ?_ ?_,K21.dm ?_ ?_ ?_ ?_,K21.dm ?_ ?_ ?_ ?_⟩ ?Z ?_
  case Z=>
   intro x hx
   simp only[Py.a2g',Zn,List.mem_nil_iff,or_false]at hx
   rcases hx with rfl|rfl|rfl|rfl|rfl|rfl|rfl|rfl|rfl|rfl|rfl|rfl|rfl|rfl|rfl|rfl|rfl|rfl|rfl|rfl|rfl<;>k_is
  all_goals first|k_is|skip
end
