import PyProof.Rows.All
import Wide.All
import OpenK.AllK
import Wide.FinOn
import Lean
import PyProof.EqAt
import PyProof.EqKinds
import PyProof.TupleCall
import PyProof.ListMulAny
import PyProof.FactsAll.tuple
import KE.IntBitsLaws
import PyProof.NeKinds
import PyProof.FactsAll.tuple_2
import PyProof.SumWalkG
import PyProof.MinMaxWalk
import PyProof.Rows.SeqMore
import PyProof.FactsAll.tuple_3
import KE.KRevIter
import PyProof.FactsAll.range_2
import PyProof.EnumFor
import PyProof.TupleOfGen
import PyProof.ListRange
import PyProof.Rows.SetFrom
import PyProof.WalksMore
import PyProof.FactsAll.subtypes_4
import PyProof.RangeFor
import KE.KSortAsk
import KE.KSortTup
import PySem.Challenge.RW_pairwebs_k05_whole_webs_made_of_webs
noncomputable section
set_option genSizeOfSpec false
set_option Elab.async false
set_option linter.all false
set_option maxRecDepth 100000
set_option maxHeartbeats 16000000
namespace L2
end L2
namespace Py
end Py
open PySem PySem.Spec PyProof.Rows L2 Py
abbrev Mg:=Str→Option Value
abbrev Vs:=Value→Shared→Prop
abbrev Fg:=PySem.W.Frag
abbrev Lp:=List (Addr×Obj)
abbrev Lq:=List (Int×Int)
abbrev Li:=List Int
abbrev La:=List Addr
abbrev Lv:=List Value
abbrev Ls:=List Str
abbrev Lx:=List Expr
abbrev Ov:=Option Value
abbrev Av:=Array Value
def Za:=@PySem.wpAny_bind
def Zb:=@List.mem_cons_of_mem
def Zc:=@PySem.Heap.get?_push_of_some
def Zd:=@List.mem_cons_self
def Ze:=@List.size_toArray
def Zf:=@List.getElem?_eq_some_iff
def Zg:=@PySem.wpAny_pure
def Zh:=@List.getElem?_eq_getElem
def Zi:=@Nat.le_refl
def Zj:=@PySem.Heap.lt_size
def Zk:=@PySem.Heap.get?_push_size
def Zl:=@List.getElem?_append_left
def Zm:=@List.mem_cons
def Zn:=@List.mem_of_getElem?
def Zo:=@Bool.false_eq_true
def Zp:=@List.getElem?_append_right
def Zq:=@List.mem_append_right
def Zr:=@List.eq_nil_of_length_eq_zero
def Zs:=@List.mem_map
def Zt:=@List.length_append
def Zu:=@Nat.lt_of_lt_of_le
def Zv:=@PySem.mem_of_lookup
def Zw:=@List.length_map
def Zx:=@List.set_cons_zero
def Zy:=@List.set_cons_succ
def Zz:=@List.length_cons
def ZA:=@Nat.ne_of_lt
def ZB:=@Bool.and_eq_true
def ZC:=@decide_eq_false
def ZD:=@List.all_eq_true
def ZE:=@List.pairwise_cons
def ZF:=@List.mem_append
def ZG:=@List.length_filter_le
def ZH:=@List.getElem?_cons_succ
def ZI:=@decide_eq_true
def ZJ:=@List.mem_append_left
def ZK:=@List.map_cons
def ZL:=@Option.some.inj
def ZM:=@List.getElem?_cons_zero
def ZN:=@Nat.lt_irrefl
def ZO:=@List.not_mem_nil
def ZP:=@List.getElem?_map
def ZQ:=@List.mem_filter
def ZR:=@if_false
def ZS:=@Bool.false_ne_true
def ZT:=@Nat.le_trans
def ZU:=@Option.map_eq_some_iff
def ZV:=@List.getElem?_set_self
def ZW:=@PySem.Heap.get?_update_other
def ZX:=@PySem.wpAny_truthy_bool
def ZY:=@PySem.wpAny_newObj_type
def ZZ:=@List.nodup_append
def Z0:=@List.flatten_cons
def Z1:=@List.filter_sublist
variable {us its its':Lv}{u doc pm cdv ct oc vl vu z:Value}{a it dx f sl fa acc:Addr}{w:World}{h h' h1 base:Heap}{α β:Type}{e tg iter r' elt:Expr}{pq pins':Lp}{s s':Shared}{t' k n tk line np:Nat}{ch fp μ μ' F μ1 μ0:La}{N ps loose N':Ls}{M:Model}{A:Around}{E Q E':Vs}{t:Int×Int}{rest es ifs:Lx}{c lo m q:Int}{y b1 b2:Bool}{K:Fg}{st:Stmt}{pos' apos p2 p1 p3 p4:Pos}{R:Int→Int→Prop}{hi:Option Int}{C:Bool→Shared→Prop}{op':CmpOp}{prog:Program}{name qual:Str}{mg:Mg}{ks:List Nat}{scope:Scope}{od:Option Addr}{osl:Array (Ov)}{items:Av}{XP:(Mg)→Heap→Prop}{YP:World→Heap→Prop}{ns so left:Li}{env:Env}{gens:List Comprehension}{tn:Nat→Heap→Prop}{cell:Str→Bool}{ts:Lq}{fr:List (Option Nat)}{tie:Int→Int→Bool}
namespace L2
abbrev Key:=Sum Int Str
noncomputable def keyIs:Key→Value→Bool
 | .inl k,v=>Value.isInt k v
 | .inr x,v=>Value.isStrOf x v
noncomputable def keyH(w:World):Key→Int
 | .inl k=>hashInt k
 | .inr x=>hashStr w x
theorem a0B':∀{k:Key} {v:Value},keyIs k v=true→(∃i t,k=Sum.inl i∧v=Value.int i t)∨(∃x t,k=Sum.inr x∧v=Value.str x t)
 | .inl i,v,h=>by obtain⟨t,e⟩:=Value.isInt_shape (k:=i) (v:=v) h;exact .inl ⟨i,t,rfl,e⟩
 | .inr x,v,h=>by obtain⟨t,e⟩:=Value.isStrOf_shape (x:=x) (v:=v) h;exact .inr ⟨x,t,rfl,e⟩
theorem key_ll(a b:Int):decide ((Sum.inl a:Key)=Sum.inl b)=(a==b):=by
 by_cases e:a=b
 ·subst e;simp
 ·have h:¬(Sum.inl a:Key)=Sum.inl b:=λq=>e (Sum.inl.inj q);rw[ZC h];exact(beq_eq_false_iff_ne.mpr e).symm
theorem key_rr(a b:Str):decide ((Sum.inr a:Key)=Sum.inr b)=decide (a=b):=by
 by_cases e:a=b
 ·subst e;simp
 ·have h:¬(Sum.inr a:Key)=Sum.inr b:=λq=>e (Sum.inr.inj q);rw[ZC h,ZC e]
theorem key_lr(a:Int)(b:Str):decide ((Sum.inl a:Key)=Sum.inr b)=false:=ZC (λq=>nomatch q)
theorem key_rl(a:Str)(b:Int):decide ((Sum.inr a:Key)=Sum.inl b)=false:=ZC (λq=>nomatch q)
noncomputable def a8z'(prog:Program)(w:World):PySem.KeyKind prog w Key where
 is:=keyIs
 hash:=keyH w
 inj:=λv a b ha hb=>by
  rcases a0B' ha with⟨i,t,rfl,rfl⟩| ⟨x,t,rfl,rfl⟩
  ·rcases a0B' hb with⟨j,u,rfl,e⟩| ⟨y,u,rfl,e⟩
   ·injection e with e1 _;rw[e1]
   ·exact nomatch e
  ·rcases a0B' hb with⟨j,u,rfl,e⟩| ⟨y,u,rfl,e⟩
   ·exact nomatch e
   ·injection e with e1 _;rw[e1]
 byValue:=λk v h=>by rcases a0B' h with⟨i,t,rfl,rfl⟩| ⟨x,t,rfl,rfl⟩<;>rfl
 pyHash:=λhv h=>by
  rcases a0B' hv with⟨i,t,rfl,rfl⟩| ⟨x,t,rfl,rfl⟩
  ·exact wpAny_pyHash_int h
  ·exact wpAny_pyHash_str h
 eqBool:=λhu hv h=>by
  rcases a0B' hu with⟨i,t,rfl,rfl⟩| ⟨x,t,rfl,rfl⟩
  ·rcases a0B' hv with⟨j,u,rfl,rfl⟩| ⟨y,u,rfl,rfl⟩
   ·rw[key_ll]at h;exact wpAny_eqBool_int h
   ·rw[key_lr]at h;exact SeqAt.EqAt.int_str i t y u _ _ _ _ h
  ·rcases a0B' hv with⟨j,u,rfl,rfl⟩| ⟨y,u,rfl,rfl⟩
   ·rw[key_rl]at h;exact SeqAt.EqAt.str_int x t j u _ _ _ _ h
   ·rw[key_rr]at h;exact wpAny_eqBool_str h
 «strs»:=λk x t v h=>by
  rcases a0B' h with⟨i,u,rfl,e⟩| ⟨y,u,rfl,e⟩
  ·exact nomatch e
  ·injection e with e1 _
   subst e1;cases v<;>rfl
inductive V where
 |non|bl (b:Bool)|int (i:Int)|str (x:Str)|byt (b:Array UInt8)|flt (b:UInt64)|ref (a:Addr)|ty (n:String)
 deriving DecidableEq
def RelV:V→Value→Prop
 | .non,u=>u=Value.none
 | .bl b,u=>u=Value.bool b
 | .int i,u=>∃t,u=Value.int i t
 | .str x,u=>∃t,u=Value.str x t
 | .byt b,u=>∃t,u=Value.bytes b t
 | .flt b,u=>∃t,u=Value.float b t
 | .ref a,u=>u=Value.ref a
 | .ty n,u=>u=Value.type n
abbrev Vals:List V→Lv→Prop:=Paired RelV
theorem Vals.length{xs:List V}(r:Vals xs us):xs.length=us.length:=Paired.length r
theorem Vals.get:∀{xs:List V} {us:Lv} {i:Nat} {x:V},Vals xs us→xs[i]?=some x→∃u,us[i]?=some u∧RelV x u
 |_,_,_,_,.nil,e=>by simp at e
 |_,_,0,_,.cons r _,e=>by simp at e;subst e;exact⟨_,rfl,r⟩
 |_,_,i+1,x,.cons _ t,e=>by obtain⟨u,h1,h2⟩:=Vals.get (i:=i) (x:=x) t (by simpa using e);exact⟨u,by simpa using h1,h2⟩
theorem Vals.set{x:V}(r:RelV x u):∀{xs:List V} {us:Lv} (i:Nat),Vals xs us→Vals (xs.set i x) (us.set i u)
 |_,_,_,.nil=>.nil
 |_,_,0,.cons _ t=>.cons r t
 |_,_,i+1,.cons q t=>.cons q (Vals.set r i t)
theorem Vals.append:∀{xs ys:List V} {us ws:Lv},Vals xs us→Vals ys ws→Vals (xs++ys) (us++ws)
 |_,_,_,_,.nil,s=>s
 |_,_,_,_,.cons r t,s=>.cons r (Vals.append t s)
theorem Vals.take:∀{xs:List V} {us:Lv} (n:Nat),Vals xs us→Vals (xs.take n) (us.take n)
 |_,_,0,_=>.nil
 |_,_,_+1,.nil=>.nil
 |_,_,n+1,.cons r t=>.cons r (Vals.take n t)
theorem Vals.drop:∀{xs:List V} {us:Lv} (n:Nat),Vals xs us→Vals (xs.drop n) (us.drop n)
 |_,_,0,r=>r
 |_,_,_+1,.nil=>.nil
 |_,_,n+1,.cons _ t=>Vals.drop n t
def RelO:Option V→Ov→Prop
 |some v,some u=>RelV v u
 |none,none=>True
 |_,_=>False
def KV{κ:Type}:List (κ×V)→List (κ×Value)→Prop:=Paired λ(p:κ×V) (q:κ×Value)=>p.1=q.1∧RelV p.2 q.2
def kV:Key→V
 | .inl i=>.int i
 | .inr x=>.str x
inductive HO where
 |lst (xs:List V)
 |tup (xs:List V)
 |dK (kvs:List (Key×V))|dT (kvs:List (List Key×V))
 |set (S:Int→Bool) (n:Nat)
 |ins (C dx:Addr) (fs:List (Str×V))
 |own (x:Addr)
 |xd (fs:List (Str×V))
 |met (f x:Addr)
 |rng (lo hi:Int)
 |frz (o:Obj) (u:HO)
 |tbl (ps:Av)
 |ext (φ:Heap→Prop)
abbrev Hp:=Addr→Option HO
noncomputable def upd(H:Hp)(a:Addr)(o:HO):Hp:=λb=>if b=a then some o else H b
theorem a0L'{H:Hp}{o:HO}:upd H a o a=some o:=by unfold upd;rw[if_pos rfl]
theorem a0u'{H:Hp}{b:Addr}{o:HO}(h:b≠a):upd H a o b=H b:=by unfold upd;rw[if_neg h]
theorem a0m'{H:Hp}{b:Addr}{o:HO}(h:H a=some o)(h':H b=none):a≠b:=by intro e;subst e;rw[h]at h';cases h'
def NoD(h:Heap)(a:Addr):Prop:=∃o,h.get? a=some o∧o.dict=none
theorem NoD.new(h:Heap)(items:Av):NoD (h.push {cls:=.type "tuple",data:=.seq items}) h.objs.size:=⟨_,Zk _ rfl,rfl⟩
section
variable (P:Program)(w:World)
def ObjOk(H:Hp)(h:Heap)(a:Addr):HO→Prop
 | .lst xs=>xs.length≤sizeLine∧∃(its:Lv) (n:Nat),Vals xs its∧h.get? a=some {cls:=.type "list",data:=.seq its.toArray n}
 | .tup xs=>xs.length≤sizeLine∧∃its:Lv,Vals xs its∧IsTup h a its.toArray∧NoD h a
 | .dK kvs=>kvs.length≤sizeLine∧(a==sysModules)=false∧∃vs,KV kvs vs∧h.DictOf (a8z' P w) a vs
 | .dT kvs=>kvs.length≤sizeLine∧(a==sysModules)=false∧∃xs:List (List Key×Addr×Value),
   Paired (λ(p:List Key×V) (q:List Key×Addr×Value)=>p.1=q.1∧H q.2.1=some (.tup (p.1.map kV))∧RelV p.2 q.2.2) kvs xs∧
   ∃o es ep,h.get? a=some o∧o.ExactDict∧o.data=.dict es ep∧es.toList=xs.map (entryOfKey (tupleKind (a8z' P w)))∧(xs.map (·.1)).Nodup
 | .set S n=>h.SetOf (intKind P w) a S n
 | .ins C dx fs=>H dx=some (.own a)∧fs.length≤1000∧dx≠a∧h.get? a=some (PySem.W.instObj C dx)∧
   ∃mA,h.Ns1 dx mA∧(∀f,RelO (fs.lookup f) (mA f))∧PySem.Within mA (fs.map (·.1))
 | .own _=>∃o,h.get? a=some o
 | .xd fs=>∃mA,h.Ns1 a mA∧∀f,RelO (fs.lookup f) (mA f)
 | .rng lo hi=>∃t u v,h.get? a=some {cls:=.type "range",data:=.fields #[.int lo t,.int hi u,.int 1 v]}
 | .frz o u=>h.get? a=some o∧ObjOk H h a u
 | .tbl ps=>h.get? a=some {cls:=.none,data:=.fields ps}
 | .met f x=>h.get? a=some (PySem.W.methodObj (.ref f) (.ref x))
 | .ext φ=>φ h∧(∃o,h.get? a=some o)∧∀h1 h2:Heap,φ h1→(∀o,h1.get? a=some o→h2.get? a=some o)→φ h2
def HOk(H:Hp)(h:Heap):Prop:=∀a o,H a=some o→ObjOk P w H h a o
end
section
variable {P:Program}{H H':Hp}{o:HO}
theorem ObjOk.lt(x:ObjOk P w H h a o):a<h.objs.size:=by
 cases o with
 |lst xs=>obtain⟨_,_,_,_,e⟩:=x;exact Zj e
 |tup xs=>obtain⟨_,_,_,p,_⟩:=x;exact p.lt
 |dK kvs=>obtain⟨_,_,_,_,o,_,_,e,_⟩:=x;exact Zj e
 |dT kvs=>obtain⟨_,_,_,_,o,_,_,e,_⟩:=x;exact Zj e
 |set S n=>obtain⟨o,_,_,_,e,_⟩:=x;exact Zj e
 |ins C dx fs=>obtain⟨_,_,_,e,_⟩:=x;exact Zj e
 |own y=>obtain⟨_,e⟩:=x;exact Zj e
 |xd fs=>obtain⟨_,⟨_,_,_,e,_⟩,_⟩:=x;exact Zj e
 |rng lo hi=>obtain⟨_,_,_,e⟩:=x;exact Zj e
 |frz ob u=>obtain⟨e,_⟩:=x;exact Zj e
 |tbl ps=>exact Zj (show h.get? a=some _ from x)
 |met f y=>exact Zj (show h.get? a=some _ from x)
 |ext φ=>obtain⟨_,⟨_,e⟩,_⟩:=x;exact Zj e
theorem Paired.mapP{F G:α→β→Prop}:∀{l₁:List α} {l₂:List β},Paired F l₁ l₂→(∀a b,F a b→G a b)→Paired G l₁ l₂
 |_,_,.nil,_=>.nil
 |_,_,.cons r t,f=>.cons (f _ _ r) (Paired.mapP t f)
theorem ObjOk.stay(x:ObjOk P w H h a o)(k:∀b u,(b=a∨H b=some (.own a))→h.get? b=some u→h'.get? b=some u)
  (ho:∀b,H b=some (.own a)→H' b=some (.own a)) (ht:∀b xs,H b=some (.tup xs)→H' b=some (.tup xs)):ObjOk P w H' h' a o:=by
 induction o with
 |lst xs=>obtain⟨z,its,n,r,e⟩:=x;exact⟨z,its,n,r,k _ _ (.inl rfl) e⟩
 |tup xs=>obtain⟨z,its,r,⟨ob,e,c⟩,ob',e',c'⟩:=x;exact⟨z,its,r,⟨ob,k _ _ (.inl rfl) e,c⟩,ob',k _ _ (.inl rfl) e',c'⟩
 |dK kvs=>obtain⟨z,y,vs,r,ob,es,ep,e,c⟩:=x;exact⟨z,y,vs,r,ob,es,ep,k _ _ (.inl rfl) e,c⟩
 |dT kvs=>obtain⟨z,y,xs,r,ob,es,ep,e,c⟩:=x;exact⟨z,y,xs,Paired.mapP r λp q z=>⟨z.1,ht _ _ z.2.1,z.2.2⟩,ob,es,ep,k _ _ (.inl rfl) e,c⟩
 |set S n=>obtain⟨ob,es,ep,t,e,c⟩:=x;exact⟨ob,es,ep,t,k _ _ (.inl rfl) e,c⟩
 |ins C dx fs=>obtain⟨d,z,ne,e,mA,⟨od,es,ep,e2,c⟩,r⟩:=x;exact⟨ho _ d,z,ne,k _ _ (.inl rfl) e,mA,⟨od,es,ep,k _ _ (.inr d) e2,c⟩,r⟩
 |own y=>obtain⟨ob,e⟩:=x;exact⟨ob,k _ _ (.inl rfl) e⟩
 |xd fs=>obtain⟨mA,⟨od,es,ep,e,c⟩,r⟩:=x;exact⟨mA,⟨od,es,ep,k _ _ (.inl rfl) e,c⟩,r⟩
 |rng lo hi=>obtain⟨t,u,v,e⟩:=x;exact⟨t,u,v,k _ _ (.inl rfl) e⟩
 |frz ob u ih=>obtain⟨e,q⟩:=x;exact⟨k _ _ (.inl rfl) e,ih q⟩
 |tbl ps=>have e:h.get? a=some {cls:=.none,data:=.fields ps}:=x;show h'.get? a=some {cls:=.none,data:=.fields ps};exact k a _ (.inl rfl) e
 |met f y=>have e:h.get? a=some (PySem.W.methodObj (.ref f) (.ref y)):=x;show h'.get? a=some (PySem.W.methodObj (.ref f) (.ref y));exact k a _ (.inl rfl) e
 |ext φ=>obtain⟨p,⟨o,e⟩,st⟩:=x;exact⟨st _ _ p λo q=>k _ _ (.inl rfl) q,⟨o,k _ _ (.inl rfl) e⟩,st⟩
theorem HOk.lt(x:HOk P w H h)(e:H a=some o):a<h.objs.size:=(x a o e).lt
theorem HOk.fresh(x:HOk P w H h)(e:h.objs.size≤a):H a=none:=by
 cases q:H a with
 |none=>rfl
 |some u=>exact absurd (Zu (x.lt q) e) (ZN _)
theorem HOk.kept(x:HOk P w H h)(k:∀b u,h.get? b=some u→h'.get? b=some u):HOk P w H h':=λa o e=>
 (x a o e).stay (λb u _ q=>k b u q) (λ_ q=>q) λ_ _ q=>q
theorem HOk.laid(x:HOk P w H h)(k:∀b u,h.get? b=some u→h'.get? b=some u)(hp:h.objs.size≤a)(new:ObjOk P w (upd H a o) h' a o):HOk P w (upd H a o) h':=λb u e=>by
 have hn:=x.fresh hp;by_cases hb:b=a
 ·subst hb;rw[a0L']at e;cases e;exact new
 ·rw[a0u' hb]at e;exact(x b u e).stay (λc v _ q=>k c v q) (λc q=>by rw[a0u' (a0m' q hn)];exact q) λc xs q=>by rw[a0u' (a0m' q hn)];exact q
end
def Rd(H:Hp)(a:Addr)(u:HO):Prop:=H a=some u∨∃o,H a=some (.frz o u)
theorem Rd.ok{P:Program}{H:Hp}{u:HO}(r:Rd H a u)(x:HOk P w H h):ObjOk P w H h a u:=by
 rcases r with r| ⟨o,r⟩
 ·exact x a u r
 ·obtain⟨_,q⟩:=x a _ r;exact q
def Mut:Option HO→Prop
 |some (.lst _)=>True
 |some (.dK _)=>True
 |some (.dT _)=>True
 |some (.set _ _)=>True
 |some (.ins _ _ _)=>True
 |some (.ext _)=>True
 |_=>False
section
variable {P:Program}{H:Hp}{x e:Addr}{o':HO}
theorem HOk.write(ok:HOk P w H h)(mu:Mut (H x))(he:e=x∨H e=some (.own x))(k:∀b u,b≠e→h.get? b=some u→h'.get? b=some u)(heo:∃u,h'.get? e=some u)
  (new:ObjOk P w (upd H x o') h' x o'):HOk P w (upd H x o') h':=λb u q=>by
 have nown:∀c y,H c=some (.own y)→c≠x:=λc y r z=>by subst z;rw[r]at mu;exact mu
 have ntup:∀c xs,H c=some (.tup xs)→c≠x:=λc xs r z=>by subst z;rw[r]at mu;exact mu
 by_cases hb:b=x
 ·subst hb;rw[a0L']at q;cases q;exact new
 ·rw[a0u' hb]at q;by_cases hbe:b=e
  ·have q':H b=some (.own x):=by
    rcases he with z|z
    ·exact absurd (hbe.trans z) hb
    ·rw[hbe];exact z
   rw[q]at q';cases q';obtain⟨v,hv⟩:=heo;exact⟨v,by rw[hbe];exact hv⟩
  ·refine(ok b u q).stay (λc v hc r=>k c v ?_ r) (λc r=>by rw[a0u' (nown c b r)];exact r) λc xs r=>by rw[a0u' (ntup c xs r)];exact r
   rcases hc with rfl|hc
   ·exact hbe
   ·rintro rfl;rcases he with z|z
    ·exact nown c b hc z
    ·rw[hc]at z;cases z;exact hb rfl
end
structure Un (fs ex:La)(H H':Hp)(h h':Heap):Prop where
 keep:∀b o,h.get? b=some o→H b=none→b∉fs→b∉ex→h'.get? b=some o
 slot:∀b o,h.get? b=some o→H b=none→b∈fs→b∉ex→∃sl,h'.get? b=some {o with slots:=sl}
 free:∀b o,h.get? b=some o→H b=none→b∉ex→H' b=none
 there:∀b o,h.get? b=some o→b∉ex→∃o',h'.get? b=some o'
 tups:∀b xs,H b=some (.tup xs)→H' b=some (.tup xs)
 frzs:∀b o u,H b=some (.frz o u)→H' b=some (.frz o u)
 tbls:∀b ps,H b=some (.tbl ps)→∃more,H' b=some (.tbl (ps++more))
section
variable {fs fs' ex ex':La}{H H1 H2:Hp}{h2:Heap}{x e:Addr}{o:HO}
theorem Un.any(u:Un fs ex H H1 h h1){b:Addr}{ob:Obj}(q:h.get? b=some ob)(n:H b=none)(hx:b∉ex):∃sl,h1.get? b=some {ob with slots:=sl}:=by
 by_cases hb:b∈fs
 ·exact u.slot b ob q n hb hx
 ·exact⟨ob.slots,u.keep b ob q n hb hx⟩
theorem Un.kept(k:∀b u,h.get? b=some u→h'.get? b=some u):Un fs ex H H h h':=
 ⟨λb ob q _ _ _=>k b ob q,λb ob q _ _ _=>⟨ob.slots,k b ob q⟩,λ_ _ _ n _=>n,λb ob q _=>⟨ob,k b ob q⟩,λ_ _ q=>q,λ_ _ _ q=>q,λ_ ps q=>⟨#[],by rw[q];simp⟩⟩
theorem Un.refl:Un fs ex H H h h:=Un.kept λ_ _ q=>q
theorem Un.laid(k:∀b u,h.get? b=some u→h'.get? b=some u)(hp:h.objs.size≤a)(hn:H a=none):Un fs ex H (upd H a o) h h' where
 keep:=λb u q _ _ _=>k b u q
 slot:=λb u q _ _ _=>⟨u.slots,k b u q⟩
 free:=λb u q n _=>by rw[a0u' (ZA (Zu (Zj q) hp))];exact n
 there:=λb u q _=>⟨u,k b u q⟩
 tups:=λb xs q=>by rw[a0u' (a0m' q hn)];exact q
 frzs:=λb u xs q=>by rw[a0u' (a0m' q hn)];exact q
 tbls:=λb ps q=>⟨#[],by rw[a0u' (a0m' q hn),q];simp⟩
theorem Un.write(mu:Mut (H x))(he:e=x∨H e=some (.own x))(k:∀b u,b≠e→h.get? b=some u→h'.get? b=some u)(heo:∃u,h'.get? e=some u):Un fs ex H (upd H x o) h h':=by
 have hx:∀b,H b=none→b≠x:=λb n z=>by subst z;rw[n]at mu;exact mu
 have hb:∀b,H b=none→b≠e:=λb n z=>by
  subst z;rcases he with r|r
  ·exact hx b n r
  ·rw[n]at r;cases r
 have hm:∀b u,H b=some u→¬Mut (some u)→b≠x:=λb u q nm z=>by subst z;rw[q]at mu;exact nm mu
 refine⟨λb u q n _ _=>k b u (hb b n) q,λb u q n _ _=>⟨u.slots,k b u (hb b n) q⟩,λb u q n _=>by rw[a0u' (hx b n)];exact n,λb u q _=>?_,
  λb xs q=>by rw[a0u' (hm b _ q λz=>z)];exact q,λb u xs q=>by rw[a0u' (hm b _ q λz=>z)];exact q,λb ps q=>⟨#[],by rw[a0u' (hm b _ q λz=>z),q];simp⟩⟩
 by_cases hbe:b=e
 ·subst hbe;exact heo
 ·exact⟨u,k b u hbe q⟩
end
noncomputable def trk(h:Heap)(H:Hp):La:=(List.range h.objs.size).filter λa=>(H a).isSome
def hidT(h:Heap)(H:Hp):Heap:=PySem.W.hideAll h (trk h H)
theorem b0k'(h:Heap)(H:Hp):(hidT h H).objs.size=h.objs.size:=PySem.W.hideAll_size _ _
theorem b1X'{H:Hp}{b:Addr}{o:Obj}(e:h.get? b=some o)(n:H b=none):(hidT h H).get? b=some o:=
 PySem.W.hideAll_get _ e λhm=>by have q:(H b).isSome=true:=(ZQ.mp hm).2;rw[n]at q;simp at q
theorem of_hidT{H:Hp}{b:Addr}{o:Obj}(e:(hidT h H).get? b=some o):h.get? b=some o∧H b=none:=by
 have e':h.get? b=some o:=PySem.W.of_hideAll (trk h H) e;refine⟨e',?_⟩;cases q:H b with
 |none=>rfl
 |some x=>have hm:b∈trk h H:=ZQ.mpr ⟨List.mem_range.mpr (Zj e'),by simp[q]⟩;have z:(hidT h H).get? b=none:=PySem.W.hideAll_none (trk h H) hm;rw[z]at e;cases e
structure Mod (K:Fg)(mg:Mg)(base:Heap):Prop where
 kin:K.In base
 glob:base.Ns mainGlobals mg
 blt:∃mb,base.Ns builtinsNs mb∧∀x:Str,x≠"__name__"→mb x=bootBuiltins x
 nolimit:base.NoLimit
structure Cx where
 prog:Program
 w:World
 K:Fg
 mg:Mg
 base:Heap
 A:Around
 N:Ls
 s₀:Shared
 H₀:Hp
 env:Env
 outer:List Env
 stack:List Env
 ex:La
 fn:Str→Bool
 calm:Bool
 pn:Lp
 xe:Vs
def frs(l:List Env):La:=l.filterMap (·.frame)
abbrev Cx.fs(X:Cx):La:=frs X.outer
def Vis(sc:Scope)(x:Str):Prop:=sc.names.lookup x=some .local∨sc.names.lookup x=some .cell∨sc.names.lookup x=some .free
def Loc(sc:Scope)(x:Str):Prop:=sc.names.lookup x=some .local∨sc.names.lookup x=some .cell
def Look(env:Env)(h:Heap)(m:Mg)(x:Str)(u:Value):Prop:=
 (env.kindOf x=some .local∧m x=some u)∨((env.kindOf x=some .cell∨env.kindOf x=some .free)∧∃c,env.cells.lookup x=some c∧h.IsCell c (some u))
structure Cx.Ok (X:Cx):Prop where
 mod:Mod X.K X.mg X.base
 kind:X.env.scope.kind=.function
 glob:X.env.globals=mainGlobals
 blt:X.env.builtins=builtinsNs
 above:X.s₀.heap.objs.size≤X.env.locals
 inj:∀x y c,X.env.cells.lookup x=some c→X.env.cells.lookup y=some c→x=y
 has:∀x,(X.env.kindOf x=some .cell∨X.env.kindOf x=some .free)→∃c,X.env.cells.lookup x=some c
 cab:∀x c,X.fn x=true→X.env.cells.lookup x=some c→X.s₀.heap.objs.size≤c
 hd:X.calm=true→X.A.handled=none
 frames:X.A.frames=some X.stack
 stk:X.stack=X.outer∨(X.stack=X.env::X.outer∧X.env.frame=some X.env.locals)
 exf:∀b∈X.ex,b≠X.env.locals∧∀x c,X.env.cells.lookup x=some c→c≠b
 bs:∀b o,X.base.get? b=some o→X.s₀.heap.get? b=some o∧X.H₀ b=none
 bsz:X.base.objs.size≤X.s₀.heap.objs.size
 noex:∀b o,X.base.get? b=some o→b∉X.ex
 exfs:∀b∈X.ex,b∉X.fs
 funs:X.s₀.heap.FunFrames X.base X.outer
 frf:∀b∈X.fs,X.H₀ b=none
structure Inv (X:Cx)(pq:Lp)(σ:List (Option V))(H:Hp)(s:Shared):Prop where
 ok:X.Ok
 os:s.os=X.s₀.os
 bare:AllBare s.gens
 base:Un X.fs X.ex X.H₀ H X.s₀.heap s.heap
 loc:∃m,s.heap.Ns X.env.locals m∧∀(i:Nat) (x:Str) (v:V),X.N[i]?=some x→σ[i]?=some (some v)→Vis X.env.scope x→∃u,RelV v u∧Look X.env s.heap m x u
 cell:∀x c,X.env.cells.lookup x=some c→∃v,s.heap.IsCell c v
 free:H X.env.locals=none
 freeC:∀x c,X.env.cells.lookup x=some c→H c=none
 pin:∀p∈X.pn++pq,s.heap.get? p.1=some p.2∧H p.1=none∧p.1≠X.env.locals∧p.1∉X.fs∧∀v,p.2.data≠.cell v
 hok:HOk X.prog X.w H s.heap
 len:σ.length=X.N.length
section
variable {X:Cx}{σ:List (Option V)}{H H':Hp}
theorem Cx.Ok.nofr(ok:X.Ok){b:Addr}{o:Obj}(e:X.base.get? b=some o):b∉X.fs:=λhb=>by have:=(ok.funs.mem hb).1;rw[e]at this;cases this
theorem Inv.bs(I:Inv X pq σ H s):∀b o,X.base.get? b=some o→s.heap.get? b=some o∧H b=none:=λb o e=>
 ⟨I.base.keep b o (I.ok.bs b o e).1 (I.ok.bs b o e).2 (I.ok.nofr e) (I.ok.noex b o e),I.base.free b o (I.ok.bs b o e).1 (I.ok.bs b o e).2 (I.ok.noex b o e)⟩
theorem Inv.bk(I:Inv X pq σ H s):∀b o,X.base.get? b=some o→s.heap.get? b=some o:=λb o e=>(I.bs b o e).1
theorem Inv.mod(I:Inv X pq σ H s):Mod X.K X.mg X.base:=I.ok.mod
theorem Inv.kIn(I:Inv X pq σ H s):X.K.In s.heap:=I.ok.mod.kin.keeps I.bk
theorem Inv.lt(I:Inv X pq σ H s):X.env.locals<s.heap.objs.size:=let⟨_,hn,_⟩:=I.loc;hn.lt
theorem Inv.sz(I:Inv X pq σ H s):X.s₀.heap.objs.size≤s.heap.objs.size:=ZT I.ok.above (Nat.le_of_lt I.lt)
theorem Inv.nofs(I:Inv X pq σ H s)(h:s.heap.objs.size≤a):a∉X.fs:=λhb=>by obtain⟨_,o,ho,_⟩:=I.ok.funs.mem hb;exact absurd (Zu (Zj ho) (ZT I.sz h)) (ZN _)
theorem Inv.cne(I:Inv X pq σ H s):∀x c,X.env.cells.lookup x=some c→c≠X.env.locals:=λx c e z=>by obtain⟨v,o,ho,hd⟩:=I.cell x c e;obtain⟨m,⟨o',es,ep,ho',hd',_⟩,_⟩:=I.loc;rw[z,ho']at ho;cases ho;rw[hd']at hd;cases hd
theorem Inv.funs(I:Inv X pq σ H s):s.heap.FunFrames X.base X.outer:=by
 have all:∀(l:List Env),(∀b∈frs l,b∈X.fs)→X.s₀.heap.FunFrames X.base l→s.heap.FunFrames X.base l:=by
  intro l
  induction l with
  |nil=>intro _ _;trivial
  |cons env r ih=>intro hs hl;obtain⟨hk,⟨L,o,hf,hn,ho,hd⟩,hr⟩:=hl;have hL:L∈X.fs:=hs L (by unfold frs;rw[List.filterMap_cons,hf];exact Zd);obtain⟨sl,e⟩:=I.base.slot L o ho (I.ok.frf L hL) hL λz=>I.ok.exfs L z hL;exact⟨hk,⟨L,_,hf,hn,e,hd⟩,ih (λb hb=>hs b (by unfold frs;rw[List.filterMap_cons,hf];exact Zb _ hb)) hr⟩
 exact all X.outer (λ_ hb=>hb) I.ok.funs
theorem Inv.stack(I:Inv X pq σ H s):s.heap.FunFrames X.base X.stack:=by
 rcases I.ok.stk with e| ⟨e,hf⟩
 ·rw[e];exact I.funs
 ·rw[e];obtain⟨m,hn,_⟩:=I.loc;refine .cons (by rw[I.ok.kind];decide) hf hn ?_ I.funs;exact Heap.get?_none_of_le (ZT I.ok.bsz I.ok.above)
theorem Inv.stkSub(I:Inv X pq σ H s):∀b∈frs X.stack,b∈X.env.locals::X.fs:=λb hb=>by
 rcases I.ok.stk with e| ⟨e,hf⟩
 ·rw[e]at hb;exact Zb _ hb
 ·rw[e]at hb;unfold frs at hb;rw[List.filterMap_cons,hf]at hb;exact hb
theorem Inv.stkFree(I:Inv X pq σ H s):∀b∈frs X.stack,H b=none:=λb hb=>by
 rcases Zm.mp (I.stkSub b hb)with e|hb
 ·rw[e];exact I.free
 ·obtain⟨_,o,ho,_⟩:=I.ok.funs.mem hb;exact I.base.free b o ho (I.ok.frf b hb) λz=>I.ok.exfs b z hb
theorem Inv.step{g':Array GenState}{t':Nat}{d':Drawn}{ch:La}(I:Inv X pq σ H s)
  (hch:∀b∈ch,(b∈X.ex∨X.s₀.heap.objs.size≤b)∧b≠X.env.locals∧(∀x c,X.env.cells.lookup x=some c→c≠b)∧∀p∈X.pn++pq,p.1≠b)
  (keep:∀b o,b≠X.env.locals→b∉X.fs→b∉ch→s.heap.get? b=some o→H b=none→h'.get? b=some o)
  (slot:∀b o,b≠X.env.locals→b∈X.fs→b∉ch→s.heap.get? b=some o→H b=none→∃sl,h'.get? b=some {o with slots:=sl}) (free:∀b o,b∉ch→s.heap.get? b=some o→H b=none→H' b=none)
  (there:∀b o,b∉ch→s.heap.get? b=some o→∃o',h'.get? b=some o')
  (tups:∀b xs,H b=some (.tup xs)→H' b=some (.tup xs)) (frzs:∀b o u,H b=some (.frz o u)→H' b=some (.frz o u)) (tbls:∀b ps,H b=some (.tbl ps)→∃more,H' b=some (.tbl (ps++more)))
  (ns:∀m,s.heap.Ns X.env.locals m→h'.Ns X.env.locals m) (hok:HOk X.prog X.w H' h') (hg:AllBare g'):
  Inv X pq σ H' {s with heap:=h',gens:=g',drawn:=d',toks:=t'}:=by
 have neL:∀b o,X.s₀.heap.get? b=some o→b≠X.env.locals:=λb o e=>ZA (Zu (Zj e) I.ok.above)
 have neC:∀b o,X.s₀.heap.get? b=some o→b∉X.ex→b∉ch:=λb o e hx hb=>by
  rcases(hch b hb).1 with z|z
  ·exact hx z
  ·exact absurd (Zu (Zj e) z) (ZN _)
 have cellK:∀x c,X.env.cells.lookup x=some c→∀v,s.heap.IsCell c v→h'.IsCell c v:=λx c e v ⟨o,ho,hd⟩=>by
  have nch:c∉ch:=λz=>(hch c z).2.2.1 x c e rfl;by_cases hc:c∈X.fs
  ·obtain⟨sl,q⟩:=slot c o (I.cne x c e) hc nch ho (I.freeC x c e);exact⟨_,q,hd⟩
  ·exact⟨o,keep c o (I.cne x c e) hc nch ho (I.freeC x c e),hd⟩
 refine⟨I.ok,I.os,hg,⟨λb o e n hb hx=>?_,λb o e n hb hx=>?_,λb o e n hx=>?_,λb o e hx=>?_,λb xs e=>tups b xs (I.base.tups b xs e),λb o xs e=>frzs b o xs (I.base.frzs b o xs e),λb ps e=>?_⟩,?_,λx c e=>?_,?_,λx c e=>?_,λp hp=>?_,hok,I.len⟩
 ·exact keep b o (neL b o e) hb (neC b o e hx) (I.base.keep b o e n hb hx) (I.base.free b o e n hx)
 ·obtain⟨sl,e1⟩:=I.base.slot b o e n hb hx;obtain⟨sl',e2⟩:=slot b _ (neL b o e) hb (neC b o e hx) e1 (I.base.free b o e n hx);exact⟨sl',e2⟩
 ·obtain⟨o',e1⟩:=I.base.there b o e hx;exact free b o' (neC b o e hx) e1 (I.base.free b o e n hx)
 ·obtain⟨o',e1⟩:=I.base.there b o e hx;exact there b o' (neC b o e hx) e1
 ·obtain⟨m1,e1⟩:=I.base.tbls b ps e;obtain⟨m2,e2⟩:=tbls b _ e1;exact⟨m1++m2,by rw[e2,Array.append_assoc]⟩
 ·obtain⟨m,hn,hl⟩:=I.loc;refine⟨m,ns m hn,λi x v e1 e2 e3=>?_⟩;obtain⟨u,r,l⟩:=hl i x v e1 e2 e3;refine⟨u,r,?_⟩;rcases l with l| ⟨k,c,e,z⟩
  ·exact .inl l
  ·exact .inr ⟨k,c,e,cellK x c e _ z⟩
 ·obtain⟨v,z⟩:=I.cell x c e;exact⟨v,cellK x c e v z⟩
 ·obtain⟨m,⟨o,_,_,ho,_⟩,_⟩:=I.loc;exact free _ o (λz=>(hch _ z).2.1 rfl) ho I.free
 ·obtain⟨v,o,ho,hd⟩:=I.cell x c e;exact free c o (λz=>(hch c z).2.2.1 x c e rfl) ho (I.freeC x c e)
 ·obtain⟨e,n,ne,nf,d⟩:=I.pin p hp;have nch:p.1∉ch:=λz=>(hch p.1 z).2.2.2 p hp rfl;exact⟨keep p.1 p.2 ne nf nch e n,free p.1 p.2 nch e n,ne,nf,d⟩
theorem Inv.un{t':Nat}(I:Inv X pq σ H s)(u:Un X.fs [] H H' s.heap h')(hok:HOk X.prog X.w H' h'):Inv X pq σ H' {s with heap:=h',toks:=t'}:=by obtain⟨m,⟨o,es,ep,ho,r⟩,_⟩:=id I.loc;obtain⟨sl,hL⟩:=u.any ho I.free (by simp);exact I.step (g':=s.gens) (d':=s.drawn) (ch:=[]) (λ_ z=>nomatch z) (λb o _ hb _ e n=>u.keep b o e n hb (by simp)) (λb o _ hb _ e n=>u.slot b o e n hb (by simp)) (λb o _ e n=>u.free b o e n (by simp)) (λb o _ e=>u.there b o e (by simp)) u.tups u.frzs u.tbls (λm' hm=>by obtain⟨o',es',ep',ho',r'⟩:=hm;rw[ho]at ho';cases ho';exact⟨_,es',ep',hL,r'⟩) hok I.bare
theorem Inv.call{g':Array GenState}{t':Nat}{d':Drawn}(I:Inv X pq σ H s)(u:Un (frs X.stack) ch H H' s.heap h')(hok:HOk X.prog X.w H' h')(hg:AllBare g')
  (hch:∀b∈ch,(b∈X.ex∨X.s₀.heap.objs.size≤b)∧b≠X.env.locals∧(∀x c,X.env.cells.lookup x=some c→c≠b)∧∀p∈X.pn++pq,p.1≠b):
  Inv X pq σ H' {s with heap:=h',gens:=g',drawn:=d',toks:=t'}:=by
 obtain⟨m,⟨o,es,ep,ho,r⟩,_⟩:=id I.loc;obtain⟨sl,hL⟩:=u.any ho I.free λz=>(hch _ z).2.1 rfl;exact I.step (ch:=ch) hch (λb o hL hb hc e n=>u.keep b o e n (λz=>(Zm.mp (I.stkSub b z)).elim hL hb) hc) (λb o _ _ hc e n=>u.any e n hc) (λb o hc e n=>u.free b o e n hc) (λb o hc e=>u.there b o e hc) u.tups u.frzs u.tbls (λm' hm=>by obtain⟨o',es',ep',ho',r'⟩:=hm;rw[ho]at ho';cases ho';exact⟨_,es',ep',hL,r'⟩) hok hg
theorem Inv.turned{t':Nat}(I:Inv X pq σ H s)(k:∀b o,b≠it→s.heap.get? b=some o→h'.get? b=some o)(hn:H it=none)(hL:it≠X.env.locals)
  (h1:it∈X.ex∨X.s₀.heap.objs.size≤it) (h2:∀x c,X.env.cells.lookup x=some c→c≠it) (h3:∀p∈X.pn++pq,p.1≠it):Inv X pq σ H {s with heap:=h',toks:=t'}:=by
 have nit:∀b u,H b=some u→b≠it:=λb u e z=>by rw[z,hn]at e;cases e
 refine I.step (g':=s.gens) (d':=s.drawn) (ch:=[it]) (λb hb=>?_) (λb o _ _ hc e _=>k b o (λz=>hc (by simp[z])) e) (λb o _ _ hc e _=>⟨o.slots,k b o (λz=>hc (by simp[z])) e⟩) (λ_ _ _ _ n=>n)
  (λb o hc e=>⟨o,k b o (λz=>hc (by simp[z])) e⟩) (λ_ _ e=>e) (λ_ _ _ e=>e) (λb ps e=>⟨#[],by rw[e];simp⟩) (λm hm=>?_) (λb u e=>?_) I.bare
 ·have e:b=it:=by simpa using hb
  subst e;exact⟨h1,hL,h2,h3⟩
 ·obtain⟨o,es,ep,ho,r⟩:=hm;exact⟨o,es,ep,k _ o (Ne.symm hL) ho,r⟩
 ·refine(I.hok b u e).stay (λc v hc q=>k c v ?_ q) (λ_ q=>q) λ_ _ q=>q;rcases hc with z|z
  ·rw[z];exact nit b u e
  ·exact nit c _ z
theorem Inv.tok(I:Inv X pq σ H s)(t:Nat):Inv X pq σ H {s with toks:=t}:=I.un (h':=s.heap) (t':=t) Un.refl I.hok
theorem Inv.kept{t':Nat}(I:Inv X pq σ H s)(k:∀b u,s.heap.get? b=some u→h'.get? b=some u):Inv X pq σ H {s with heap:=h',toks:=t'}:=I.un (Un.kept k) (I.hok.kept k)
theorem Inv.laid{o:HO}{t':Nat}(I:Inv X pq σ H s)(k:∀b u,s.heap.get? b=some u→h'.get? b=some u)(hp:s.heap.objs.size≤a)(new:ObjOk X.prog X.w (upd H a o) h' a o):
  Inv X pq σ (upd H a o) {s with heap:=h',toks:=t'}:=I.un (Un.laid k hp (I.hok.fresh hp)) (I.hok.laid k hp new)
theorem Inv.write{x e:Addr}{o:HO}{t':Nat}(I:Inv X pq σ H s)(mu:Mut (H x))(he:e=x∨H e=some (.own x))(k:∀b u,b≠e→s.heap.get? b=some u→h'.get? b=some u)(heo:∃u,h'.get? e=some u)
  (new:ObjOk X.prog X.w (upd H x o) h' x o):Inv X pq σ (upd H x o) {s with heap:=h',toks:=t'}:=I.un (Un.write mu he k heo) (I.hok.write mu he k heo new)
theorem Inv.pins_of(I:Inv X pq σ H s)(h:∀p∈pins',s.heap.get? p.1=some p.2∧H p.1=none∧p.1≠X.env.locals∧p.1∉X.fs∧∀v,p.2.data≠.cell v):Inv X pins' σ H s:=
 ⟨I.ok,I.os,I.bare,I.base,I.loc,I.cell,I.free,I.freeC,λp hp=>(ZF.mp hp).elim (λz=>I.pin p (ZJ _ z)) (h p),I.hok,I.len⟩
theorem a8A'(hN:N.Nodup){i j:Nat}{x:Str}(a:N[i]?=some x)(b:N[j]?=some x):i=j:=by obtain⟨h1,e1⟩:=Zf.mp a;obtain⟨h2,e2⟩:=Zf.mp b;exact(List.getElem_inj hN).mp (e1.trans e2.symm)
theorem a7l'{M:Model}{A:Around}{E:Vs}{i:Nat}{x:Str}{v:V}{Q:Unit→Shared→Prop}(I:Inv X pq σ H s)(hN:X.N.Nodup)(hi:X.N[i]?=some x)(hx:Loc X.env.scope x)(r:RelV v u)
  (h:∀s',Inv X pq (σ.set i (some v)) H s'→(∃a,Heap.SameBut a s.heap s'.heap∧(a=X.env.locals∨X.env.cells.lookup x=some a))→Q () s') (hf:X.fn x=true∨X.env.scope.names.lookup x=some .local:=by first|exact .inl rfl|exact .inr rfl|assumption):wpAny M A (storeName X.env x u) Q E s:=by
 obtain⟨m,hn,hl⟩:=id I.loc;have hcls:(X.env.scope.kind== .class||(X.env.scope.kind== .module&&X.env.locals !=X.env.globals))=false:=by rw[I.ok.kind];rfl
 have hiσ:i<σ.length:=by rw[I.len];exact(Zf.mp hi).1
 have cne:=I.cne
 have tracked:∀{a:Addr} {h':Heap},(∃o,s.heap.get? a=some o∧H a=none)→Heap.SameBut a s.heap h'→HOk X.prog X.w H h':=λ{a h'} ha hs b ob e=>by
  obtain⟨_,_,hfree⟩:=ha;refine(I.hok b ob e).stay (λc w' hc q=>(hs.2 c ?_).trans q) (λ_ q=>q) λ_ _ q=>q;rintro rfl;rcases hc with rfl|hc
  ·rw[hfree]at e;cases e
  ·rw[hfree]at hc;cases hc
 rcases hx with hk|hk
 ·refine wpAny_storeName_local hk hn (λh' hn' hs=>?_) hcls;obtain⟨oL,_,_,hoL,_⟩:=id hn;refine h _ ⟨I.ok,I.os,I.bare,⟨λb o e n hb hx=>?_,λb o e n hb hx=>?_,I.base.free,λb o e hx=>?_,I.base.tups,I.base.frzs,I.base.tbls⟩,⟨_,hn',λj y v' e1 e2 e3=>?_⟩,λy c e=>?_,I.free,I.freeC,λp hp=>?_,tracked ⟨oL,hoL,I.free⟩ hs,by simpa using I.len⟩ ⟨_,hs,.inl rfl⟩
  ·exact(hs.2 b (ZA (Zu (Zj e) I.ok.above))).trans (I.base.keep b o e n hb hx)
  ·obtain⟨sl,e1⟩:=I.base.slot b o e n hb hx;exact⟨sl,(hs.2 b (ZA (Zu (Zj e) I.ok.above))).trans e1⟩
  ·obtain⟨o',e1⟩:=I.base.there b o e hx;exact⟨o',(hs.2 b (ZA (Zu (Zj e) I.ok.above))).trans e1⟩
  ·by_cases hj:j=i
   ·subst hj;rw[hi]at e1;cases e1;rw[ZV hiσ]at e2;cases e2;exact⟨u,r,.inl ⟨hk,by simp⟩⟩
   ·rw[List.getElem?_set_ne (Ne.symm hj)]at e2;obtain⟨u',r',q⟩:=hl j y v' e1 e2 e3;refine⟨u',r',?_⟩;rcases q with⟨k,e⟩| ⟨k,c,e,z⟩
    ·refine .inl ⟨k,?_⟩;have:y≠x:=λe=>hj (a8A' hN e1 (e▸hi));simp[this,e]
    ·exact .inr ⟨k,c,e,z.sameBut hs (cne y c e)⟩
  ·obtain⟨w',z⟩:=I.cell y c e;exact⟨w',z.sameBut hs (cne y c e)⟩
  ·obtain⟨e,n,ne,nf,d⟩:=I.pin p hp;exact⟨(hs.2 p.1 ne).trans e,n,ne,nf,d⟩
 ·have hfn:X.fn x=true:=by
   rcases hf with z|z
   ·exact z
   ·rw[z]at hk;cases hk
  obtain⟨c,hc⟩:=I.ok.has x (.inl hk);obtain⟨w',z⟩:=I.cell x c hc;refine wpAny_storeName_cell I.ok.kind hk hc z (λh' hc' hs=>?_);obtain⟨oc,hoc,hocd⟩:=id z;refine h {s with heap:=h'} ⟨I.ok,I.os,I.bare,⟨λb o e n hb hx=>?_,λb o e n hb hx=>?_,I.base.free,λb o e hx=>?_,I.base.tups,I.base.frzs,I.base.tbls⟩,⟨m,hn.sameBut hs (Ne.symm (cne x c hc)),λj y v' e1 e2 e3=>?_⟩,λy c' e=>?_,I.free,I.freeC,λp hp=>?_,tracked ⟨oc,hoc,I.freeC x c hc⟩ hs,by simpa using I.len⟩ ⟨c,hs,.inr hc⟩
  ·exact(hs.2 b (ZA (Zu (Zj e) (I.ok.cab x c hfn hc)))).trans (I.base.keep b o e n hb hx)
  ·obtain⟨sl,e1⟩:=I.base.slot b o e n hb hx;exact⟨sl,(hs.2 b (ZA (Zu (Zj e) (I.ok.cab x c hfn hc)))).trans e1⟩
  ·obtain⟨o',e1⟩:=I.base.there b o e hx;exact⟨o',(hs.2 b (ZA (Zu (Zj e) (I.ok.cab x c hfn hc)))).trans e1⟩
  ·by_cases hj:j=i
   ·subst hj;rw[hi]at e1;cases e1;rw[ZV hiσ]at e2;cases e2;exact⟨u,r,.inr ⟨.inl hk,c,hc,hc'⟩⟩
   ·rw[List.getElem?_set_ne (Ne.symm hj)]at e2;obtain⟨u',r',q⟩:=hl j y v' e1 e2 e3;refine⟨u',r',?_⟩;rcases q with q| ⟨k,c',e,z'⟩
    ·exact .inl q
    ·refine .inr ⟨k,c',e,z'.sameBut hs ?_⟩;rintro rfl;exact hj (a8A' hN e1 (I.ok.inj _ _ _ e hc▸hi))
  ·by_cases hcc:c'=c
   ·subst hcc;exact⟨_,hc'⟩
   ·obtain⟨w2,z2⟩:=I.cell y c' e;exact⟨w2,z2.sameBut hs hcc⟩
  ·obtain⟨e,n,ne,nf,d⟩:=I.pin p hp;refine⟨(hs.2 p.1 ?_).trans e,n,ne,nf,d⟩;intro q;rw[q,hoc]at e;have q':oc=p.2:=ZL e;exact d w' (by rw[←q'];exact hocd)
theorem a8B'{M:Model}{A:Around}{E:Vs}{i:Nat}{x:Str}{v:V}{Q:Unit→Shared→Prop}(I:Inv X pq σ H s)(hN:X.N.Nodup)(hi:X.N[i]?=some x)(hx:Loc X.env.scope x)(r:RelV v u)
  (h:∀s',Inv X pq (σ.set i (some v)) H s'→Q () s') (hf:X.fn x=true∨X.env.scope.names.lookup x=some .local:=by first|exact .inl rfl|exact .inr rfl|assumption):wpAny M A (storeName X.env x u) Q E s:=
 a7l' I hN hi hx r (λs' I' _=>h s' I') hf
theorem Inv.call'(I:Inv X pq σ H s)(ho:s'.os=s.os)(u:Un (frs X.stack) ch H H' s.heap s'.heap)(hok:HOk X.prog X.w H' s'.heap)(hg:AllBare s'.gens)
  (hch:∀b∈ch,(b∈X.ex∨X.s₀.heap.objs.size≤b)∧b≠X.env.locals∧(∀x c,X.env.cells.lookup x=some c→c≠b)∧∀p∈X.pn++pq,p.1≠b):Inv X pq σ H' s':=by
 obtain⟨h',g',d',t',o'⟩:=s';have e:o'=s.os:=ho;subst e;exact I.call (g':=g') (t':=t') (d':=d') u hok hg hch
end
abbrev XK:=Value→Option Addr→Hp→Prop
abbrev St:=List (Option V)
abbrev VK:=V→Hp→Prop
abbrev TE:=St→Hp→VK→Prop
abbrev TT:=St→Hp→(Bool→Hp→Prop)→Prop
abbrev TA:=St→Hp→(List V→Hp→Prop)→Prop
structure Ends where
 nx:St→Hp→Prop
 rt:VK
 bk:St→Hp→Prop:=λ_ _=>False
 ct:St→Hp→Prop:=λ_ _=>False
abbrev TS:=Ends→St→Hp→Prop
def EP(X:Cx)(pq:Lp)(σ:St)(Q:VK)(u:Value)(s':Shared):Prop:=∃v H',Inv X pq σ H' s'∧RelV v u∧Q v H'
def TP(X:Cx)(pq:Lp)(σ:St)(Q:Bool→Hp→Prop)(b:Bool)(s':Shared):Prop:=∃H',Inv X pq σ H' s'∧Q b H'
def AP(X:Cx)(pq:Lp)(σ:St)(Q:List V→Hp→Prop)(us:Lv)(s':Shared):Prop:=∃vs H',Inv X pq σ H' s'∧Vals vs us∧Q vs H'
def SP(X:Cx)(pq:Lp)(D:Ends)(f:Flow)(s':Shared):Prop:=
 match f with
 | .next=>∃σ' H',Inv X pq σ' H' s'∧D.nx σ' H'
 | .brk=>∃σ' H',Inv X pq σ' H' s'∧D.bk σ' H'
 | .cont=>∃σ' H',Inv X pq σ' H' s'∧D.ct σ' H'
 | .ret u=>∃v σ' H',Inv X pq σ' H' s'∧RelV v u∧D.rt v H'
def PE(X:Cx)(e:Expr)(t:TE):Prop:=
 ∀(pq:Lp) (s:Shared) (σ:St) (H:Hp) (Q:VK),Inv X pq σ H s→t σ H Q→wpAny (model X.prog X.w) X.A (eval e X.env) (EP X pq σ Q) X.xe s
def PT(X:Cx)(e:Expr)(t:TT):Prop:=
 ∀(pq:Lp) (s:Shared) (σ:St) (H:Hp) (Q:Bool→Hp→Prop),Inv X pq σ H s→t σ H Q→wpAny (model X.prog X.w) X.A (isTrue e X.env (eval e X.env)) (TP X pq σ Q) X.xe s
def PW(X:Cx)(e:Expr)(t:TT):Prop:=
 ∀(whole:Sem Value) (pq:Lp) (s:Shared) (σ:St) (H:Hp) (Q:Bool→Hp→Prop),Inv X pq σ H s→t σ H Q→wpAny (model X.prog X.w) X.A (isTrue e X.env whole) (TP X pq σ Q) X.xe s
theorem PW.pt{X:Cx}{t:TT}(h:PW X e t):PT X e t:=h _
def PA(X:Cx)(es:Lx)(t:TA):Prop:=
 ∀(pos:Pos) (pq:Lp) (s:Shared) (σ:St) (H:Hp) (Q:List V→Hp→Prop),Inv X pq σ H s→t σ H Q→wpAny (model X.prog X.w) X.A (spliced (backTo pos (starEach es X.env))) (AP X pq σ Q) X.xe s
def PS(X:Cx)(st:Stmt)(t:TS):Prop:=
 ∀(pq:Lp) (s:Shared) (σ:St) (H:Hp) (D:Ends),Inv X pq σ H s→t D σ H→wpAny (model X.prog X.w) X.A (exec st X.env) (SP X pq D) X.xe s
def PSs(X:Cx)(st:List Stmt)(t:TS):Prop:=
 ∀(pq:Lp) (s:Shared) (σ:St) (H:Hp) (D:Ends),Inv X pq σ H s→t D σ H→wpAny (model X.prog X.w) X.A (execs st X.env) (SP X pq D) X.xe s
theorem thn{t:Sem α}{Q Q':α→Shared→Prop}(h:wpAny M A t Q E s)(hQ:∀a s,Q a s→Q' a s):wpAny M A t Q' E s:=wpAny_mono h hQ λ_ _ x=>x
section
variable {X:Cx}
def tVar(i:Nat):TE:=λσ H Q=>∃v,σ[i]?=some (some v)∧Q v H
def tC(v:V):TE:=λ_ H Q=>Q v H
theorem pe_var{i:Nat}{x:Str}{pos:Pos}(hN:X.N[i]?=some x)(hv:Vis X.env.scope x)(hd:(x==("__debug__":Str))=false:=by decide)(hcd:(x==("__classdict__":Str))=false:=by decide):PE X (.Name x pos) (tVar i):=by
 intro pq s σ H Q I h;obtain⟨v,e,h⟩:=h;obtain⟨m,hn,hl⟩:=I.loc;obtain⟨u,r,l⟩:=hl i x v hN e hv;have fin:EP X pq σ Q u s:=⟨v,H,I,r,h⟩;rcases l with⟨hk,hm⟩| ⟨hk,c,hc,hcell⟩
 ·exact wpAny_Name (wpAny_loadName_local I.ok.kind hk hn hm fin) hd
 ·rcases hk with hk|hk
  ·exact wpAny_Name (wpAny_loadName_cell I.ok.kind hk hc hcell fin) hd
  ·exact wpAny_Name (wpAny_loadName_free I.ok.kind hk hc hcell fin hcd) hd
theorem pe_int{i j pos}:PE X (.Constant (.int i) j pos) (tC (.int i)):=λ_ _ _ H _ I h=>wpAny_Constant_int ⟨.int i,H,I.tok _,⟨_,rfl⟩,h⟩
theorem pe_bl{b j pos}:PE X (.Constant (.bool b) j pos) (tC (.bl b)):=λ_ _ _ H _ I h=>Constant_bool ⟨.bl b,H,I,rfl,h⟩
theorem pe_non{j pos}:PE X (.Constant .none j pos) (tC .non):=λ_ _ _ H _ I h=>Constant_none ⟨.non,H,I,rfl,h⟩
theorem pe_str{x j pos}:PE X (.Constant (.str x) j pos) (tC (.str x)):=λ_ _ _ H _ I h=>Calls.Constant_str ⟨.str x,H,I.tok _,⟨_,rfl⟩,h⟩
def Gl(X:Cx)(x:Str):Prop:=X.env.kindOf x=some .globalImplicit
theorem b1r'{E:Vs}{σ:St}{H:Hp}{x:Str}{pos:Pos}(I:Inv X pq σ H s)(hg:Gl X x)(hm:X.mg x=some u)(h:Q u s)
  (hd:(x==("__debug__":Str))=false:=by decide):wpAny (model X.prog X.w) X.A (eval (.Name x pos) X.env) Q E s:=
 Calls.Name_function_global I.ok.kind hg (Calls.loadGlobal_global (by rw[I.ok.glob];exact I.mod.glob.keeps I.bk) hm h) hd
theorem a5i'{E:Vs}{σ:St}{H:Hp}{x:Str}{pos:Pos}(I:Inv X pq σ H s)(hg:Gl X x)(hm:X.mg x=none)(hv:bootBuiltins x=some u)(h:Q u s)
  (hn:x≠"__name__":=by decide) (hd:(x==("__debug__":Str))=false:=by decide):wpAny (model X.prog X.w) X.A (eval (.Name x pos) X.env) Q E s:=by
 obtain⟨mb,h1,h2⟩:=I.mod.blt;exact Calls.Name_function_global I.ok.kind hg (Calls.loadGlobal_builtin (by rw[I.ok.glob];exact I.mod.glob.keeps I.bk) hm (by rw[I.ok.blt];exact h1.keeps I.bk) ((h2 x hn).trans hv) h) hd
theorem pe_glob{x:Str}{v:V}{pos:Pos}(hg:Gl X x)(hm:X.mg x=some u)(r:RelV v u)(hd:(x==("__debug__":Str))=false:=by decide):PE X (.Name x pos) (tC v):=
 λ_ _ _ H _ I h=>b1r' I hg hm ⟨v,H,I,r,h⟩ hd
theorem pe_bltn{x:Str}{v:V}{pos:Pos}(hg:Gl X x)(hm:X.mg x=none)(hv:bootBuiltins x=some u)(r:RelV v u)(hn:x≠"__name__":=by decide)(hd:(x==("__debug__":Str))=false:=by decide):PE X (.Name x pos) (tC v):=
 λ_ _ _ H _ I h=>a5i' I hg hm hv ⟨v,H,I,r,h⟩ hn hd
variable {a b:Expr}{ta tb:TE}{pos:Pos}
variable {tA tB':TT}
def tAnd(t u:TT):TT:=λσ H Q=>t σ H λc H1=>if c=true then u σ H1 Q else Q false H1
def tOr(t u:TT):TT:=λσ H Q=>t σ H λc H1=>if c=true then Q true H1 else u σ H1 Q
def tNot(t:TT):TT:=λσ H Q=>t σ H λc H1=>Q (!c) H1
theorem pw_and1(ha:PT X a tA):PW X (.BoolOp .And [a] pos) tA:=by
 intro wh pq s σ H Q I h;refine isTrue_and (thn (ha pq s σ H Q I h) λc s1 e=>?_);cases c with
 |true=>exact isTrue_and_nil e
 |false=>exact e
theorem pw_or1(ha:PT X a tA):PW X (.BoolOp .Or [a] pos) tA:=by
 intro wh pq s σ H Q I h;refine isTrue_or (thn (ha pq s σ H Q I h) λc s1 e=>?_);cases c with
 |false=>exact isTrue_or_nil e
 |true=>exact e
theorem pw_and(ha:PT X a tA)(hb:PW X (.BoolOp .And (b::rest) pos) tB'):PW X (.BoolOp .And (a::b::rest) pos) (tAnd tA tB'):=by
 intro wh pq s σ H Q I h;refine isTrue_and (thn (ha pq s σ H _ I h) λc s1 ⟨H1,I1,q1⟩=>?_);cases c with
 |true=>exact hb wh pq s1 σ H1 Q I1 q1
 |false=>exact⟨H1,I1,q1⟩
theorem pw_or(ha:PT X a tA)(hb:PW X (.BoolOp .Or (b::rest) pos) tB'):PW X (.BoolOp .Or (a::b::rest) pos) (tOr tA tB'):=by
 intro wh pq s σ H Q I h;refine isTrue_or (thn (ha pq s σ H _ I h) λc s1 ⟨H1,I1,q1⟩=>?_);cases c with
 |true=>exact⟨H1,I1,q1⟩
 |false=>exact hb wh pq s1 σ H1 Q I1 q1
theorem pt_not(ha:PT X a tA):PT X (.UnaryOp .Not a pos) (tNot tA):=by intro pq s σ H Q I h;exact isTrue_not (ha pq s σ H (λc H1=>Q (!c) H1) I h)
def tAndV(ta tb:TE):TE:=λσ H Q=>ta σ H λx H1=>∃c,x=.bl c∧if c=true then tb σ H1 Q else Q (.bl false) H1
def tOrV(ta tb:TE):TE:=λσ H Q=>ta σ H λx H1=>∃c,x=.bl c∧if c=true then Q (.bl true) H1 else tb σ H1 Q
theorem pe_one{op}{t:TE}(h:PE X a t):PE X (.BoolOp op [a] pos) t:=λpq s σ H Q I hw=>BoolOp_one (h pq s σ H Q I hw)
theorem pe_and(ha:PE X a ta)(hb:PE X (.BoolOp .And (b::rest) pos) tb):PE X (.BoolOp .And (a::b::rest) pos) (tAndV ta tb):=by
 intro pq s σ H Q I h;refine BoolOp_and (thn (ha pq s σ H _ I h) λv s1 ⟨x,H1,I1,r1,q1⟩=>?_);obtain⟨c,rfl,q1⟩:=q1;cases r1;refine ZX ?_;cases c with
 |true=>exact hb pq s1 σ H1 Q I1 q1
 |false=>exact⟨.bl false,H1,I1,rfl,q1⟩
theorem pe_or(ha:PE X a ta)(hb:PE X (.BoolOp .Or (b::rest) pos) tb):PE X (.BoolOp .Or (a::b::rest) pos) (tOrV ta tb):=by
 intro pq s σ H Q I h;refine BoolOp_or (thn (ha pq s σ H _ I h) λv s1 ⟨x,H1,I1,r1,q1⟩=>?_);obtain⟨c,rfl,q1⟩:=q1;cases r1;refine ZX ?_;cases c with
 |false=>exact hb pq s1 σ H1 Q I1 q1
 |true=>exact⟨.bl true,H1,I1,rfl,q1⟩
def tIf(t:TT)(ta tb:TE):TE:=λσ H Q=>t σ H λc H1=>if c=true then ta σ H1 Q else tb σ H1 Q
theorem b1Y'{c:Expr}(hc:PT X c tA)(ha:PE X a ta)(hb:PE X b tb):PE X (.IfExp c a b pos) (tIf tA ta tb):=by
 intro pq s σ H Q I h;refine wpAny_IfExp (thn (hc pq s σ H _ I h) λd s1 ⟨H1,I1,q1⟩=>?_);cases d with
 |true=>exact ha pq s1 σ H1 Q I1 q1
 |false=>exact hb pq s1 σ H1 Q I1 q1
end
def SqL(K:Fg)(H:Hp)(a:Addr)(xs:List V):Prop:=
 Rd H a (.lst xs)∨
  ∃(o:Obj) (its:Av) (n:Nat),K.lookup a=some o∧o.cls=.type "list"∧o.dict=none∧o.data=.seq its n∧its.size≤sizeLine∧Vals xs its.toList
def SqT(K:Fg)(H:Hp)(a:Addr)(xs:List V):Prop:=
 Rd H a (.tup xs)∨
  ∃(o:Obj) (its:Av) (n:Nat),K.lookup a=some o∧o.cls=.type "tuple"∧o.dict=none∧o.data=.seq its n∧its.size≤sizeLine∧Vals xs its.toList
noncomputable def absV:Value→Option V
 | .none=>some .non
 | .bool b=>some (.bl b)
 | .int i _=>some (.int i)
 | .str x _=>some (.str x)
 | .bytes b _=>some (.byt b)
 | .float b _=>some (.flt b)
 | .ref a=>some (.ref a)
 | .type n=>some (.ty n)
 |_=>none
theorem RelV.abs{x:V}(r:RelV x u):absV u=some x:=by
 cases x with
 |non=>cases r;rfl
 |bl _=>cases r;rfl
 |int _=>obtain⟨t,rfl⟩:=r;rfl
 |str _=>obtain⟨t,rfl⟩:=r;rfl
 |byt _=>obtain⟨t,rfl⟩:=r;rfl
 |flt _=>obtain⟨t,rfl⟩:=r;rfl
 |ref _=>cases r;rfl
 |ty _=>cases r;rfl
theorem RelV.inj{x y:V}(r:RelV x u)(q:RelV y u):x=y:=ZL (r.abs.symm.trans q.abs)
theorem Vals.inj:∀{xs ys:List V} {us:Lv},Vals xs us→Vals ys us→xs=ys
 |_,_,_,.nil,.nil=>rfl
 |_,_,_,.cons r t,.cons r' t'=>by rw[r.inj r',Vals.inj t t']
section
variable {X:Cx}{σ:St}{H:Hp}{xs ys:List V}
theorem SqL.of(h:H a=some (.lst xs)):SqL K H a xs:=.inl (.inl h)
theorem SqT.of(h:H a=some (.tup xs)):SqT K H a xs:=.inl (.inl h)
theorem Inv.list(I:Inv X pq σ H s)(h:SqL X.K H a xs):∃its:Lv,Vals xs its∧PlainL s.heap a its.toArray∧xs.length≤sizeLine:=by
 rcases h with h| ⟨o,its,n,hk,hc,hd,hs,hz,r⟩
 ·obtain⟨z,its,n,r,e⟩:=h.ok I.hok;exact⟨its,r,⟨_,n,e,rfl,rfl,rfl⟩,z⟩
 ·refine⟨its.toList,r,⟨o,n,I.kIn a o hk,hc,hd,by simpa using hs⟩,?_⟩;have e:=r.length;simp only[Array.length_toList]at e;omega
theorem Inv.tuple(I:Inv X pq σ H s)(h:SqT X.K H a xs):∃its:Lv,Vals xs its∧IsTup s.heap a its.toArray∧xs.length≤sizeLine:=by
 rcases h with h| ⟨o,its,n,hk,hc,_,hs,hz,r⟩
 ·obtain⟨z,its,r,p,_⟩:=h.ok I.hok;exact⟨its,r,p,z⟩
 ·refine⟨its.toList,r,⟨o,I.kIn a o hk,hc,n,by simpa using hs⟩,?_⟩;have e:=r.length;simp only[Array.length_toList]at e;omega
theorem Inv.list_inj(I:Inv X pq σ H s)(h:SqL X.K H a xs)(h':SqL X.K H a ys):xs=ys:=by
 obtain⟨its,r,⟨o,n,e,_,_,d⟩,_⟩:=I.list h;obtain⟨its',r',⟨o',n',e',_,_,d'⟩,_⟩:=I.list h';rw[e]at e';cases e';rw[d]at d';injection d' with d1 _
 have:its=its':=by simpa using congrArg Array.toList d1
 subst this;exact r.inj r'
theorem Inv.tuple_inj(I:Inv X pq σ H s)(h:SqT X.K H a xs)(h':SqT X.K H a ys):xs=ys:=by
 obtain⟨its,r,⟨o,e,_,n,d⟩,_⟩:=I.tuple h;obtain⟨its',r',⟨o',e',_,n',d'⟩,_⟩:=I.tuple h';rw[e]at e';cases e';rw[d]at d';injection d' with d1 _
 have:its=its':=by simpa using congrArg Array.toList d1
 subst this;exact r.inj r'
end
abbrev Cx.wish(X:Cx)(E:Vs):Cx:={X with xe:=E}
abbrev Cx.nox(X:Cx):Cx:=X.wish λ_ _=>False
theorem Cx.Ok.wish{X:Cx}(ok:X.Ok)(E:Vs):(X.wish E).Ok:=
 ⟨ok.mod,ok.kind,ok.glob,ok.blt,ok.above,ok.inj,ok.has,ok.cab,ok.hd,ok.frames,ok.stk,ok.exf,ok.bs,ok.bsz,ok.noex,ok.exfs,ok.funs,ok.frf⟩
theorem Cx.Ok.unwish{X:Cx}(ok:(X.wish E).Ok):X.Ok:=
 ⟨ok.mod,ok.kind,ok.glob,ok.blt,ok.above,ok.inj,ok.has,ok.cab,ok.hd,ok.frames,ok.stk,ok.exf,ok.bs,ok.bsz,ok.noex,ok.exfs,ok.funs,ok.frf⟩
section
variable {X:Cx}{σ:St}{H:Hp}
theorem Inv.wish(I:Inv X pq σ H s)(E:Vs):Inv (X.wish E) pq σ H s:=⟨I.ok.wish E,I.os,I.bare,I.base,I.loc,I.cell,I.free,I.freeC,I.pin,I.hok,I.len⟩
theorem Inv.unwish(I:Inv (X.wish E) pq σ H s):Inv X pq σ H s:=⟨I.ok.unwish,I.os,I.bare,I.base,I.loc,I.cell,I.free,I.freeC,I.pin,I.hok,I.len⟩
theorem SP.unwish{D:Ends}{f:Flow}(h:SP (X.wish E) pq D f s'):SP X pq D f s':=by
 cases f with
 |next=>obtain⟨σ',H',I,q⟩:=h;exact⟨σ',H',I.unwish,q⟩
 |brk=>obtain⟨σ',H',I,q⟩:=h;exact⟨σ',H',I.unwish,q⟩
 |cont=>obtain⟨σ',H',I,q⟩:=h;exact⟨σ',H',I.unwish,q⟩
 |ret u=>obtain⟨v,σ',H',I,r,q⟩:=h;exact⟨v,σ',H',I.unwish,r,q⟩
theorem PSs.nox{st:List Stmt}{t:TS}(h:PSs X.nox st t):PSs X st t:=λpq s σ H D I hw=>
 wpAny_mono (h pq s σ H D (I.wish _) hw) (λ_ _ q=>q.unwish) λ_ _ z=>False.elim z
end
section
variable {X:Cx}{rest:List Stmt}{t u:TS}{te:TE}{pos:Pos}
def tNext:TS:=λD σ H=>D.nx σ H
def tSeq(t u:TS):TS:=λD σ H=>t {D with nx:=u D} σ H
theorem pss_nil:PSs X [] tNext:=λ_ _ σ H _ I h=>wpAny_execs_nil ⟨σ,H,I,h⟩
theorem b1Z'(h1:PS X st t)(h2:PSs X rest u):PSs X (st::rest) (tSeq t u):=by
 intro pq s σ H D I h;refine wpAny_execs_cons (thn (h1 pq s σ H {D with nx:=u D} I h) λf s1 q=>?_);cases f with
 |next=>obtain⟨σ',H',I',q⟩:=q;exact h2 pq s1 σ' H' D I' q
 |ret v=>exact q
 |brk=>exact q
 |cont=>exact q
def tBreak:TS:=λD σ H=>D.bk σ H
def tCont:TS:=λD σ H=>D.ct σ H
theorem ps_pass:PS X (.Pass pos) tNext:=λ_ _ σ H _ I h=>wpAny_Pass ⟨σ,H,I,h⟩
theorem b2a':PS X (.Break pos) tBreak:=λ_ _ σ H _ I h=>wpAny_Break ⟨σ,H,I,h⟩
theorem a7Y':PS X (.Continue pos) tCont:=λ_ _ σ H _ I h=>wpAny_Continue ⟨σ,H,I,h⟩
theorem Inv.quiet{σ:St}{H:Hp}(I:Inv X pq σ H s):interactive X.env=false:=by simp[interactive,I.ok.kind]
def tDrop(te:TE):TS:=λD σ H=>te σ H λ_ H1=>D.nx σ H1
theorem ps_expr(he:PE X e te)(hs:swapsWith e none pos.line X.env=pure false:=by rfl):PS X (.Expr e pos) (tDrop te):=by intro pq s σ H D I h;exact wpAny_Expr_any (thn (he pq s σ H _ I h) λv s1 ⟨x,H1,I1,r1,q1⟩=>⟨σ,H1,I1,q1⟩) I.quiet hs
def tRet(te:TE):TS:=λD σ H=>te σ H D.rt
theorem ps_ret(he:PE X e te):PS X (.Return (some e) pos) (tRet te):=by intro pq s σ H D I h;exact wpAny_Return_some (thn (he pq s σ H _ I h) λv s1 ⟨x,H1,I1,r1,q1⟩=>⟨x,σ,H1,I1,r1,q1⟩)
def tRetN:TS:=λD _ H=>D.rt .non H
theorem ps_retN:PS X (.Return none pos) tRetN:=λ_ _ σ H _ I h=>wpAny_Return_none ⟨.non,σ,H,I,rfl,h⟩
def tIfS(c:TT)(t u:TS):TS:=λD σ H=>c σ H λb H1=>if b=true then t D σ H1 else u D σ H1
theorem ps_if{c:Expr}{a b:List Stmt}{tc:TT}(hc:PT X c tc)(ha:PSs X a t)(hb:PSs X b u):PS X (.If c a b pos) (tIfS tc t u):=by
 intro pq s σ H D I h;refine wpAny_If (thn (hc pq s σ H _ I h) λd s1 ⟨H1,I1,q1⟩=>?_);cases d with
 |true=>exact ha pq s1 σ H1 D I1 q1
 |false=>exact hb pq s1 σ H1 D I1 q1
end
abbrev TG:=V→St→Hp→(St→Hp→Prop)→Prop
abbrev TGs:=List V→St→Hp→(St→Hp→Prop)→Prop
def PG(X:Cx)(target:Expr)(t:TG):Prop:=
 ∀(pq:Lp) (s:Shared) (σ:St) (H:Hp) (v:V) (u:Value) (Q:St→Hp→Prop),Inv X pq σ H s→RelV v u→t v σ H Q→
  wpAny (model X.prog X.w) X.A (assign target X.env u) (λ_ s'=>∃σ' H',Inv X pq σ' H' s'∧Q σ' H') X.xe s
def PGs(X:Cx)(ts:Lx)(t:TGs):Prop:=
 ∀(pq:Lp) (s:Shared) (σ:St) (H:Hp) (vs:List V) (us:Lv) (Q:St→Hp→Prop),Inv X pq σ H s→Vals vs us→t vs σ H Q→
  wpAny (model X.prog X.w) X.A (assignInOrder ((assignEach ts X.env).map (·.2)) us) (λ_ s'=>∃σ' H',Inv X pq σ' H' s'∧Q σ' H') X.xe s
abbrev TSet:=V→V→V→Hp→(Hp→Prop)→Prop
def PSet(X:Cx)(t:TSet):Prop:=
 ∀(pq:Lp) (s:Shared) (σ:St) (H:Hp) (o i v:V) (ov iv u:Value) (Q:Hp→Prop),Inv X pq σ H s→RelV o ov→RelV i iv→RelV v u→t o i v H Q→
  wpAny (model X.prog X.w) X.A (setItem ov iv u) (λ_ s'=>∃H',Inv X pq σ H' s'∧Q H') X.xe s
section
variable {X:Cx}{pos:Pos}
def gName(i:Nat):TG:=λv σ H Q=>Q (σ.set i (some v)) H
theorem pg_name{i:Nat}{x:Str}(hN:X.N.Nodup)(hi:X.N[i]?=some x)(hx:Loc X.env.scope x)(hf:X.fn x=true∨X.env.scope.names.lookup x=some .local:=by first|exact .inl rfl|exact .inr rfl|assumption):PG X (.Name x pos) (gName i):=by intro pq s σ H v u Q I r h;exact wpAny_assign_Name (a8B' I hN hi hx r (λs' I'=>⟨_,H,I',h⟩) hf)
def gNil:TGs:=λvs σ H Q=>vs=[]∧Q σ H
noncomputable def gCons(t:TG)(u:TGs):TGs:=λvs σ H Q=>∃v r,vs=v::r∧t v σ H λσ' H'=>u r σ' H' Q
theorem pgs_nil:PGs X [] gNil:=by intro pq s σ H vs us Q I r h;obtain⟨e,h⟩:=h;subst e;cases r;exact assignInOrder_nil ⟨σ,H,I,h⟩
theorem b2b'{t:TG}{u:TGs}(h1:PG X e t)(h2:PGs X es u)
  (hs:(assignEach (e::es) X.env).map (·.2)=assign e X.env::(assignEach es X.env).map (·.2):=by rfl):PGs X (e::es) (gCons t u):=by
 intro pq s σ H vs us Q I r h;obtain⟨v,vr,e1,h⟩:=h;subst e1;cases r with
 |cons r rr=>rw[hs];refine assignInOrder_cons (thn (h1 pq s σ H _ _ _ I r h) λ_ s1 ⟨σ1,H1,I1,q1⟩=>?_);exact h2 pq s1 σ1 H1 _ _ Q I1 rr q1
def gTup(K:Fg)(n:Nat)(t:TGs):TG:=λv σ H Q=>∃a xs,v=.ref a∧SqT K H a xs∧xs.length=n∧t xs σ H Q
theorem pg_tup{k:Nat}{t:TGs}(hc:X.calm=true)(h:PGs X es t)
  (hn:(assignEach es X.env).length=n:=by rfl) (hst:(assignEach es X.env).findIdx? (·.1)=none:=by rfl):PG X (.Tuple es k pos) (gTup X.K n t):=by
 intro pq s σ H v u Q I r hw;obtain⟨a,xs,e1,hq,hl,hw⟩:=hw;subst e1;cases r;obtain⟨its,rv,ht,hz⟩:=I.tuple hq;refine assign_Tuple_tuple (I.ok.hd hc) ht (by simp[hn,←hl,rv.length]) hst λh' hx=>?_;have I1:Inv X pq σ H {s with heap:=h'}:=I.kept (t':=s.toks) λb o e=>hx b o (ZA (Zj e)) e;exact h pq _ σ H xs _ Q I1 (by simpa using rv) hw
def gSub(to ti:TE)(t:TSet):TG:=λv σ H Q=>to σ H λo H1=>ti σ H1 λi H2=>t o i v H2 λH3=>Q σ H3
theorem pg_sub{o i:Expr}{to ti:TE}{t:TSet}(ho:PE X o to)(hi:PE X i ti)(hs:PSet X t)
  (ha:∀v,assign (.Subscript o i pos) X.env v=(do
   let ov ←holding [v] (eval o X.env)
   let iv ←holding [v,ov] (eval i X.env)
   standAt pos
   holding [v,ov,iv] (setItem ov iv v)
   release [v,ov,iv] []):=by intro _;rfl):PG X (.Subscript o i pos) (gSub to ti t):=by
 intro pq s σ H v u Q I r h;rw[ha];refine Za (wpAny_holding (thn (ho pq s σ H _ I h) λov s1 ⟨x,H1,I1,r1,q1⟩=>?_));refine Za (wpAny_holding (thn (hi pq s1 σ H1 _ I1 q1) λiv s2 ⟨y,H2,I2,r2,q2⟩=>?_));refine Za (wpAny_standAt (Za (wpAny_holding (thn (hs pq s2 σ H2 x y v ov iv u _ I2 r1 r2 r q2) λ_ s3 ⟨H3,I3,q3⟩=>?_))));exact wpAny_release ⟨σ,H3,I3,q3⟩
def tAsg(te:TE)(g:TG):TS:=λD σ H=>te σ H λx H1=>g x σ H1 D.nx
theorem ps_asg{te:TE}{g:TG}(he:PE X e te)(hg:PG X tg g)(hs:swapsWithSole [tg] e pos.line X.env=pure false:=by rfl)(hw:swappedStores [tg] e X.env=pure none:=by rfl)
  (h1:(assignEach [tg] X.env).map (·.2)=[assign tg X.env]:=by rfl):PS X (.Assign [tg] e pos) (tAsg te g):=by
 intro pq s σ H D I h;refine wpAny_Assign_stores (thn (he pq s σ H _ I h) λv s1 ⟨x,H1,I1,r1,q1⟩=>?_) hs hw;rw[h1];exact thn (hg pq s1 σ H1 x v _ I1 r1 q1) λ_ s2 q=>q
theorem ps_set{i:Nat}{x:Str}{te:TE}(hN:X.N.Nodup)(hi:X.N[i]?=some x)(hx:Loc X.env.scope x)(he:PE X e te)(hs:swapsWith e (some (.Name x pos')) pos.line X.env=pure false:=by rfl)(hf:X.fn x=true∨X.env.scope.names.lookup x=some .local:=by first|exact .inl rfl|exact .inr rfl|assumption):
  PS X (.Assign [.Name x pos'] e pos) (tAsg te (gName i)):=by
 intro pq s σ H D I h;refine wpAny_Assign_Name (thn (he pq s σ H _ I h) λv s1 ⟨y,H1,I1,r1,q1⟩=>?_) hs;exact a8B' I1 hN hi hx r1 (λs2 I2=>⟨_,H1,I2,q1⟩) hf
end
section
variable {X:Cx}{pos:Pos}
def tWhile(c:TT)(tb:TS):TS:=λD σ H=>∃W:Nat→St→Hp→Prop,(∃m,W m σ H)∧∀m σ H,W m σ H→
 c σ H λb H1=>if b=true then ∃N:St→Hp→Prop,(∀σ' H',N σ' H'→∃m',m'<m∧W m' σ' H')∧tb {D with nx:=N,ct:=N,bk:=D.nx} σ H1 else D.nx σ H1
theorem b2c'{c:Expr}{body:List Stmt}{tc:TT}{tb:TS}(hp:PassesOwn (model X.prog X.w) X.A X.env X.xe)(hc:PT X c tc)(hb:PSs X body tb):PS X (.While c body [] pos) (tWhile tc tb):=by
 intro pq s σ H D I h;obtain⟨W,⟨m0,w0⟩,turn⟩:=h;refine wpAny_While (codeAny_whileLoop (λn s'=>∃σ' H',Inv X pq σ' H' s'∧W n σ' H') ?_ m0 ⟨σ,H,I,w0⟩);rintro n s1 ⟨σ1,H1,I1,w1⟩;refine wpAny_passesOwn hp (thn (hc pq s1 σ1 H1 _ I1 (turn n σ1 H1 w1)) λb s2 ⟨H2,I2,q2⟩=>?_);cases b with
 |true=>
  obtain⟨N,hN,q2⟩:=q2;rw[if_pos rfl];refine wpAny_passesOwn hp (thn (hb pq s2 σ1 H2 _ I2 q2) λf s3 q3=>?_);cases f with
  |next=>obtain⟨σ3,H3,I3,n3⟩:=q3;obtain⟨m',hm,w3⟩:=hN σ3 H3 n3;exact⟨m',hm,σ3,H3,I3,w3⟩
  |cont=>obtain⟨σ3,H3,I3,n3⟩:=q3;obtain⟨m',hm,w3⟩:=hN σ3 H3 n3;exact⟨m',hm,σ3,H3,I3,w3⟩
  |brk=>exact q3
  |ret v=>exact q3
 |false=>rw[if_neg ZS];exact wpAny_execs_nil ⟨σ1,H2,I2,q2⟩
end
structure It where
 go:Nat→Hp→Prop
 yld:Nat→Hp→V→Hp→Prop
 stop:Nat→Hp→Prop
def FpOk(X:Cx)(pq:Lp)(H:Hp)(b:Addr):Prop:=
 H b=none∧b≠X.env.locals∧b∉X.fs∧(b∈X.ex∨X.s₀.heap.objs.size≤b)∧(∀x c,X.env.cells.lookup x=some c→c≠b)∧∀p∈X.pn++pq,p.1≠b
theorem Inv.fpOk{X:Cx}{σ:St}{H H':Hp}{b:Addr}(I:Inv X pq σ H s)(hb:s.heap.objs.size≤b)(hn:H' b=none):FpOk X pq H' b:=by
 refine⟨hn,Nat.ne_of_gt (Zu I.lt hb),I.nofs hb,.inr (ZT I.sz hb),λx c e z=>?_,λp hp z=>?_⟩
 ·obtain⟨v,q⟩:=I.cell x c e;exact absurd (Zu q.lt (by rw[z];exact hb)) (ZN _)
 ·exact absurd (Zu (Zj (I.pin p hp).1) (by rw[z];exact hb)) (ZN _)
structure Turn (P:Program)(w:World)(K:Fg)(tg:Expr)(J:It)(fp:La)(it:Addr)(tn:Nat→Heap→Prop):Prop where
 mem:it∈fp
 obj:∀i h,tn i h→∀b∈fp,∃o,h.get? b=some o∧∀v,o.data≠.cell v
 keep:∀i h h',tn i h→(∀b∈fp,∀o,h.get? b=some o→h'.get? b=some o)→tn i h'
 item:∀(X:Cx),X.prog=P→X.w=w→X.K=K→X.calm=true→∀(i:Nat) (pq:Lp) (s:Shared) (σ:St) (H:Hp) (E:Vs),Inv X pq σ H s→(∀b∈fp,FpOk X pq H b)→tn i s.heap→J.go i H→
  wpAny (model P w) X.A (pyNext (.ref it)) (λr s1=>∃u,r=some u∧
   wpAny (model P w) X.A (letOwnedTupleGo tg (.ref it) u) (λ_ s2=>∃x H',Inv X pq σ H' s2∧RelV x u∧J.yld i H x H'∧tn (i+1) s2.heap∧∀b∈fp,H' b=none) E s1) E s
 done:∀(X:Cx),X.prog=P→X.w=w→X.K=K→X.calm=true→∀(i:Nat) (pq:Lp) (s:Shared) (σ:St) (H:Hp) (E:Vs),Inv X pq σ H s→(∀b∈fp,FpOk X pq H b)→tn i s.heap→J.stop i H→
  wpAny (model P w) X.A (pyNext (.ref it)) (λr s1=>r=none∧Inv X pq σ H s1) E s
 self:∀(A:Around) (i:Nat) (s:Shared) (Q:Vs) (E:Vs),tn i s.heap→Q (.ref it) s→wpAny (model P w) A (pyIter (.ref it)) Q E s
abbrev TI:=St→Hp→(It→Hp→Prop)→Prop
def PIE(X:Cx)(pq:Lp)(σ:St)(tg:Expr)(R:It→Hp→Prop)(itv:Value)(s2:Shared):Prop:=
 ∃(it:Addr) (fp:La) (tn:Nat→Heap→Prop) (J:It) (H':Hp),itv=.ref it∧Inv X pq σ H' s2∧Turn X.prog X.w X.K tg J fp it tn∧tn 0 s2.heap∧(∀b∈fp,FpOk X pq H' b)∧R J H'
def PI(X:Cx)(tg iter:Expr)(wi:TI):Prop:=
 ∀(pq:Lp) (s:Shared) (σ:St) (H:Hp) (R:It→Hp→Prop),Inv X pq σ H s→wi σ H R→
  wpAny (model X.prog X.w) X.A (eval iter X.env) (λv s1=>wpAny (model X.prog X.w) X.A (pyIter v) (PIE X pq σ tg R) X.xe s1) X.xe s
theorem go_of{o:Obj}{n:String}{vs:Av}{Q:Unit→Shared→Prop}(ho:s.heap.get? it=some o)(hc:o.cls=.type n)(hd:o.data=.fields vs)
  (hn:["enumerate","zip","dict_itemiterator","dict_reverseitemiterator","odict_iterator","itertools.zip_longest","itertools.pairwise"].contains n=false) (hQ:Q () s):wpAny M A (letOwnedTupleGo tg (.ref it) u) Q E s:=by
 unfold letOwnedTupleGo
 cases tg<;>first
  |exact Zg hQ
  | (cases u<;>first
    |exact Zg hQ
    | (refine Za (wpAny_load ho ?_)
       rw[hc,hd];show wpAny M A (if(["enumerate","zip","dict_itemiterator","dict_reverseitemiterator","odict_iterator","itertools.zip_longest","itertools.pairwise"].contains n&&vs[0]?==some (rawInt _))=true then _ else _) Q E s;rw[if_neg (by intro h;rw[hn,Bool.false_and]at h;cases h)];exact Zg hQ))
noncomputable def Itl(K:Fg)(a:Addr):It:=
 ⟨λi H=>∃xs x,SqL K H a xs∧xs[i]?=some x,λi H x H'=>H'=H∧∀xs,SqL K H a xs→xs[i]?=some x,λi H=>∃xs,SqL K H a xs∧xs.length≤i⟩
noncomputable def Itt(K:Fg)(a:Addr):It:=
 ⟨λi H=>∃xs x,SqT K H a xs∧xs[i]?=some x,λi H x H'=>H'=H∧∀xs,SqT K H a xs→xs[i]?=some x,λi H=>∃xs,SqT K H a xs∧xs.length≤i⟩
noncomputable def Itr(lo:Int)(n:Nat):It:=⟨λi _=>i<n,λi H x H'=>H'=H∧x=.int (lo+i),λi _=>n≤i⟩
theorem b0l'{P:Program}(a it:Addr):Turn P w K tg (Itl K a) [it] it (λi h=>h.IsListIter it a i) where
 mem:=by simp
 obj:=λi h st b hb=>by
  have e:b=it:=by simpa using hb
  subst e;obtain⟨o,e,c,d⟩:=st;exact⟨o,e,λv z=>by rw[d]at z;cases z⟩
 keep:=λi h h' st k=>st.at λo e=>k it (by simp) o e
 item:=by intro X hP hw hK hc i pq s σ H E I hf st hg;subst hP hw hK;obtain⟨xs,x,hq,hx⟩:=hg;obtain⟨its,rv,p,hz⟩:=I.list hq;obtain⟨u,hu,ru⟩:=rv.get hx;obtain⟨f0,f1,f2,f3,f4,f5⟩:=hf it (by simp);refine wpAny_pyNext_list_item st p.isList (x:=u) (by simpa using hu) λh' st' sb=>?_;have I1:Inv X pq σ H {s with heap:=h'}:=I.turned (t':=s.toks) (λb o hb e=>(sb.2 b hb).trans e) f0 f1 f3 f4 f5;obtain⟨o,e,c,d⟩:=id st';exact⟨u,rfl,go_of (s:={s with heap:=h'}) e c d (by decide) ⟨x,H,I1,ru,⟨rfl,λys hy=>by rw[I.list_inj hy hq];exact hx⟩,st',λb hb=>(hf b hb).1⟩⟩
 done:=by intro X hP hw hK hc i pq s σ H E I hf st hg;subst hP hw hK;obtain⟨xs,hq,hx⟩:=hg;obtain⟨its,rv,p,hz⟩:=I.list hq;obtain⟨f0,f1,f2,f3,f4,f5⟩:=hf it (by simp);have hl:=rv.length;exact wpAny_pyNext_list_end (I.ok.hd hc) st p.isList (by simp;omega) λh' eb=>⟨rfl,I.turned (t':=s.toks) (λb o hb e=>eb b o hb e) f0 f1 f3 f4 f5⟩
 self:=λ_ _ _ _ _ st h=>wpAny_pyIter_listiter st h
theorem a8C'{P:Program}(a it:Addr):Turn P w K tg (Itt K a) [it] it (λi h=>h.IsTupleIter it a i) where
 mem:=by simp
 obj:=λi h st b hb=>by
  have e:b=it:=by simpa using hb
  subst e;obtain⟨o,e,c,d⟩:=st;exact⟨o,e,λv z=>by rw[d]at z;cases z⟩
 keep:=λi h h' st k=>st.at λo e=>k it (by simp) o e
 item:=by intro X hP hw hK hc i pq s σ H E I hf st hg;subst hP hw hK;obtain⟨xs,x,hq,hx⟩:=hg;obtain⟨its,rv,p,hz⟩:=I.tuple hq;obtain⟨u,hu,ru⟩:=rv.get hx;obtain⟨f0,f1,f2,f3,f4,f5⟩:=hf it (by simp);refine wpAny_pyNext_tuple_item st (show s.heap.IsTuple a its.toArray from p) (x:=u) (by simpa using hu) λh' st' sb=>?_;have I1:Inv X pq σ H {s with heap:=h'}:=I.turned (t':=s.toks) (λb o hb e=>(sb.2 b hb).trans e) f0 f1 f3 f4 f5;obtain⟨o,e,c,d⟩:=id st';exact⟨u,rfl,go_of (s:={s with heap:=h'}) e c d (by decide) ⟨x,H,I1,ru,⟨rfl,λys hy=>by rw[I.tuple_inj hy hq];exact hx⟩,st',λb hb=>(hf b hb).1⟩⟩
 done:=by intro X hP hw hK hc i pq s σ H E I hf st hg;subst hP hw hK;obtain⟨xs,hq,hx⟩:=hg;obtain⟨its,rv,p,hz⟩:=I.tuple hq;obtain⟨f0,f1,f2,f3,f4,f5⟩:=hf it (by simp);have hl:=rv.length;exact wpAny_pyNext_tuple_end (I.ok.hd hc) st (show s.heap.IsTuple a its.toArray from p) (by simp;omega) λh' eb=>⟨rfl,I.turned (t':=s.toks) (λb o hb e=>eb b o hb e) f0 f1 f3 f4 f5⟩
 self:=λ_ _ _ _ _ st h=>wpAny_pyIter_tupleiter st h
theorem a8D'{P:Program}(it:Addr)(lo:Int)(n:Nat):Turn P w K tg (Itr lo n) [it] it (λi h=>IsRangeIter h it (lo+(i:Nat)*1) ((n:Int)-(i:Nat)) 1) where
 mem:=by simp
 obj:=λi h st b hb=>by
  have e:b=it:=by simpa using hb
  subst e;exact⟨_,st,λv z=>by have z':Data.fields _=Data.cell v:=z;cases z'⟩
 keep:=λi h h' st k=>k it (by simp) _ st
 item:=by intro X hP hw hK hc i pq s σ H E I hf st hg;subst hP hw hK;obtain⟨f0,f1,f2,f3,f4,f5⟩:=hf it (by simp);have W:=Walks.range (prog:=X.prog) (w:=X.w) (I.ok.hd hc) it lo 1 n;refine W.item i s _ _ hg st λv h' tk hv st' kk=>?_;obtain⟨t,rfl⟩:=hv;have I1:Inv X pq σ H {s with heap:=h',toks:=tk}:=I.turned (λb o hb e=>kk b o (by simpa using hb) e) f0 f1 f3 f4 f5;refine⟨_,rfl,go_of (s:={s with heap:=h',toks:=tk}) (n:="range_iterator") st' rfl rfl (by decide) ⟨.int (lo+i),H,I1,⟨t,?_⟩,⟨rfl,rfl⟩,st',λb hb=>(hf b hb).1⟩⟩;rw[Int.mul_one]
 done:=by intro X hP hw hK hc i pq s σ H E I hf st hg;subst hP hw hK;obtain⟨f0,f1,f2,f3,f4,f5⟩:=hf it (by simp);exact wpAny_pyNext_range_end (I.ok.hd hc) st (by have:n≤i:=hg;omega) λh' eb=>⟨rfl,I.turned (t':=s.toks) (λb o hb e=>eb b o hb e) f0 f1 f3 f4 f5⟩
 self:=λ_ _ _ _ _ st h=>wpAny_pyIter_rangeiter st h
section
variable {X:Cx}
theorem a8E'{σ:St}{H:Hp}{R:It→Hp→Prop}{hi:Int}{t u v:Tok}{tk:Nat}(I:Inv X pq σ H s)(h1: -(2^62)≤lo)(h2:lo<2^62)(h3: -(2^62)≤hi)(h4:hi<2^62)
  (q:R (Itr lo (hi-lo).toNat) H):wpAny (model X.prog X.w) X.A (pyIter (.ref s.heap.objs.size)) (PIE X pq σ tg R) E {s with heap:=s.heap.push {cls:=.type "range",data:=.fields #[.int lo t,.int hi u,.int 1 v]},toks:=tk}:=by
 refine wpAny_pyIter_range (IsRange.new ..) (small_one h1 h2 h3 h4) ?_;have I1:Inv X pq σ H {s with heap:=s.heap.push {cls:=.type "range",data:=.fields #[.int lo t,.int hi u,.int 1 v]},toks:=tk}:=I.kept λb o e=>Zc _ e
 refine⟨(s.heap.push {cls:=.type "range",data:=.fields #[.int lo t,.int hi u,.int 1 v]}).objs.size,[(s.heap.push {cls:=.type "range",data:=.fields #[.int lo t,.int hi u,.int 1 v]}).objs.size],_,_,H,rfl,
  I1.kept (t':=tk) λb o e=>Zc _ e,a8D' _ lo (hi-lo).toNat,?_,λb hb=>?_,q⟩
 ·have e1:lo+((0:Nat):Int)*1=lo:=by simp
  have e2:(((hi-lo).toNat:Nat):Int)-((0:Nat):Int)=Builtin.Range.rangeSize lo hi 1:=by rw[rangeSize_one];split<;>omega
  show IsRangeIter _ _ (lo+((0:Nat):Int)*1) ((((hi-lo).toNat:Nat):Int)-((0:Nat):Int)) 1;rw[e1,e2];exact Zk _ rfl
 ·have e:b=(s.heap.push {cls:=.type "range",data:=.fields #[.int lo t,.int hi u,.int 1 v]}).objs.size:=by simpa using hb
  subst e;exact I1.fpOk (Zi _) (I1.hok.fresh (Zi _))
def iRng1(ta:TA):TI:=λσ H R=>ta σ H λvs H1=>∃j:Int,vs=[.int j]∧-(2^62)≤j∧j<2^62∧R (Itr 0 j.toNat) H1
def iRng2(ta:TA):TI:=λσ H R=>ta σ H λvs H1=>∃i j:Int,vs=[.int i,.int j]∧(-(2^62)≤i∧i<2^62∧-(2^62)≤j∧j<2^62)∧R (Itr i (j-i).toNat) H1
theorem b0m'{a:Expr}{ta:TA}{p pos:Pos}(hg:Gl X "range")(hm:X.mg "range"=none)(ha:PA X [a] ta)(hs:starEach [a] X.env=[(false,eval a X.env)]:=by rfl):PI X tg (.Call (.Name "range" p) [a] [] pos) (iRng1 ta):=by
 intro pq s σ H R I h;refine Call_ (a5i' I hg hm boot_range (PyProof.Rows.callWith_type1 (thn (ha pos pq s σ H _ I h) λus s1 ⟨vs,H1,I1,r1,q1⟩=>?_) hs rfl));obtain⟨j,e,q1,q2,q⟩:=q1;subst e;cases r1 with
 |cons r rr=>cases rr;obtain⟨t,rfl⟩:=r;exact call_range_1 (a8E' I1 (by omega) (by omega) q1 q2 (by simpa using q))
theorem b0n'{a b:Expr}{ta:TA}{p pos:Pos}(hg:Gl X "range")(hm:X.mg "range"=none)(ha:PA X [a,b] ta)(hs:starEach [a,b] X.env=[(false,eval a X.env),(false,eval b X.env)]:=by rfl)(hs2:starEach [b] X.env=[(false,eval b X.env)]:=by rfl):
  PI X tg (.Call (.Name "range" p) [a,b] [] pos) (iRng2 ta):=by
 intro pq s σ H R I h;refine Call_ (a5i' I hg hm boot_range (PyProof.Rows.callWith_type1 (thn (ha pos pq s σ H _ I h) λus s1 ⟨vs,H1,I1,r1,q1⟩=>?_) (by rw[hs,hs2]) (by rw[hs2];rfl)));obtain⟨i,j,e,⟨q1,q2,q3,q4⟩,q⟩:=q1;subst e;cases r1 with
 |cons r rr=>
  cases rr with
  |cons r' rr=>cases rr;obtain⟨t,rfl⟩:=r;obtain⟨t',rfl⟩:=r';exact call_range_2 (a8E' I1 q1 q2 q3 q4 q)
def tFor(wi:TI)(g:TG)(tb:TS):TS:=λD σ H=>wi σ H λJ H1=>∃W:Nat→Nat→St→Hp→Prop,(∃m,W 0 m σ H1)∧∀i m σ H,W i m σ H→
 (J.stop i H∧D.nx σ H)∨(J.go i H∧∃N:St→Hp→Prop,(∀σ' H',N σ' H'→∃m',m'<m∧W (i+1) m' σ' H')∧∀x H',J.yld i H x H'→g x σ H' λσ2 H2=>tb {D with nx:=N,ct:=N,bk:=D.nx} σ2 H2)
noncomputable def b0o'(fp:La)(h:Heap):Lp:=fp.filterMap λb=>(h.get? b).map λo=>(b,o)
theorem a2U'{b:Addr}{o:Obj}(hb:b∈fp)(e:h.get? b=some o):(b,o)∈b0o' fp h:=List.mem_filterMap.mpr ⟨b,hb,by rw[e];rfl⟩
theorem b0p'{p:Addr×Obj}(hp:p∈b0o' fp h):p.1∈fp∧h.get? p.1=some p.2:=by
 obtain⟨b,hb,e⟩:=List.mem_filterMap.mp hp;cases q:h.get? b with
 |none=>rw[q]at e;cases e
 |some o=>rw[q]at e;have e':(b,o)=p:=ZL e;subst e';exact⟨hb,q⟩
theorem Inv.pinned{σ:St}{H:Hp}(I:Inv X pq σ H s)(hf:∀b∈fp,FpOk X pq H b)(ho:∀b∈fp,∃o,s.heap.get? b=some o∧∀v,o.data≠.cell v):Inv X (pq++b0o' fp s.heap) σ H s:=
 I.pins_of λp hp=>(ZF.mp hp).elim (λz=>I.pin p (Zq _ z)) λz=>by obtain⟨hb,e⟩:=b0p' z;obtain⟨f0,f1,f2,_⟩:=hf p.1 hb;obtain⟨o,e',d⟩:=ho p.1 hb;rw[e]at e';cases e';exact⟨e,f0,f1,f2,d⟩
theorem Inv.unpinned{pl:Lp}{σ:St}{H:Hp}(I:Inv X (pq++pl) σ H s):Inv X pq σ H s:=I.pins_of λp hp=>I.pin p (Zq _ (ZJ _ hp))
theorem ps_for{body:List Stmt}{wi:TI}{g:TG}{tb:TS}{pos:Pos}(hp:PassesOwn (model X.prog X.w) X.A X.env X.xe)(hc:X.calm=true)(hi:PI X tg iter wi)(hg:PG X tg g)(hb:PSs X body tb)
  (hs:∀x,foldedSetIterable iter X.env x=pure x:=by intro _;rfl):PS X (.For tg iter body [] pos) (tFor wi g tb):=by
 intro pq s σ H D I h;refine wpAny_For (thn (hi pq s σ H _ I h) λv s1 h1=>thn h1 λitv s2 h2=>?_) hs;obtain⟨it,fp,tn,J,H2,e,I2,T,st2,f2,W,⟨m0,w0⟩,turn⟩:=h2;subst e;have stat:∀{H':Hp},(∀b∈fp,H' b=none)→∀b∈fp,FpOk X pq H' b:=λhn b hb=>⟨hn b hb,(f2 b hb).2⟩;refine codeAny_forLoop_any (λn s'=>∃i σ' H',Inv X pq σ' H' s'∧tn i s'.heap∧(∀b∈fp,H' b=none)∧W i n σ' H') ?_ m0 ⟨0,σ,H2,I2,st2,λb hb=>(f2 b hb).1,w0⟩;rintro n s3 ⟨i,σ3,H3,I3,st3,fr3,w3⟩;rcases turn i n σ3 H3 w3 with⟨stop,qn⟩| ⟨go,N,hN,step⟩
 ·refine wpAny_passesOwn hp (thn (T.done X rfl rfl rfl hc i pq s3 σ3 H3 X.xe I3 (stat fr3) st3 stop) λr s4 ⟨hr,I4⟩=>?_);subst hr;exact wpAny_execs_nil ⟨σ3,H3,I4,qn⟩
 ·refine wpAny_passesOwn hp (thn (T.item X rfl rfl rfl hc i pq s3 σ3 H3 X.xe I3 (stat fr3) st3 go) λr s4 ⟨u,hr,h4⟩=>?_);subst hr;refine wpAny_passesOwn hp (thn h4 λ_ s5 ⟨x,H5,I5,r5,y5,st5,fr5⟩=>?_);have I5':=I5.pinned (stat fr5) (T.obj _ _ st5);refine wpAny_passesOwn hp (thn (hg _ s5 σ3 H5 x u _ I5' r5 (step x H5 y5)) λ_ s6 ⟨σ6,H6,I6,q6⟩=>?_);refine wpAny_passesOwn hp (thn (hb _ s6 σ6 H6 _ I6 q6) λf s7 q7=>?_)
  have again:∀{σ7:St} {H7:Hp},Inv X (pq++b0o' fp s5.heap) σ7 H7 s7→N σ7 H7→∃m,m<n∧∃i σ' H',Inv X pq σ' H' s7∧tn i s7.heap∧(∀b∈fp,H' b=none)∧W i m σ' H':=λ{σ7 H7} I7 n7=>by obtain⟨m',hm,w7⟩:=hN σ7 H7 n7;refine⟨m',hm,i+1,σ7,H7,I7.unpinned,T.keep _ _ _ st5 λb hb o e=>(I7.pin (b,o) (Zq _ (Zq _ (a2U' hb e)))).1,λb hb=>?_,w7⟩;obtain⟨o,e,d⟩:=T.obj _ _ st5 b hb;exact(I7.pin (b,o) (Zq _ (Zq _ (a2U' hb e)))).2.1
  cases f with
  |next=>obtain⟨σ7,H7,I7,n7⟩:=q7;exact again I7 n7
  |cont=>obtain⟨σ7,H7,I7,n7⟩:=q7;exact again I7 n7
  |brk=>obtain⟨σ7,H7,I7,q7⟩:=q7;exact⟨σ7,H7,I7.unpinned,q7⟩
  |ret v=>obtain⟨x7,σ7,H7,I7,r7,q7⟩:=q7;exact⟨x7,σ7,H7,I7.unpinned,r7,q7⟩
end
abbrev R2:=V→V→Hp→VK→Prop
def OpR(X:Cx)(f:Value→Value→Sem Value)(r:R2):Prop:=
 ∀(pq:Lp) (s:Shared) (σ:St) (H:Hp) (x y:V) (v u:Value) (Q:VK),Inv X pq σ H s→RelV x v→RelV y u→r x y H Q→
  wpAny (model X.prog X.w) X.A (f v u) (EP X pq σ Q) X.xe s
def UnR(X:Cx)(f:Value→Sem Value)(r:V→Hp→VK→Prop):Prop:=
 ∀(pq:Lp) (s:Shared) (σ:St) (H:Hp) (x:V) (v:Value) (Q:VK),Inv X pq σ H s→RelV x v→r x H Q→
  wpAny (model X.prog X.w) X.A (f v) (EP X pq σ Q) X.xe s
def CallR(X:Cx)(f:Value)(r:List V→Hp→VK→Prop):Prop:=
 ∀(pq:Lp) (s:Shared) (σ:St) (H:Hp) (xs:List V) (us:Lv) (Q:VK),Inv X pq σ H s→Vals xs us→r xs H Q→
  wpAny (model X.prog X.w) X.A (call f us) (EP X pq σ Q) X.xe s
def TruR(X:Cx)(r:V→Hp→(Bool→Hp→Prop)→Prop):Prop:=
 ∀(pq:Lp) (s:Shared) (σ:St) (H:Hp) (x:V) (v:Value) (Q:Bool→Hp→Prop),Inv X pq σ H s→RelV x v→r x H Q→
  wpAny (model X.prog X.w) X.A (truthy v) (TP X pq σ Q) X.xe s
def tOp(r:R2)(ta tb:TE):TE:=λσ H Q=>ta σ H λx H1=>tb σ H1 λy H2=>r x y H2 Q
def tUn(r:V→Hp→VK→Prop)(ta:TE):TE:=λσ H Q=>ta σ H λx H1=>r x H1 Q
def rI(C:Int→Int→Prop)(g:Int→Int→V):R2:=λx y H Q=>∃i j,x=.int i∧y=.int j∧C i j∧Q (g i j) H
def rI0(g:Int→Int→V):R2:=λx y H Q=>∃i j,x=.int i∧y=.int j∧Q (g i j) H
def rU(g:Int→V):V→Hp→VK→Prop:=λx H Q=>∃i,x=.int i∧Q (g i) H
section
variable {X:Cx}{a b c:Expr}{ta tb tc:TE}{pos:Pos}
theorem binT(ha:PE X a ta)(hb:PE X b tb){σ:St}{H:Hp}{R:V→V→Hp→Prop}(I:Inv X pq σ H s)
  (h:ta σ H λx H1=>tb σ H1 λy H2=>R x y H2)  {f:Value→Value→Sem Value}
  (hf:∀v u s2 x y H2,Inv X pq σ H2 s2→RelV x v→RelV y u→R x y H2→wpAny (model X.prog X.w) X.A (f v u) Q X.xe s2):
  wpAny (model X.prog X.w) X.A (eval a X.env) (λv s₁=>wpAny (model X.prog X.w) X.A (eval b X.env) (λu s₂=>wpAny (model X.prog X.w) X.A (f v u) Q X.xe s₂) X.xe s₁) X.xe s:=by
 refine thn (ha pq s σ H _ I h) λv s1 ⟨x,H1,I1,r1,q1⟩=>?_;refine thn (hb pq s1 σ H1 _ I1 q1) λu s2 ⟨y,H2,I2,r2,q2⟩=>?_;exact hf v u s2 x y H2 I2 r1 r2 q2
theorem pe_op{op:Operator}{r:R2}(ho:OpR X (binaryOp op) r)(ha:PE X a ta)(hb:PE X b tb):PE X (.BinOp a op b pos) (tOp r ta tb):=by intro pq s σ H Q I h;exact wpAny_BinOp (binT ha hb I h λv u s2 x y H2 I2 rx ry q=>ho pq s2 σ H2 x y v u Q I2 rx ry q)
theorem pe_un{op:UnaryOp}{r:V→Hp→VK→Prop}(ho:UnR X (unaryOp op) r)(ha:PE X a ta):PE X (.UnaryOp op a pos) (tUn r ta):=by intro pq s σ H Q I h;exact UnaryOp_ (thn (ha pq s σ H _ I h) λv s1 ⟨x,H1,I1,r1,q1⟩=>ho pq s1 σ H1 x v Q I1 r1 q1)
theorem opI{f:Value→Value→Sem Value}{C:Int→Int→Prop}{g:Int→Int→Int}
  (rule:∀(i j:Int) (t u:Tok) (s:Shared) (Q:Vs) (E:Vs),C i j→Q (.int (g i j) s.toks) {s with toks:=s.toks+1}→wpAny (model X.prog X.w) X.A (f (.int i t) (.int j u)) Q E s):
  OpR X f (rI C λi j=>.int (g i j)):=by
 intro pq s σ H x y v u Q I rx ry h;obtain⟨i,j,rfl,rfl,hc,q⟩:=h;obtain⟨t,rfl⟩:=rx;obtain⟨t',rfl⟩:=ry;exact rule i j t t' s _ _ hc ⟨.int (g i j),H,I.tok _,⟨_,rfl⟩,q⟩
theorem opI0{f:Value→Value→Sem Value}{g:Int→Int→Int}
  (rule:∀(i j:Int) (t u:Tok) (s:Shared) (Q:Vs) (E:Vs),Q (.int (g i j) s.toks) {s with toks:=s.toks+1}→wpAny (model X.prog X.w) X.A (f (.int i t) (.int j u)) Q E s):
  OpR X f (rI0 λi j=>.int (g i j)):=by
 intro pq s σ H x y v u Q I rx ry h;obtain⟨i,j,rfl,rfl,q⟩:=h;obtain⟨t,rfl⟩:=rx;obtain⟨t',rfl⟩:=ry;exact rule i j t t' s _ _ ⟨.int (g i j),H,I.tok _,⟨_,rfl⟩,q⟩
theorem opB0{f:Value→Value→Sem Value}{g:Int→Int→Bool}
  (rule:∀(i j:Int) (t u:Tok) (s:Shared) (Q:Vs) (E:Vs),Q (.bool (g i j)) s→wpAny (model X.prog X.w) X.A (f (.int i t) (.int j u)) Q E s):
  OpR X f (rI0 λi j=>.bl (g i j)):=by
 intro pq s σ H x y v u Q I rx ry h;obtain⟨i,j,rfl,rfl,q⟩:=h;obtain⟨t,rfl⟩:=rx;obtain⟨t',rfl⟩:=ry;exact rule i j t t' s _ _ ⟨.bl (g i j),H,I,rfl,q⟩
def CDiv(i j:Int):Prop:=0<j∧j<1073741824
def CPow(i j:Int):Prop:=0≤j∧j≤1000000∧i.natAbs<2^64
noncomputable def CMul(i j:Int):Prop:=(-(2^64)<i∧i<2^64)∨(-(2^64)<j∧j<2^64)
theorem CMul.ok{i j:Int}(h:CMul i j):IntMulOk i j:=by
 rcases h with⟨h1,h2⟩| ⟨h1,h2⟩
 ·exact .of_left (intBits_le_64 h1 h2)
 ·exact .of_right (intBits_le_64 h1 h2)
theorem a8F'(k:Nat):(0:Int)≤2^k:=by rw[two_pow_cast];exact Int.natCast_nonneg _
theorem op_add:OpR X (binaryOp .Add) (rI0 λi j=>.int (i+j)):=opI0 λ_ _ _ _ _ _ _ q=>add_int q
theorem op_sub:OpR X (binaryOp .Sub) (rI0 λi j=>.int (i-j)):=opI0 λ_ _ _ _ _ _ _ q=>sub_int q
theorem op_mul:OpR X (binaryOp .Mult) (rI CMul λi j=>.int (i*j)):=opI λ_ _ _ _ _ _ _ hc q=>mul_int q hc.ok
theorem op_fdiv:OpR X (binaryOp .FloorDiv) (rI CDiv λi j=>.int (i/j)):=opI λi j _ _ _ _ _ hc q=>by have h1:(0:Int)<j:=hc.1;have h2:j<1073741824:=hc.2;exact floordiv_int (by omega) (by rw[Int.fdiv_eq_ediv_of_nonneg i (by omega)];exact q) (.inl (PyProof.noPylong_small (by omega)))
theorem op_mod:OpR X (binaryOp .Mod) (rI (λ_ j=>0<j) λi j=>.int (i%j)):=opI λi j _ _ _ _ _ hc q=>by have h1:(0:Int)<j:=hc;exact mod_int' (by omega) (by rw[Int.fmod_eq_emod_of_nonneg i (by omega)];exact q)
theorem op_pow:OpR X (binaryOp .Pow) (rI CPow λi j=>.int (i^j.toNat)):=opI λ_ _ _ _ _ _ _ hc q=>pow_int_small hc.1 hc.2.1 hc.2.2 q
theorem op_shr:OpR X (binaryOp .RShift) (rI (λ_ j=>0≤j) λi j=>.int (i/2^j.toNat)):=opI λi j _ _ _ _ _ hc q=>
 rshift_int hc (by rw[Int.fdiv_eq_ediv_of_nonneg i (a8F' _)];exact q)
theorem op_and:OpR X (binaryOp .BitAnd) (rI0 λi j=>.int (Builtin.bitAnd i j)):=opI0 λ_ _ _ _ _ _ _ q=>and_int q
theorem op_or:OpR X (binaryOp .BitOr) (rI0 λi j=>.int (Builtin.bitOr i j)):=opI0 λ_ _ _ _ _ _ _ q=>or_int q
theorem unI{f:Value→Sem Value}{g:Int→Int}
  (rule:∀(i:Int) (t:Tok) (s:Shared) (Q:Vs) (E:Vs),Q (.int (g i) s.toks) {s with toks:=s.toks+1}→wpAny (model X.prog X.w) X.A (f (.int i t)) Q E s):
  UnR X f (rU λi=>.int (g i)):=by
 intro pq s σ H x v Q I rx h;obtain⟨i,rfl,q⟩:=h;obtain⟨t,rfl⟩:=rx;exact rule i t s _ _ ⟨.int (g i),H,I.tok _,⟨_,rfl⟩,q⟩
theorem un_neg:UnR X (unaryOp .USub) (rU λi=>.int (-i)):=unI λ_ _ _ _ _ q=>neg_int q
end
section
variable {X:Cx}{a b c:Expr}{ta tb tc:TE}{pos:Pos}
theorem fin_bl{σ:St}{H:Hp}{Q:VK}{k k':Bool}(I:Inv X pq σ H s)(q:Q (.bl k) H)(e:k=k'):EP X pq σ Q (.bool k') s:=by subst e;exact⟨.bl k,H,I,rfl,q⟩
theorem op_le:OpR X (compareOp .LtE) (rI0 λi j=>.bl (decide (i≤j))):=opB0 λ_ _ _ _ _ _ _ q=>le_int q
theorem op_gt:OpR X (compareOp .Gt) (rI0 λi j=>.bl (decide (j<i))):=opB0 λ_ _ _ _ _ _ _ q=>gt_int q
theorem op_ge:OpR X (compareOp .GtE) (rI0 λi j=>.bl (decide (j≤i))):=opB0 λ_ _ _ _ _ _ _ q=>ge_int q
theorem op_isN:OpR X (compareOp .Is) (λx y H Q=>y=.non∧Q (.bl (decide (x=.non))) H):=by
 intro pq s σ H x y v u Q I rx ry h;obtain⟨rfl,q⟩:=h;cases ry;refine is_none_gen (fin_bl I q ?_)
 cases x<;>first
  | (cases rx;rfl)
  | (obtain⟨t,rfl⟩:=rx;rfl)
theorem op_notN:OpR X (compareOp .IsNot) (λx y H Q=>y=.non∧Q (.bl (!decide (x=.non))) H):=by
 intro pq s σ H x y v u Q I rx ry h;obtain⟨rfl,q⟩:=h;cases ry;refine isnot_none_gen (fin_bl I q ?_)
 cases x<;>first
  | (cases rx;rfl)
  | (obtain⟨t,rfl⟩:=rx;rfl)
theorem pe_cmpR{op:CmpOp}{r:R2}(ho:OpR X (compareOp op) r)(ha:PE X a ta)(hb:PE X b tb)(hm:behindInMarks op b=false):PE X (.Compare a [op] [b] pos) (tOp r ta tb):=by intro pq s σ H Q I h;exact wpAny_Compare1 (binT ha hb I h λv u s2 x y H2 I2 rx ry q=>ho pq s2 σ H2 x y v u Q I2 rx ry q) hm
def tTest(t:TE):TT:=λσ H Q=>t σ H λx H'=>∃k,x=.bl k∧Q k H'
theorem pt_cmpR{op:CmpOp}{r:R2}(ho:OpR X (compareOp op) r)(ha:PE X a ta)(hb:PE X b tb)(hm:behindInMarks op b=false):PT X (.Compare a [op] [b] pos) (tTest (tOp r ta tb)):=by
 intro pq s σ H Q I h
 refine wpAny_isTrue_Compare1 (thn (ha pq s σ H _ I h) λv s1 ⟨x,H1,I1,r1,q1⟩=>thn (hb pq s1 σ H1 _ I1 q1) λu s2 ⟨y,H2,I2,r2,q2⟩=>
  thn (ho pq s2 σ H2 x y v u _ I2 r1 r2 q2) λc s3 ⟨z,H3,I3,r3,k,e,q3⟩=>?_) hm
 subst e;cases r3;exact ZX ⟨H3,I3,q3⟩
def tChain(r r':R2)(ta tb tc:TE):TE:=λσ H Q=>ta σ H λx H1=>tb σ H1 λy H2=>r x y H2 λz H3=>∃k,z=.bl k∧
 (if k=true then tc σ H3 λw' H4=>r' y w' H4 Q else Q (.bl false) H3)
theorem b2d'{op:CmpOp}{r r':R2}(ho:OpR X (compareOp op) r)(ho':OpR X (compareOp op') r')(ha:PE X a ta)(hb:PE X b tb)(hc:PE X c tc)
  (hm:lastMarks [op,op'] [b,c]=false:=by with_unfolding_all rfl):PE X (.Compare a [op,op'] [b,c] pos) (tChain r r' ta tb tc):=by
 intro pq s σ H Q I h
 refine Compare_chain (thn (ha pq s σ H _ I h) λv s1 ⟨x,H1,I1,r1,q1⟩=>chain_link (thn (hb pq s1 σ H1 _ I1 q1) λu s2 ⟨y,H2,I2,r2,q2⟩=>
  thn (ho pq s2 σ H2 x y v u _ I2 r1 r2 q2) λd s3 ⟨z,H3,I3,r3,k,e,q3⟩=>?_)) hm
 subst e;cases r3;refine ZX ?_;cases k with
 |false=>exact ite_ff ⟨.bl false,H3,I3,rfl,q3⟩
 |true=>exact ite_tt (chain_last (thn (hc pq s3 σ H3 _ I3 q3) λw' s4 ⟨z',H4,I4,r4,q4⟩=>ho' pq s4 σ H4 y z' u w' Q I4 r2 r4 q4))
theorem b2e'{op:CmpOp}{r r':R2}(ho:OpR X (compareOp op) r)(ho':OpR X (compareOp op') r')(ha:PE X a ta)(hb:PE X b tb)(hc:PE X c tc)
  (hm:lastMarks [op,op'] [b,c]=false:=by with_unfolding_all rfl):PT X (.Compare a [op,op'] [b,c] pos) (tTest (tChain r r' ta tb tc)):=by
 intro pq s σ H Q I h
 refine isTrue_chain (thn (ha pq s σ H _ I h) λv s1 ⟨x,H1,I1,r1,q1⟩=>test_link (thn (hb pq s1 σ H1 _ I1 q1) λu s2 ⟨y,H2,I2,r2,q2⟩=>
  thn (ho pq s2 σ H2 x y v u _ I2 r1 r2 q2) λd s3 ⟨z,H3,I3,r3,k,e,q3⟩=>?_)) hm
 subst e;cases r3;refine ZX ?_;cases k with
 |false=>obtain⟨k',e',q'⟩:=q3;cases e';exact ite_ff ⟨H3,I3,q'⟩
 |true=>refine ite_tt (test_last (thn (hc pq s3 σ H3 _ I3 q3) λw' s4 ⟨z',H4,I4,r4,q4⟩=>thn (ho' pq s4 σ H4 y z' u w' _ I4 r2 r4 q4) λd' s5 ⟨z2,H5,I5,r5,k2,e2,q5⟩=>?_));subst e2;cases r5;exact ZX ⟨H5,I5,q5⟩
def TruV(K:Fg)(x:V)(H:Hp)(k:Bool):Prop:=
 match x with
 | .non=>k=false
 | .bl b=>k=b
 | .int i=>k=(i !=0)
 | .str y=>y.length≤sizeLine∧k=((y.length:Int) !=0)
 | .byt y=>y.size≤sizeLine∧k=((y.size:Int) !=0)
 | .ref p=>(∃xs,SqL K H p xs∧k= !xs.isEmpty)∨(∃xs,SqT K H p xs∧k= !xs.isEmpty)∨∃kvs,H p=some (.dK kvs)∧k= !kvs.isEmpty
 |_=>False
theorem a8G'{κ:Type}{kvs:List (κ×V)}{vs:List (κ×Value)}(r:KV kvs vs):(!vs.isEmpty)= !kvs.isEmpty:=by cases r<;>rfl
theorem a5M'{xs:List V}(r:Vals xs its):(!its.toArray.isEmpty)= !xs.isEmpty:=by cases r<;>simp
theorem a7Z':(sizeLine:Nat)<2^63:=by rw[sizeLine_eq];decide
theorem tru_ok:TruR X (λx H Q=>∃k,TruV X.K x H k∧Q k H):=by
 intro pq s σ H x v Q I rx h;obtain⟨k,e,q⟩:=h;have hl:=a7Z';have hs:sizeLine=16777216:=sizeLine_eq;cases x with
 |non=>cases rx;have e':k=false:=e;subst e';exact truthy_none ⟨H,I,q⟩
 |bl b=>cases rx;have e':k=b:=e;subst e';exact ZX ⟨H,I,q⟩
 |int i=>obtain⟨t,rfl⟩:=rx;have e':k=(i !=0):=e;subst e';exact PySem.P.truthy_int ⟨H,I,q⟩
 |str y=>obtain⟨t,rfl⟩:=rx;obtain⟨hy,e'⟩:y.length≤sizeLine∧k=((y.length:Int) !=0):=e;subst e';exact PySem.P.truthy_str (by omega) ⟨H,I.tok _,q⟩
 |byt y=>obtain⟨t,rfl⟩:=rx;obtain⟨hy,e'⟩:y.size≤sizeLine∧k=((y.size:Int) !=0):=e;subst e';exact PySem.W.truthy_bytes (by omega) ⟨H,I.tok _,q⟩
 |ref p=>
  cases rx;have e':(∃xs,SqL X.K H p xs∧k= !xs.isEmpty)∨(∃xs,SqT X.K H p xs∧k= !xs.isEmpty)∨∃kvs,H p=some (.dK kvs)∧k= !kvs.isEmpty:=e;rcases e' with⟨xs,hx,e'⟩| ⟨xs,hx,e'⟩| ⟨kvs,hx,e'⟩
  ·subst e';obtain⟨its,r,pl,hz⟩:=I.list hx;have hlen:=r.length;exact wpAny_truthy_list pl.isList (by simp only[Ze];omega) ⟨H,I.tok _,by rw[a5M' r];exact q⟩
  ·subst e';obtain⟨its,r,pl,hz⟩:=I.tuple hx;have hlen:=r.length;exact truthy_tuple pl (by simp only[Ze];omega) ⟨H,I.tok _,by rw[a5M' r];exact q⟩
  ·subst e';obtain⟨hz,hS,vs,r,m⟩:kvs.length≤sizeLine∧(p==sysModules)=false∧∃vs,KV kvs vs∧s.heap.DictOf (a8z' X.prog X.w) p vs:=I.hok p _ hx;have hlen:kvs.length=vs.length:=Paired.length r;exact wpAny_truthy_dict hS m (by omega) ⟨H,I.tok _,by rw[a8G' r];exact q⟩
 |_=>exact(show False from e).elim
theorem b2f'(ha:PE X a ta)(he:∀whole,isTrue a X.env whole=(do let v ←whole;standAt a.pos;holding [v] (truthy v))):
  PT X a (λσ H Q=>ta σ H λx H'=>∃k,TruV X.K x H' k∧Q k H'):=by
 intro pq s σ H Q I h;exact isTrue_plain (thn (ha pq s σ H _ I h) λv s1 ⟨x,H1,I1,r1,q1⟩=>tru_ok pq s1 σ H1 x v Q I1 r1 q1) (he _)
theorem a8H':OpR X (binaryOp .Add) (λx y H Q=>∃i j,x=.str i∧y=.str j∧i.length+j.length≤sizeLine∧Q (.str (i++j)) H):=by intro pq s σ H x y v u Q I rx ry h;obtain⟨i,j,rfl,rfl,hz,q⟩:=h;obtain⟨t,rfl⟩:=rx;obtain⟨t',rfl⟩:=ry;exact add_str (λt' tk=>⟨.str (i++j),H,I.tok _,⟨_,rfl⟩,q⟩) hz
theorem vals1{x:V}(r:Vals [x] us):∃u,us=[u]∧RelV x u:=by
 cases r with
 |cons r1 r2=>cases r2;exact⟨_,rfl,r1⟩
theorem vals2{x y:V}(r:Vals [x,y] us):∃u w',us=[u,w']∧RelV x u∧RelV y w':=by
 cases r with
 |cons r1 r2=>
  cases r2 with
  |cons r3 r4=>cases r4;exact⟨_,_,rfl,r1,r3⟩
theorem b0q'(hc:X.calm=true):CallR X (.builtin "max") (λxs H Q=>∃i j,xs=[.int i,.int j]∧Q (.int (if j>i then j else i)) H):=by
 intro pq s σ H xs us Q I r h;obtain⟨i,j,rfl,q⟩:=h;obtain⟨u,w',rfl,⟨t,rfl⟩,⟨t',rfl⟩⟩:=vals2 r;refine max_two_ints (I.ok.hd hc) λh' tk k=>⟨_,H,I.kept k,?_,q⟩;by_cases hj:j>i
 ·rw[if_pos hj,if_pos hj];exact⟨_,rfl⟩
 ·rw[if_neg hj,if_neg hj];exact⟨_,rfl⟩
theorem b0r'(hc:X.calm=true):CallR X (.builtin "min") (λxs H Q=>∃i j,xs=[.int i,.int j]∧Q (.int (if j<i then j else i)) H):=by
 intro pq s σ H xs us Q I r h;obtain⟨i,j,rfl,q⟩:=h;obtain⟨u,w',rfl,⟨t,rfl⟩,⟨t',rfl⟩⟩:=vals2 r;refine min_two_ints (I.ok.hd hc) λh' tk k=>⟨_,H,I.kept k,?_,q⟩;by_cases hj:j<i
 ·rw[if_pos hj,if_pos hj];exact⟨_,rfl⟩
 ·rw[if_neg hj,if_neg hj];exact⟨_,rfl⟩
theorem a7m':CallR X (.type "int") (λxs H Q=>(∃i,xs=[.int i]∧Q (.int i) H)∨∃k,xs=[.bl k]∧Q (.int (if k then 1 else 0)) H):=by
 intro pq s σ H xs us Q I r h;rcases h with⟨i,rfl,q⟩| ⟨k,rfl,q⟩
 ·obtain⟨u,rfl,t,rfl⟩:=vals1 r;exact call_int_int ⟨.int i,H,I,⟨_,rfl⟩,q⟩
 ·obtain⟨u,rfl,r1⟩:=vals1 r;cases r1;exact call_int_bool ⟨.int (if k then 1 else 0),H,I.tok _,⟨_,rfl⟩,q⟩
end
section
variable {x C:Addr}{mA:Mg}{v:Value}
end
section
variable {P:Program}{H H':Hp}{C:Addr}{fs fs':List (Str×V)}
end
section
variable {X:Cx}{σ:St}{H:Hp}{C:Addr}{fs:List (Str×V)}{f:Str}{v:V}
end
section
variable {X:Cx}{o value:Expr}{f:Str}{pos tpos:Pos}{ta tv:TE}
end
section
variable {X:Cx}{σ:St}{H:Hp}{c:Value}{b:Bool}
end
structure Room (k:Nat)(A:Around):Prop where
 hd:A.handled=none
 dp:A.depth+3*k+5<recursionLimit
 un:A.units+16*k+200<cLine
 gd:A.guards=some []
theorem Room.mono{j:Nat}(r:Room k A)(h:j≤k):Room j A:=⟨r.hd,by have:=r.dp;omega,by have:=r.un;omega,r.gd⟩
theorem Room.deeper(r:Room (k+1) A)(env:Env):Room k (A.deeper env):=
 ⟨r.hd,by have:=r.dp;show A.depth+1+3*k+5<_;omega,by have:=r.un;show A.units+3+16*k+200<_;omega,r.gd⟩
theorem Room.depth(r:Room k A):A.depth<recursionLimit:=by have:=r.dp;omega
theorem Room.units(r:Room k A):A.units+64<cLine:=by have:=r.un;omega
def tNil:TA:=λ_ H Q=>Q [] H
def tCons(ta:TE)(tr:TA):TA:=λσ H Q=>ta σ H λx H1=>tr σ H1 λxs H2=>Q (x::xs) H2
section
variable {X:Cx}{te:TE}{t:TA}{pos:Pos}
theorem b2g':PA X [] tNil:=λ_ _ _ _ H Q I h=>Calls.spliced_nil ⟨[],H,I,.nil,h⟩
theorem b1s'(ha:PE X e te)(hr:PA X es t)(hs:starEach (e::es) X.env=(false,eval e X.env)::starEach es X.env:=by rfl):PA X (e::es) (tCons te t):=by intro pos pq s σ H Q I h;rw[hs];show wpAny _ _ (spliced ((false,eval e X.env)::backTo pos (starEach es X.env))) _ _ s;refine Calls.spliced_cons (thn (ha pq s σ H _ I h) λu s1 ⟨x,H1,I1,r1,q1⟩=>?_);exact thn (hr pos pq s1 σ H1 _ I1 q1) λus s2 ⟨xs,H2,I2,r2,q2⟩=>⟨x::xs,H2,I2,.cons r1 r2,q2⟩
def tTup(t:TA):TE:=λσ H Q=>t σ H λxs H1=>xs.length≤sizeLine∧∀p,H1 p=none→Q (.ref p) (upd H1 p (.tup xs))
def tLst(t:TA):TE:=λσ H Q=>t σ H λxs H1=>xs.length≤sizeLine∧∀p,H1 p=none→Q (.ref p) (upd H1 p (.lst xs))
theorem pe_tup{x1}(h:PA X es t):PE X (.Tuple es x1 pos) (tTup t):=by intro pq s σ H Q I hq;refine wpAny_Tuple_spliced (thn (h pos pq s σ H _ I hq) λus s1 ⟨xs,H1,I1,r,z,q⟩=>⟨by rw[←r.length];exact z,?_⟩);have hf:H1 s1.heap.objs.size=none:=I1.hok.fresh (Zi _);refine⟨.ref s1.heap.objs.size,upd H1 s1.heap.objs.size (.tup xs),I1.laid (t':=s1.toks) (λb u e=>Zc _ e) (Zi _) ?_,rfl,q _ hf⟩;exact⟨z,us,r,⟨_,Zk _ rfl,rfl,_,rfl⟩,_,Zk _ rfl,rfl⟩
theorem pe_lst(h:PA X es t):PE X (.List es pos) (tLst t):=by intro pq s σ H Q I hq;refine wpAny_List_spliced (thn (h pos pq s σ H _ I hq) λus s1 ⟨xs,H1,I1,r,z,q⟩=>⟨by rw[←r.length];exact z,?_⟩);have hf:H1 s1.heap.objs.size=none:=I1.hok.fresh (Zi _);refine⟨.ref s1.heap.objs.size,upd H1 s1.heap.objs.size (.lst xs),I1.laid (t':=s1.toks) (λb u e=>Zc _ e) (Zi _) ?_,rfl,q _ hf⟩;exact⟨z,us,0,r,Zk _ rfl⟩
end
abbrev Sp:=List V→Hp→VK→XK→Prop
abbrev CXT:=List Env→Hp→Shared→XK→Vs
structure Env0 (P:Program)(w:World)(K:Fg)(mg:Mg)(base:Heap)(A:Around)(outer:List Env)(s:Shared)(H:Hp):Prop where
 frames:A.frames=some outer
 mod:Mod K mg base
 bs:∀b o,base.get? b=some o→s.heap.get? b=some o∧H b=none
 bsz:base.objs.size≤s.heap.objs.size
 funs:s.heap.FunFrames base outer
 frf:∀b∈frs outer,H b=none
 hok:HOk P w H s.heap
 bare:AllBare s.gens
def CE(outer:List Env)(P:Program)(w:World)(H:Hp)(s:Shared)(Q:VK)(u:Value)(s':Shared):Prop:=
 ∃v H',s'.os=s.os∧AllBare s'.gens∧Un (frs outer) [] H H' s.heap s'.heap∧HOk P w H' s'.heap∧RelV v u∧Q v H'
def CR(CX:CXT)(outer:List Env)(P:Program)(w:World)(H:Hp)(s:Shared)(Q:VK)(E:XK)(r:Result)(s':Shared):Prop:=
 match r with
 | .ok (.ret u)=>CE outer P w H s Q u s'
 | .ok _=>False
 | .error e=>CX outer H s E e s'
structure FnOk (P:Program)(w:World)(K:Fg)(mg:Mg)(base:Heap)(CX:CXT)(k:Nat)(f:Addr)(fd:FuncData)(ps:Ls)(sp:Sp):Prop where
 len:∀vs H Q E,sp vs H Q E→vs.length=ps.length
 run:∀(A:Around) (outer:List Env) (s:Shared) (H:Hp) (args:Args) (us:Lv) (vs:List V) (Q:VK) (E:XK),Room k A→Env0 P w K mg base A outer s H→BindsTo s fd args (ps.zip us)→Vals vs us→sp vs H Q E→
  codeAny (model P w) A (.call (.ref f) args) (CR CX outer P w H s Q E) s
theorem FnOk.mono{P:Program}{CX:CXT}{j:Nat}{fd:FuncData}{sp:Sp}(F:FnOk P w K mg base CX j f fd ps sp)(h:j≤k):
  FnOk P w K mg base CX k f fd ps sp:=⟨F.len,λA outer s H args us vs Q E hr=>F.run A outer s H args us vs Q E (hr.mono h)⟩
theorem FnOk.imp{P:Program}{CX:CXT}{fd:FuncData}{sp sp':Sp}(F:FnOk P w K mg base CX k f fd ps sp)
  (h:∀vs H Q E,sp' vs H Q E→sp vs H Q E):FnOk P w K mg base CX k f fd ps sp':=
 ⟨λvs H Q E q=>F.len vs H Q E (h _ _ _ _ q),λA outer s H args us vs Q E hr he hb hv hs=>F.run A outer s H args us vs Q E hr he hb hv (h _ _ _ _ hs)⟩
section
variable {X:Cx}{σ:St}{H:Hp}
theorem Inv.env0(I:Inv X pq σ H s):Env0 X.prog X.w X.K X.mg X.base X.A X.stack s H:=
 ⟨I.ok.frames,I.ok.mod,I.bs,ZT I.ok.bsz I.sz,I.stack,I.stkFree,I.hok,I.bare⟩
theorem Inv.after{Q:VK}(I:Inv X pq σ H s)(h:CE X.stack X.prog X.w H s Q u s'):EP X pq σ Q u s':=by obtain⟨v,H',os,bare,un,hok,r,q⟩:=h;obtain⟨hh,g,d,t,os'⟩:=s';obtain rfl:os'=s.os:=os;exact⟨v,H',I.call (h':=hh) (g':=g) (d':=d) (t':=t) (ch:=[]) un hok bare (λb z=>absurd z (by simp)),r,q⟩
end
def tCall(sp:Sp)(dvs:List V)(E:XK)(t:TA):TE:=λσ H Q=>t σ H λvs H1=>sp (vs++dvs) H1 Q E
def Binds(K:Fg)(fd:FuncData)(ps:Ls)(ds:Lv):Prop:=
 ∀(s:Shared) (us:Lv),K.In s.heap→(us++ds).length=ps.length→BindsTo s fd ⟨us,[]⟩ (ps.zip (us++ds))
theorem Binds.all{fd:FuncData}(h:∀us:Lv,us.length=ps.length→bindArgs fd ⟨us,[]⟩=pure (ps.zip us)):Binds K fd ps []:=λs us _ hl=>by rw[List.append_nil]at hl⊢;exact .of_eq (h us hl)
def b2h'(CX:CXT)(X:Cx)(E:XK):Prop:=∀(pq:Lp) (σ:St) (H:Hp) (s:Shared) (e:Value) (s':Shared),Inv X pq σ H s→CX X.stack H s E e s'→X.xe e s'
section
variable {X:Cx}{CX:CXT}{C:Addr}{fd:FuncData}{sp:Sp}{dvs:List V}{ds:Lv}{E:XK}{x m:Str}{p pos:Pos}{o:Expr}{ta:TE}{t:TA}
theorem run_fn{σ:St}{H:Hp}{Q:VK}{vs:List V}(F:FnOk X.prog X.w X.K X.mg X.base CX k f fd ps sp)(hr:Room k X.A)(hb:Binds X.K fd ps ds)(hd:Vals dvs ds)(hx:b2h' CX X E)
  (I:Inv X pq σ H s) (r:Vals vs us) (h:sp (vs++dvs) H Q E):wpAny (model X.prog X.w) X.A (call (.ref f) us) (EP X pq σ Q) X.xe s:=by
 have r2:Vals (vs++dvs) (us++ds):=r.append hd;have hl:(us++ds).length=ps.length:=by rw[←r2.length];exact F.len _ _ _ _ h
 refine wpAny_call (codeAny_mono (F.run X.A X.stack s H ⟨us,[]⟩ (us++ds) (vs++dvs) Q E hr I.env0 (hb s us I.kIn hl) r2 h) λr s' hq=>?_);cases r with
 |error e=>exact hx pq σ H s e s' I hq
 |ok fl=>
  cases fl with
  |ret u=>exact I.after hq
  |next=>exact False.elim hq
  |brk=>exact False.elim hq
  |cont=>exact False.elim hq
theorem pe_call(F:FnOk X.prog X.w X.K X.mg X.base CX k f fd ps sp)(hr:Room k X.A)(hg:Gl X x)(hm:X.mg x=some (.ref f))(hk:PySem.W.keepIn X.K (.ref f)=true)(hb:Binds X.K fd ps ds)(hd:Vals dvs ds)(hx:b2h' CX X E)
  (ha:PA X (e::es) t) (hdb:(x==("__debug__":Str))=false:=by decide) (he:starEach (e::es) X.env=(false,eval e X.env)::starEach es X.env:=by rfl) (hpl:(backTo pos (starEach es X.env)).any (·.1)=false:=by rfl):
  PE X (.Call (.Name x p) (e::es) [] pos) (tCall sp dvs E t):=by
 intro pq s σ H Q I h;refine wpAny_Call_Name_kw (b1r' I hg hm ?_ hdb);refine PySem.W.callWith_K (h₀:=X.base) I.ok.mod.kin hk (thn (ha pos pq s σ H _ I h) λus s1 ⟨vs,H1,I1,r,q⟩=>⟨I1.kIn,?_⟩) he hpl;exact run_fn F hr hb hd hx I1 r q
end
def PK(X:Cx)(kws:List Keyword)(t:TA):Prop:=
 ∀(pos:Pos) (pq:Lp) (s:Shared) (σ:St) (H:Hp) (Q:List V→Hp→Prop),Inv X pq σ H s→t σ H Q→wpAny (model X.prog X.w) X.A (evalAll ((backToKw pos (keywordEach kws X.env)).map (·.2))) (AP X pq σ Q) X.xe s
section
variable {X:Cx}{CX:CXT}{C:Addr}{fd:FuncData}{ks:Ls}{sp:Sp}{E:XK}{x m:Str}{p pos kpos:Pos}{o:Expr}{kws:List Keyword}{te ta:TE}{t tk:TA}{nm:Option Str}
theorem pk_nil:PK X [] tNil:=λ_ _ _ _ H Q I h=>wpAny_evalAll_nil ⟨[],H,I,.nil,h⟩
theorem pk_cons(ha:PE X e te)(hr:PK X kws t):PK X (⟨nm,e,kpos⟩::kws) (tCons te t):=by intro pos pq s σ H Q I h;show wpAny _ _ (evalAll ((do let v ←eval e X.env;standAt pos;pure v)::(backToKw pos (keywordEach kws X.env)).map (·.2))) _ _ s;refine wpAny_evalAll_cons (Za (thn (ha pq s σ H _ I h) λu s1 ⟨x,H1,I1,r1,q1⟩=>Za (wpAny_standAt (Zg ?_))));exact thn (hr pos pq s1 σ H1 _ I1 q1) λus s2 ⟨xs,H2,I2,r2,q2⟩=>⟨x::xs,H2,I2,.cons r1 r2,q2⟩
variable {g:Lv→Lv→Lv}{gV:List V→List V→List V}
end
structure FnScope (N P:Ls)(sc:Scope):Prop where
 kind:sc.kind=.function
 co:sc.isCoroutine=false
 gen:sc.isGenerator=false
 nd:N.Nodup
 pre:N.take P.length=P
 par:∀x∈P,sc.names.lookup x=some .local∨sc.names.lookup x=some .cell
 nofree:∀y∈sc.names,y.2≠.free
theorem a7n'{kindOf:Str→Option NameKind}{x:Str}:∀{binds:List (Str×Value)} {m:Mg},(∀v,(x,v)∉binds)→bindL kindOf binds m x=m x
 | [],_,_=>rfl
 | (n,v)::r,m,h=>by
  unfold bindL;rw[a7n' λw hw=>h w (Zb _ hw)];split
  ·have:x≠n:=by rintro rfl;exact h v Zd
   simp[this]
  ·rfl
theorem a7o'{kindOf:Str→Option NameKind}{x:Str}:∀{binds:List (Str×Value)} {m:Mg},(∀v,(x,v)∉binds)→bindC kindOf binds m x=m x
 | [],_,_=>rfl
 | (n,v)::r,m,h=>by
  unfold bindC;rw[a7o' λw hw=>h w (Zb _ hw)];split
  ·rfl
  ·have:x≠n:=by rintro rfl;exact h v Zd
   simp[this]
theorem a7p'{kindOf:Str→Option NameKind}{x:Str}{v:Value}:∀{P:Ls} {vs:Lv} {i:Nat} {m:Mg},P.Nodup→P[i]?=some x→vs[i]?=some v→kindOf x=some .local→
  bindL kindOf (P.zip vs) m x=some v
 | [],_,_,_,_,h,_,_=>by simp at h
 |_::_,[],_,_,_,_,h,_=>by simp at h
 |p::P,w::vs,0,m,nd,h1,h2,hk=>by simp at h1 h2;subst h1;subst h2;show bindL kindOf ((p,w)::P.zip vs) m p=_;unfold bindL;rw[a7n' λv hv=>(List.nodup_cons.mp nd).1 (List.of_mem_zip hv).1,if_pos hk];simp
 |p::P,w::vs,i+1,m,nd,h1,h2,hk=>by show bindL kindOf ((p,w)::P.zip vs) m x=_;unfold bindL;exact a7p' (i:=i) (List.nodup_cons.mp nd).2 (by simpa using h1) (by simpa using h2) hk
theorem a7q'{kindOf:Str→Option NameKind}{x:Str}{v:Value}:∀{P:Ls} {vs:Lv} {i:Nat} {m:Mg},P.Nodup→P[i]?=some x→vs[i]?=some v→kindOf x≠some .local→
  bindC kindOf (P.zip vs) m x=some v
 | [],_,_,_,_,h,_,_=>by simp at h
 |_::_,[],_,_,_,_,h,_=>by simp at h
 |p::P,w::vs,0,m,nd,h1,h2,hk=>by simp at h1 h2;subst h1;subst h2;show bindC kindOf ((p,w)::P.zip vs) m p=_;unfold bindC;rw[a7o' λv hv=>(List.nodup_cons.mp nd).1 (List.of_mem_zip hv).1,if_neg hk];simp
 |p::P,w::vs,i+1,m,nd,h1,h2,hk=>by show bindC kindOf ((p,w)::P.zip vs) m x=_;unfold bindC;exact a7q' (i:=i) (List.nodup_cons.mp nd).2 (by simpa using h1) (by simpa using h2) hk
noncomputable def start(N:Ls)(vs:List V):St:=vs.map some++List.replicate (N.length-vs.length) none
noncomputable def cxOf(CX:CXT)(P:Program)(w:World)(K:Fg)(mg:Mg)(base:Heap)(N:Ls)(qual:Str)(scope:Scope)(f:Addr)(cd:Value)(A:Around)(outer:List Env)(s:Shared)(H:Hp)(E:XK):Cx where
 prog:=P
 w:=w
 K:=K
 mg:=mg
 base:=base
 A:=A.deeper (envOfC qual scope s.heap.objs.size f cd)
 N:=N
 s₀:=s
 H₀:=H
 env:=envOfC qual scope s.heap.objs.size f cd
 outer:=outer
 stack:=envOfC qual scope s.heap.objs.size f cd::outer
 ex:=[]
 calm:=true
 fn:=λ_=>true
 pn:=[]
 xe:=λe s'=>wpAny (model P w) (A.deeper (envOfC qual scope s.heap.objs.size f cd)) (leaving (envOfC qual scope s.heap.objs.size f cd) e) (λ_ s''=>CX outer H s E e s'') (λe' s''=>CX outer H s E e' s'') s'
theorem a8I'{sc:Scope}{x:Str}(h:sc.names.lookup x=some .cell):∃c,(cellsFrom n sc.names []).lookup x=some c:=by have q:=PySem.W.cellsFrom_some sc.names n [] (.inl h);exact Option.isSome_iff_exists.mp q
theorem b0s'{CX:CXT}{P:Program}{cd:Value}{outer:List Env}{s1:Shared}{H:Hp}{E:XK}{vs:List V}
  (S:FnScope N ps scope) (hd:A.handled=none) (e0:Env0 P w K mg base A outer s H) (hl:vs.length=ps.length) (r:Vals vs us)
  (x:InCallC s s.heap.objs.size (bindL (envOfC qual scope s.heap.objs.size f cd).kindOf (ps.zip us) λ_=>none) (cellsFrom (s.heap.objs.size+1) scope.names []) (bindC (envOfC qual scope s.heap.objs.size f cd).kindOf (ps.zip us) λ_=>none) s1):
  Inv (cxOf CX P w K mg base N qual scope f cd A outer s H E) [] (start N vs) H s1:=by
 have hpl:ps.length≤N.length:=by have:=congrArg List.length S.pre;rw[List.length_take]at this;omega
 obtain⟨h1,tk,rfl,hk⟩:=x.done;have noA:∀b:Addr,b∉(cxOf CX P w K mg base N qual scope f cd A outer s H E).ex:=λb z=>absurd (show b∈([]:La)from z) (by simp)
 refine⟨⟨e0.mod,S.kind,rfl,rfl,Zi _,λy z c h1 h2=>?_,λy hy=>?_,λy c _ h=>?_,λ_=>hd,Around.frames_deeper e0.frames,.inr ⟨rfl,rfl⟩,λb z=>absurd z (noA b),e0.bs,e0.bsz,λb _ _=>noA b,λb z=>absurd z (noA b),e0.funs,e0.frf⟩,
  rfl,e0.bare,Un.kept hk,⟨_,x.toInCall.ns,λi y v h1 h2 h3=>?_⟩,λy c h=>⟨_,x.cell y c h⟩,e0.hok.fresh (Zi _),λy c h=>?_,λp hp=>absurd (show p∈([]:Lp)from hp) (by simp),e0.hok.kept hk,?_⟩
 ·exact name_of_addr x.apart (Zv h1) (Zv h2)
 ·have hy:scope.names.lookup y=some .cell∨scope.names.lookup y=some .free:=hy;rcases hy with hy|hy
  ·exact a8I' hy
  ·exact absurd rfl (S.nofree _ (Zv hy))
 ·exact Nat.le_of_lt (x.above y c (Zv h))
 ·have hi:i<vs.length:=by
   unfold start at h2;by_cases hi:i<vs.length
   ·exact hi
   ·rw[Zp (by simpa using hi)]at h2;rw[List.getElem?_replicate]at h2;split at h2<;>cases h2
  have ha:vs[i]?=some v:=by
   unfold start at h2;rw[Zl (by simpa using hi),ZP]at h2;cases e:vs[i]? with
   |none=>rw[e]at h2;cases h2
   |some a=>rw[e]at h2;cases h2;rfl
  obtain⟨u,hu,rv⟩:=r.get ha;have hp:ps[i]?=some y:=by rw[←S.pre,List.getElem?_take_of_lt (by omega)];exact h1
  have ndP:ps.Nodup:=by rw[←S.pre];exact S.nd.sublist (List.take_sublist _ _)
  refine⟨u,rv,?_⟩;rcases S.par y (Zn hp)with k|k
  ·exact .inl ⟨k,a7p' ndP hp hu k⟩
  ·obtain⟨c,e⟩:=a8I' (n:=s.heap.objs.size+1) k;refine .inr ⟨.inl k,c,e,?_⟩;have q:=x.cell y c e;rw[a7q' ndP hp hu (by show scope.names.lookup y≠_;rw[k];decide)]at q;exact q
 ·exact e0.hok.fresh (Nat.le_of_lt (x.above y c (Zv h)))
 ·unfold start;show _=N.length;rw[Zt,Zw,List.length_replicate];omega
theorem fn_of{CX:CXT}{P:Program}{params:Arguments}{body:List Stmt}{dV kV:Value}{an:Option Addr}
    {sp:Sp} (lk:K.lookup f=some ⟨oc,od,.func (PySem.W.fnOf name qual params body scope dV kV doc pm an cdv ct),osl⟩) (hcd:PySem.W.codeIn K cdv qual=true) (S:FnScope N ps scope)
  (len:∀vs H Q E,sp vs H Q E→vs.length=ps.length)
  (hbody:∀(A:Around) (outer:List Env) (s:Shared) (H:Hp) (vs:List V) (Q:VK) (E:XK),Room k (A.deeper (envOfC qual scope s.heap.objs.size f cdv))→sp vs H Q E→
   ∃t,PSs (cxOf CX P w K mg base N qual scope f cdv A outer s H E) body t∧t {nx:=λ_ H'=>Q .non H',rt:=Q} (start N vs) H):
  FnOk P w K mg base CX (k+1) f (PySem.W.fnOf name qual params body scope dV kV doc pm an cdv ct) ps sp:=by
 refine⟨len,λA outer s H args us vs Q E hr e0 hb r hsp=>?_⟩;have hl:=len _ _ _ _ hsp;have KX:K.In s.heap:=e0.mod.kin.keeps λb o e=>(e0.bs b o e).1;have lim:s.heap.NoLimit:=e0.mod.nolimit.keeps λb o e=>(e0.bs b o e).1
 have hkind:∀y∈ps.zip us,scope.names.lookup y.1=some .local∨(scope.names.lookup y.1=some .cell∧((cellsFrom (s.heap.objs.size+1) scope.names []).lookup y.1).isSome=true):=λ⟨n,v⟩ hy=>by
  rcases S.par n (List.of_mem_zip hy).1 with q|q
  ·exact .inl q
  ·exact .inr ⟨q,PySem.W.cellsFrom_some _ _ _ (.inl q)⟩
 refine codeAny_call_function hr.depth (KX _ _ lk) rfl S.co S.gen rfl (PySem.W.codeRec_of KX hcd) (hb _ _ _ _ ?_);refine wpAny_newFunctionEnv_cells S.kind hkind λenv he s1 x=>?_;subst he;refine⟨lim.keeps x.toInCall.keep,codeAny_func ?_⟩;obtain⟨t,ht,hq⟩:=hbody A outer s H vs Q E (hr.deeper _) hsp;have I:Inv (cxOf CX P w K mg base N qual scope f cdv A outer s H E) [] (start N vs) H s1:=b0s' S hr.hd e0 hl r x;refine wpAny_mono (ht [] s1 (start N vs) H _ I hq) (λfl s' hs=>?_) λe s' hs=>hs
 have fin:∀{σ':St} {H':Hp} {v:V} {u:Value},Inv (cxOf CX P w K mg base N qual scope f cdv A outer s H E) [] σ' H' s'→RelV v u→Q v H'→CE outer P w H s Q u s':=
  λ{σ' H' v u} J rv q=>⟨v,H',J.os,J.bare,J.base,J.hok,rv,q⟩
 cases fl with
 |ret u=>obtain⟨v,σ',H',J,rv,q⟩:=hs;exact fin J rv q
 |next=>obtain⟨σ',H',J,q⟩:=hs;exact fin (v:=V.non) (u:=Value.none) J rfl q
 |brk=>obtain⟨_,_,_,q⟩:=hs;exact False.elim q
 |cont=>obtain⟨_,_,_,q⟩:=hs;exact False.elim q
section
variable {X:Cx}{x:Str}{p pos:Pos}{t:TA}{id T:String}{r:List V→Hp→VK→Prop}
def tCB(r:List V→Hp→VK→Prop)(t:TA):TE:=λσ H Q=>t σ H λvs H1=>r vs H1 Q
theorem b2i'(hc:CallR X (.builtin id) r)(hg:Gl X x)(hm:X.mg x=none)(hv:bootBuiltins x=some (.builtin id))(ha:PA X (e::es) t)(hn:x≠"__name__":=by decide)(hdb:(x==("__debug__":Str))=false:=by decide)
  (he:starEach (e::es) X.env=(false,eval e X.env)::starEach es X.env:=by rfl) (hpl:(backTo pos (starEach es X.env)).any (·.1)=false:=by rfl):PE X (.Call (.Name x p) (e::es) [] pos) (tCB r t):=by
 intro pq s σ H Q I h;refine wpAny_Call_Name_kw (a5i' I hg hm hv ?_ hn hdb);exact PyProof.Rows.callWith_builtin1 (thn (ha pos pq s σ H _ I h) λus s1 ⟨vs,H1,I1,r1,q1⟩=>hc pq s1 σ H1 vs us Q I1 r1 q1) he hpl
theorem a5j'(hc:CallR X (.type T) r)(hg:Gl X x)(hm:X.mg x=none)(hv:bootBuiltins x=some (.type T))(ha:PA X (e::es) t)(hn:x≠"__name__":=by decide)(hdb:(x==("__debug__":Str))=false:=by decide)
  (he:starEach (e::es) X.env=(false,eval e X.env)::starEach es X.env:=by rfl) (hpl:(backTo pos (starEach es X.env)).any (·.1)=false:=by rfl):PE X (.Call (.Name x p) (e::es) [] pos) (tCB r t):=by
 intro pq s σ H Q I h;refine wpAny_Call_Name_kw (a5i' I hg hm hv ?_ hn hdb);exact PyProof.Rows.callWith_type1 (thn (ha pos pq s σ H _ I h) λus s1 ⟨vs,H1,I1,r1,q1⟩=>hc pq s1 σ H1 vs us Q I1 r1 q1) he hpl
end
end L2
namespace HT
section
open PySem.SeqAt
open PySem.AutoSeq1 (wpAny_loadPart')
open PySem.MeetsSeq PySem.MeetsSeq2 PySem.MeetsSeq3
end
theorem cat_tup{t b:Addr}{vs ws:Lv}(ht:IsTup s.heap t vs.toArray)(hb:IsTup s.heap b ws.toArray)(hv:vs≠[])
  (h1:ws=[]→Q (.ref t) s) (h2:ws≠[]→Q (.ref s.heap.objs.size) {s with heap:=s.heap.push {cls:=.type "tuple",data:=.seq (vs++ws).toArray}})
  (hsz:vs.length+ws.length≤sizeLine):wpAny (model prog w) A (binaryOp .Add (.ref t) (.ref b)) Q E s:=by
 obtain⟨⟨cls,dd,data,sl⟩,ho,hc,n,hd⟩:=id ht;obtain⟨⟨cls2,dd2,data2,sl2⟩,ho2,hc2,n2,hd2⟩:=id hb;simp only at hc hd hc2 hd2;subst hc hd hc2 hd2;have e:vs.toArray++ws.toArray=(vs++ws).toArray:=by simp
 by_cases hw:ws=[]
 ·exact concat_meets ⟨_,ho,rfl⟩ ⟨_,ho2,rfl⟩ noFill_tuple_add seq_tuple_add PySem.F.slot_tuple_add PySem.F.entry_tuple_add (PySem.F.args_tuple_add_2 _ _)
   (tuple_addW1 t b vs.toArray ws.toArray n n2 dd dd2 sl sl2 (by simpa using hv) (by simp[hw])) ⟨ho,ho2,h1 hw⟩
 ·refine concat_meets ⟨_,ho,rfl⟩ ⟨_,ho2,rfl⟩ noFill_tuple_add seq_tuple_add PySem.F.slot_tuple_add PySem.F.entry_tuple_add (PySem.F.args_tuple_add_2 _ _)
   (tuple_addW2 t b vs.toArray ws.toArray n n2 dd dd2 sl sl2 (by simpa using hv) (by simpa using hw) (by rw[Ze,Ze];exact hsz)) ⟨ho,ho2,?_⟩
  rw[e];exact h2 hw
noncomputable def sIx(n d:Nat):Option Int→Nat
 |none=>d
 |some v=>if v<0 then(v+(n:Int)).toNat else min v.toNat n
theorem sIx_le(n d:Nat)(hd:d≤n)(o:Option Int):sIx n d o≤n:=by
 cases o with
 |none=>exact hd
 |some v=>
  show(if v<0 then(v+(n:Int)).toNat else min v.toNat n)≤n;by_cases hv:v<0
  ·rw[if_pos hv];omega
  ·rw[if_neg hv];exact Nat.min_le_right _ _
theorem b1t'(v:Int)(n d:Nat):(if v<0 then max (v+(n:Int)) 0 else min v (n:Int))=((sIx n d (some v):Nat):Int):=by
 show(if v<0 then max (v+(n:Int)) 0 else min v (n:Int))=(((if v<0 then(v+(n:Int)).toNat else min v.toNat n):Nat):Int);by_cases hv:v<0
 ·simp only[if_pos hv];omega
 ·simp only[if_neg hv];omega
theorem a8J'(lo hi:Option Int)(n:Nat):Builtin.Slice.sliceAdjust lo hi 1 (n:Int)=(((sIx n 0 lo:Nat):Int),((sIx n n hi:Nat):Int)):=by
 have h1:¬((1:Int)<0):=by omega
 unfold Builtin.Slice.sliceAdjust;simp only[h1,ZR];refine Prod.ext ?_ ?_
 ·cases lo with
  |none=>rfl
  |some v=>exact b1t' v n 0
 ·cases hi with
  |none=>rfl
  |some v=>exact b1t' v n n
theorem a8K'(i j:Nat):Builtin.Slice.slicePlaces (i:Int) (j:Int) 1=j-i:=by
 unfold Builtin.Slice.slicePlaces;have h1:(1:Int)>0:=by omega
 simp only[h1,if_true,Int.ediv_one];split<;>omega
theorem a5N'{v:Value}{o:Option Int}{Q:Option Int→Shared→Prop}(p:IsPart v o)(h:Q o s):wpAny (model prog w) A (Builtin.Slice.slicePartIndex v) Q E s:=by
 cases p with
 |none=>exact slicePart_none h
 |int i t=>exact slicePart_int h
theorem a1U'{lo:Option Int}{Q:Int×Int×Nat→Shared→Prop}(hs:s.heap.IsSliceOf sl vl vu .none)(pl:IsPart vl lo)(pu:IsPart vu hi)
  (h:Q (((sIx n 0 lo:Nat):Int),1,sIx n n hi-sIx n 0 lo) s):wpAny (model prog w) A (Builtin.Slice.sliceApplied (.ref sl) (pure (n:Int))) Q E s:=by
 obtain⟨os,hos,hcs,hds⟩:=id hs;unfold Builtin.Slice.sliceApplied Builtin.Slice.sliceFields;refine Za (Za (wpAny_field hos hds (x:=vl) rfl (Za (wpAny_field hos hds (x:=vu) rfl (Za (wpAny_field hos hds (x:=.none) rfl (Zg ?_)))))));refine Za (slicePart_none ?_);show wpAny _ _ (if((1:Int)==0)=true then _ else _) _ _ s;rw[if_neg (by decide)];refine Za (a5N' pl (Za (a5N' pu (Za (Zg ?_)))));show wpAny _ _ (match Builtin.Slice.sliceAdjust lo hi 1 (n:Int)with| (lo,hi)=>pure (lo,(1:Int),Builtin.Slice.slicePlaces lo hi 1)) _ _ s;rw[a8J' lo hi n];show wpAny _ _ (pure (((sIx n 0 lo:Nat):Int),(1:Int),Builtin.Slice.slicePlaces ((sIx n 0 lo:Nat):Int) ((sIx n n hi:Nat):Int) 1)) _ _ s;rw[a8K'];exact Zg h
theorem b2j'(xs:Av)(i k:Nat):((List.range k).filterMap λ(m:Nat)=>xs[((i:Int)+(m:Int)*1).toNat]?).toArray=((xs.toList.drop i).take k).toArray:=by
 have e:(λ(m:Nat)=>xs[((i:Int)+(m:Int)*1).toNat]?)=λm=>xs[i+m]? :=by
  funext m;have:((i:Int)+(m:Int)*1).toNat=i+m:=by omega
  rw[this]
 rw[e];have:=pick_run xs i k;rw[List.filterMap_map]at this;have e2:((λx=>xs[x]?)∘λx=>i+x)=λm=>xs[i+m]? :=rfl;rw[e2]at this;rw[this]
theorem a3H'{t:Addr}{lo:Option Int}(ht:IsTup s.heap t items)(hs:s.heap.IsSliceOf sl vl vu .none)(pl:IsPart vl lo)(pu:IsPart vu hi)
  (hw:¬(sIx items.size 0 lo=0∧sIx items.size items.size hi=items.size))
  (h:Q (.ref s.heap.objs.size) {s with heap:=s.heap.push {cls:=.type "tuple",data:=.seq ((items.toList.drop (sIx items.size 0 lo)).take (sIx items.size items.size hi-sIx items.size 0 lo)).toArray}})
  (hsz:items.size≤sizeLine):wpAny (model prog w) A (getItem (.ref t) (.ref sl)) Q E s:=by
 have htake:sizeOk (.seq ((items.toList.drop (sIx items.size 0 lo)).take (sIx items.size items.size hi-sIx items.size 0 lo)).toArray):=by show((items.toList.drop (sIx items.size 0 lo)).take (sIx items.size items.size hi-sIx items.size 0 lo)).toArray.size≤sizeLine;rw[Ze,List.length_take,List.length_drop,Array.length_toList];omega
 have hj:sIx items.size items.size hi≤items.size:=sIx_le _ _ (Zi _) hi;obtain⟨os,hos,hcs,hds⟩:=id hs;have hTs:s.TypeIs (.ref sl) "slice":=⟨os,hos,hcs⟩;unfold getItem
 try with_reducible refine wpAny_holding ?_
 first|refine Za (Zg ?_)|skip
 refine Za (wpAny_sequenceKey ht.typeIs (by decide) ?_)
 refine Za (wpAny_callSpecial?_slot (name:=Str.ofString "__getitem__") ht.typeIs PyProof.Rows.slot_tuple_getitem
  (wpAny_call_entry PyProof.Rows.slot_tuple_getitem ht.typeIs entry_tuple_getitem ?_ (args_tuple_getitem _ _)))
 show wpAny _ _ (Builtin.Tuple.tupleItemsOf (.ref t)>>=_) _ _ s;refine Za (tupleItemsOf_ ht ?_);refine Za (wpAny_typeOf hTs ?_);rw[if_pos (by decide)];refine Za (a1U' hs pl pu ?_);have hno:¬((((sIx items.size 0 lo:Nat):Int)==0&&(1:Int)==1&&(sIx items.size items.size hi-sIx items.size 0 lo)==items.size)=true):=by intro q;rw[ZB,ZB]at q;have q1:((sIx items.size 0 lo:Nat):Int)=0:=eq_of_beq q.1.1;have q2:sIx items.size items.size hi-sIx items.size 0 lo=items.size:=eq_of_beq q.2;exact hw ⟨by omega,by omega⟩
 show wpAny _ _ (if(((sIx items.size 0 lo:Nat):Int)==0&&(1:Int)==1&&(sIx items.size items.size hi-sIx items.size 0 lo)==items.size)=true then _ else _) _ _ s;rw[if_neg hno,b2j']
 first
  |exact Za (m:=Builtin.Tuple.tupleExact _) (ZY (Zg ⟨_,rfl,Zg h⟩) htake)
  |exact Za (m:=Builtin.Tuple.tupleExact _) (ZY (Za (Zg (Zg ⟨_,rfl,Zg h⟩))) htake)
  |exact Za (Za (m:=Builtin.Tuple.tupleExact _) (ZY (Zg (Zg ⟨_,rfl,Zg h⟩)) htake))
  |exact Za (Za (m:=Builtin.Tuple.tupleExact _) (ZY (Zg ⟨_,rfl,Zg h⟩) htake))
end HT
namespace L2
abbrev TO:=St→Hp→(Option Int→Hp→Prop)→Prop
def PO(X:Cx)(e:Option Expr)(t:TO):Prop:=
 ∀(pq:Lp) (s:Shared) (σ:St) (H:Hp) (Q:Option Int→Hp→Prop),Inv X pq σ H s→t σ H Q→
  wpAny (model X.prog X.w) X.A (evalPart e X.env) (λu s'=>∃o H',Inv X pq σ H' s'∧IsPart u o∧Q o H') X.xe s
def tNoPart:TO:=λ_ H Q=>Q none H
def tPart(t:TE):TO:=λσ H Q=>t σ H λx H1=>∃i,x=.int i∧Q (some i) H1
section
variable {X:Cx}{te:TE}{lo hi:Option Expr}{tl th:TO}{pos:Pos}
theorem po_none:PO X none tNoPart:=by intro pq s σ H Q I h;rw[evalPart_none];exact Zg ⟨none,H,I,.none,h⟩
theorem po_some(h:PE X e te):PO X (some e) (tPart te):=by intro pq s σ H Q I hw;rw[evalPart_some];refine thn (h pq s σ H _ I hw) λu s1 ⟨x,H1,I1,r1,q1⟩=>?_;obtain⟨i,rfl,q⟩:=q1;obtain⟨t,rfl⟩:=r1;exact⟨some i,H1,I1,.int i t,q⟩
def SlR(X:Cx)(r:V→Option Int→Option Int→Hp→VK→Prop):Prop:=
 ∀(pq:Lp) (s:Shared) (σ:St) (H:Hp) (x:V) (v vl vu:Value) (lo hi:Option Int) (sl:Addr) (Q:VK),Inv X pq σ H s→RelV x v→s.heap.IsSliceOf sl vl vu .none→IsPart vl lo→IsPart vu hi→r x lo hi H Q→
  ∃T id,typeLookup (.type T) "__getitem__"=pure (some (.builtin id))∧s.TypeIs v T∧wpAny (model X.prog X.w) X.A (getItem v (.ref sl)) (EP X pq σ Q) X.xe s
def tSl(r:V→Option Int→Option Int→Hp→VK→Prop)(te:TE)(tl th:TO):TE:=λσ H Q=>te σ H λx H1=>tl σ H1 λl H2=>th σ H2 λu H3=>r x l u H3 Q
theorem b2k'{r:V→Option Int→Option Int→Hp→VK→Prop}(hr:SlR X r)(he:PE X e te)(hl:PO X lo tl)(hu:PO X hi th):PE X (.Subscript e (.Slice lo hi none p2) pos) (tSl r te tl th):=by intro pq s σ H Q I h;refine Subscript_ (thn (he pq s σ H _ I h) λv s1 ⟨x,H1,I1,r1,q1⟩=>?_);refine wpAny_Slice (thn (hl pq s1 σ H1 _ I1 q1) λvl s2 ⟨l,H2,I2,pl,q2⟩=>thn (hu pq s2 σ H2 _ I2 q2) λvu s3 ⟨u,H3,I3,pu,q3⟩=>?_);rw[evalPart_none];refine Zg ?_;have I4:Inv X pq σ H3 {s3 with heap:=s3.heap.push {cls:=.type "slice",data:=.fields #[vl,vu,.none]}}:=I3.kept (t':=s3.toks) λb ob q=>Zc _ q;obtain⟨T,id,hT,ht,hg⟩:=hr pq {s3 with heap:=s3.heap.push {cls:=.type "slice",data:=.fields #[vl,vu,.none]}} σ H3 x v vl vu l u s3.heap.objs.size Q I4 r1 (Heap.IsSliceOf.new ..) pl pu q3;show wpAny (model X.prog X.w) X.A (subscriptTail e (.Slice lo hi none p2) v (.ref s3.heap.objs.size)) (EP X pq σ Q) X.xe {s3 with heap:=s3.heap.push {cls:=.type "slice",data:=.fields #[vl,vu,.none]}};exact tail_any (ops:=[.ref s3.heap.objs.size,v]) ht hT hg (by with_unfolding_all rfl)
noncomputable def cutV(xs:List V)(lo hi:Option Int):List V:=(xs.drop (HT.sIx xs.length 0 lo)).take (HT.sIx xs.length xs.length hi-HT.sIx xs.length 0 lo)
theorem a4D'(xs:List V)(lo hi:Option Int):(cutV xs lo hi).length≤xs.length:=by unfold cutV;rw[List.length_take,List.length_drop];omega
def rSlT(K:Fg):V→Option Int→Option Int→Hp→VK→Prop:=λx lo hi H Q=>∃a xs,x=.ref a∧SqT K H a xs∧
 ¬(HT.sIx xs.length 0 lo=0∧HT.sIx xs.length xs.length hi=xs.length)∧∀p,H p=none→Q (.ref p) (upd H p (.tup (cutV xs lo hi)))
theorem sl_tup:SlR X (rSlT X.K):=by
 intro pq s σ H x v vl vu lo hi sl Q I rx hs pl pu h;obtain⟨a,xs,rfl,hx,hw,q⟩:=h;cases rx;obtain⟨its,r,ht,hz⟩:=I.tuple hx;have hlen:its.toArray.size=xs.length:=by rw[Ze];exact r.length.symm
 refine⟨"tuple",_,PyProof.Rows.slot_tuple_getitem.lookup,ht.typeIs,?_⟩;refine HT.a3H' ht hs pl pu (by rw[hlen];exact hw) ?_ (by rw[hlen];exact hz);rw[hlen];refine⟨.ref s.heap.objs.size,_,I.laid (t':=s.toks) (o:=.tup (cutV xs lo hi)) (λb ob q=>Zc _ q) (Zi _) ?_,rfl,q _ (I.hok.fresh (Zi _))⟩;exact⟨ZT (a4D' xs lo hi) hz,_,(r.drop (HT.sIx xs.length 0 lo)).take (HT.sIx xs.length xs.length hi-HT.sIx xs.length 0 lo),IsTup.new _ _,NoD.new _ _⟩
def rCatT(K:Fg):R2:=λx y H Q=>∃a b xs ys,x=.ref a∧y=.ref b∧SqT K H a xs∧SqT K H b ys∧xs≠[]∧xs.length+ys.length≤sizeLine∧
 (ys=[]→Q (.ref a) H)∧(ys≠[]→∀p,H p=none→Q (.ref p) (upd H p (.tup (xs++ys))))
theorem Vals.nil_iff{xs:List V}(r:Vals xs us):us=[]↔xs=[]:=by
 cases r with
 |nil=>simp
 |cons _ _=>simp
theorem op_catT:OpR X (binaryOp .Add) (rCatT X.K):=by intro pq s σ H x y v u Q I rx ry h;obtain⟨a,b,xs,ys,rfl,rfl,ha,hb,hx,hz,q1,q2⟩:=h;cases rx;cases ry;obtain⟨its,r1,p1,_⟩:=I.tuple ha;obtain⟨its2,r2,p2,_⟩:=I.tuple hb;refine HT.cat_tup p1 p2 (λz=>hx (r1.nil_iff.mp z)) (λz=>⟨.ref a,H,I,rfl,q1 (r2.nil_iff.mp z)⟩) (λz=>?_) (by rw[←r1.length,←r2.length];exact hz);refine⟨.ref s.heap.objs.size,_,I.laid (t':=s.toks) (o:=.tup (xs++ys)) (λb ob q=>Zc _ q) (Zi _) ?_,rfl,q2 (λw=>z (r2.nil_iff.mpr w)) _ (I.hok.fresh (Zi _))⟩;exact⟨by rw[Zt];exact hz,_,r1.append r2,IsTup.new _ _,NoD.new _ _⟩
end
noncomputable def ixN(n:Nat)(i:Int):Option Nat:=if 0≤i then(if i<n then some i.toNat else none)else if-(n:Int)≤i then some (i+n).toNat else none
noncomputable def atI{α:Type}(xs:List α)(i:Int):Option α:=(ixN xs.length i).bind λj=>xs[j]?
theorem a8L'{i:Int}{j:Nat}(h:ixN n i=some j):seqIndex? i n=some j∧j<n∧-(n:Int)≤i∧i<n:=by
 unfold ixN at h;by_cases h0:0≤i
 ·rw[if_pos h0]at h;by_cases h1:i<n
  ·rw[if_pos h1]at h;have e:i.toNat=j:=ZL h;exact⟨by rw[seqIndex_of h0 h1,e],by omega,by omega,h1⟩
  ·rw[if_neg h1]at h;cases h
 ·rw[if_neg h0]at h;by_cases h1: -(n:Int)≤i
  ·rw[if_pos h1]at h;have e:(i+n).toNat=j:=ZL h;exact⟨by rw[seqIndex_neg (by omega) h1,e],by omega,h1,by omega⟩
  ·rw[if_neg h1]at h;cases h
theorem b1u'{xs:List α}{i:Int}{v:α}(h:atI xs i=some v):∃j,seqIndex? i xs.length=some j∧xs[j]?=some v∧j<xs.length∧-(xs.length:Int)≤i∧i<xs.length:=by
 unfold atI at h;cases e:ixN xs.length i with
 |none=>rw[e]at h;cases h
 |some j=>rw[e]at h;obtain⟨h1,h2,h3,h4⟩:=a8L' e;exact⟨j,h1,h,h2,h3,h4⟩
def b1v'(b:Expr):Prop:=∀o i,subscripted b false o i=operate [o,i] (getItem o i)
def IxR(X:Cx)(r:R2):Prop:=
 ∀(value slice:Expr) (pq:Lp) (s:Shared) (σ:St) (H:Hp) (x y:V) (v u:Value) (Q:VK),Inv X pq σ H s→RelV x v→RelV y u→r x y H Q→
  subscripted slice false v u=operate [v,u] (getItem v u)→wpAny (model X.prog X.w) X.A (subscriptTail value slice v u) (EP X pq σ Q) X.xe s
def MtR(X:Cx)(id:String)(r:V→List V→Hp→VK→Prop):Prop:=
 ∀(pq:Lp) (s:Shared) (σ:St) (H:Hp) (x:V) (xs:List V) (v:Value) (us:Lv) (Q:VK),Inv X pq σ H s→RelV x v→Vals xs us→r x xs H Q→
  wpAny (model X.prog X.w) X.A (call (.builtin id) (v::us)) (EP X pq σ Q) X.xe s
section
variable {X:Cx}{a b:Expr}{ta tb:TE}{pos:Pos}
theorem pe_ix{r:R2}(hr:IxR X r)(ha:PE X a ta)(hb:PE X b tb)(hs:b1v' b):PE X (.Subscript a b pos) (tOp r ta tb):=by intro pq s σ H Q I h;exact Subscript_ (binT ha hb I h λv u s2 x y H2 I2 rx ry q=>hr a b pq s2 σ H2 x y v u Q I2 rx ry q (hs _ _))
def rIxL(K:Fg):R2:=λx y H Q=>∃p xs i v,x=.ref p∧y=.int i∧SqL K H p xs∧atI xs i=some v∧Q v H
def rIxT(K:Fg):R2:=λx y H Q=>∃p xs i v,x=.ref p∧y=.int i∧SqT K H p xs∧atI xs i=some v∧Q v H
theorem ix_list:IxR X (rIxL X.K):=by
 intro value slice pq s σ H x y v u Q I rx ry h hs;obtain⟨p,xs,i,z,rfl,rfl,hq,he,q⟩:=h;cases rx;obtain⟨t,rfl⟩:=ry;obtain⟨its,r,pl,hz⟩:=I.list hq;obtain⟨j,h1,h2,h3,h4,h5⟩:=b1u' he;obtain⟨w,ew,rw'⟩:=r.get h2;have hl:=r.length;have hn:=a7Z';have fin:EP X pq σ Q w s:=⟨z,H,I,rw',q⟩;by_cases h0:0≤i
 ·have hj:i.toNat=j:=by
   rw[seqIndex_of h0 h5]at h1;exact ZL h1
  exact item_listR pl.isList h0 (by omega) (by rw[hj];simpa using ew) fin hs
 ·have hj:(i+(its.toArray.size:Int)).toNat=j:=by
   rw[seqIndex_neg (by omega) h4]at h1;rw[Ze,←hl];exact ZL h1
  exact subscriptTail_builtinR (x:=w) pl.isList.typeIs slot_list_getitem.lookup
   (wpAny_getItem_list_neg (Q:=λr s'=>r=w∧EP X pq σ Q r s') pl.isList (by omega) (by rw[Ze]<;>omega) (by omega) (by rw[hj];simpa using ew) ⟨rfl,fin⟩) hs
theorem ix_tup:IxR X (rIxT X.K):=by
 intro value slice pq s σ H x y v u Q I rx ry h hs;obtain⟨p,xs,i,z,rfl,rfl,hq,he,q⟩:=h;cases rx;obtain⟨t,rfl⟩:=ry;obtain⟨its,r,pl,hz⟩:=I.tuple hq;obtain⟨j,h1,h2,h3,h4,h5⟩:=b1u' he;obtain⟨w,ew,rw'⟩:=r.get h2;have hl:=r.length;have hn:=a7Z';have fin:EP X pq σ Q w s:=⟨z,H,I,rw',q⟩
 exact subscriptTail_builtinR (x:=w) pl.typeIs slot_tuple_getitem.lookup
  (getItem_tuple (j:=j) (Q:=λr s'=>r=w∧EP X pq σ Q r s') pl (by omega) (by omega) (by rw[Ze,←hl];exact h1) (by simpa using ew) ⟨rfl,fin⟩) hs
theorem a8M'(its:Lv)(n j:Nat)(u:Value):Obj.mapSeq (·.setIfInBounds j u) {cls:=.type "list",data:=.seq its.toArray n}={cls:=.type "list",data:=.seq (its.set j u).toArray n}:=by simp[Obj.mapSeq]
theorem Inv.lst{σ:St}{H:Hp}{p:Addr}{xs:List V}(I:Inv X pq σ H s)(h:H p=some (.lst xs)):
  ∃(its:Lv) (n:Nat),Vals xs its∧s.heap.get? p=some {cls:=.type "list",data:=.seq its.toArray n}∧xs.length≤sizeLine:=by
 obtain⟨z,its,n,r,e⟩:=I.hok p _ h;exact⟨its,n,r,e,z⟩
theorem Inv.lstUpd{σ:St}{H:Hp}{p:Addr}{xs ys:List V}{its its':Lv}{n n':Nat}{f:Obj→Obj}(I:Inv X pq σ H s)(h:H p=some (.lst xs))
  (ho:s.heap.get? p=some {cls:=.type "list",data:=.seq its.toArray n}) (hf:f {cls:=.type "list",data:=.seq its.toArray n}={cls:=.type "list",data:=.seq its'.toArray n'}) (r:Vals ys its') (hz:ys.length≤sizeLine) (t:Nat):
  Inv X pq σ (upd H p (.lst ys)) {s with heap:=s.heap.update p f,toks:=t}:=by
 have e:(s.heap.update p f).get? p=some {cls:=.type "list",data:=.seq its'.toArray n'}:=by rw[Heap.get?_update_self f ho (by rw[hf]<;>rfl),hf]
 refine I.write (x:=p) (e:=p) (by rw[h];trivial) (.inl rfl) (λb u hb q=>(ZW _ _ (Ne.symm hb)).trans q) ⟨_,e⟩ ?_;exact⟨hz,its',n',r,e⟩
def rSetL:V→V→V→Hp→(Hp→Prop)→Prop:=λo i v H Q=>∃p xs k j,o=.ref p∧i=.int k∧H p=some (.lst xs)∧ixN xs.length k=some j∧Q (upd H p (.lst (xs.set j v)))
theorem b2l':PSet X rSetL:=by
 intro pq s σ H o i v ov iv u Q I ro ri rv h;obtain⟨p,xs,k,j,rfl,rfl,hp,hj,q⟩:=h;cases ro;obtain⟨t,rfl⟩:=ri;obtain⟨its,n,r,ho,hz⟩:=I.lst hp;obtain⟨h1,h2,h3,h4⟩:=a8L' hj;have hl:=r.length;have hn:=a7Z'
 have I':Inv X pq σ (upd H p (.lst (xs.set j v))) {s with heap:=s.heap.update p (Obj.mapSeq (·.setIfInBounds j u))}:=
  I.lstUpd hp ho (a8M' its n j u) (r.set rv j) (by rw[List.length_set];exact hz) s.toks
 by_cases h0:0≤k
 ·have hk:k.toNat=j:=by
   rw[seqIndex_of h0 h4]at h1;exact ZL h1
  exact PySem.W.ki_setAt ho h0 (by omega) (by rw[Ze,←hl];exact h4) (by rw[hk];exact⟨_,I',q⟩)
 ·have hk:(k+(its.toArray.size:Int)).toNat=j:=by
   rw[seqIndex_neg (by omega) h3]at h1;rw[Ze,←hl];exact ZL h1
  exact PySem.W.ki_setBack ho (by omega) (by rw[Ze,←hl];exact h3) (by omega) (by rw[hk];exact⟨_,I',q⟩)
theorem a6H'(lo hi:Option Int)(n:Nat):(sliceBounds lo hi none n).1=((HT.sIx n 0 lo:Nat):Int)∧(sliceBounds lo hi none n).2.1=((HT.sIx n n hi:Nat):Int)∧(sliceBounds lo hi none n).2.2=1:=by
 refine⟨?_,?_,rfl⟩
 ·cases lo with
  |none=>simp[sliceBounds,HT.sIx]
  |some i=>
   simp only[sliceBounds,HT.sIx,Option.getD_none,show(1:Int)>0 by decide,if_true];by_cases h:i<0
   ·simp only[h,if_true]<;>omega
   ·simp only[h,ZR]<;>omega
 ·cases hi with
  |none=>simp[sliceBounds,HT.sIx]
  |some i=>
   simp only[sliceBounds,HT.sIx,Option.getD_none,show(1:Int)>0 by decide,if_true];by_cases h:i<0
   ·simp only[h,if_true]<;>omega
   ·simp only[h,ZR]<;>omega
theorem a5O'(its:Lv)(lo hi:Option Int):slicePick its.toArray lo hi none=((its.drop (HT.sIx its.length 0 lo)).take (HT.sIx its.length its.length hi-HT.sIx its.length 0 lo)).toArray:=by obtain⟨h1,h2,h3⟩:=a6H' lo hi its.toArray.size;unfold slicePick;rw[h1,h2,h3];simp only[sliceRange_one,pick_run,Ze]<;>rfl
def rSlL(K:Fg):V→Option Int→Option Int→Hp→VK→Prop:=λx lo hi H Q=>∃a xs,x=.ref a∧SqL K H a xs∧∀p,H p=none→Q (.ref p) (upd H p (.lst (cutV xs lo hi)))
theorem sl_list:SlR X (rSlL X.K):=by intro pq s σ H x v vl vu lo hi sl Q I rx hs pl pu h;obtain⟨a,xs,rfl,hx,q⟩:=h;cases rx;obtain⟨its,r,ht,hz⟩:=I.list hx;have hlen:=r.length;refine⟨"list",_,slot_list_getitem.lookup,ht.isList.typeIs,?_⟩;refine wpAny_getItem_list_slice ht.isList hs pl pu .none (by simp) ?_ (by rw[Ze]<;>omega);rw[a5O',←hlen];refine⟨.ref s.heap.objs.size,_,I.laid (t':=s.toks) (o:=.lst (cutV xs lo hi)) (λb ob q=>Zc _ q) (Zi _) ?_,rfl,q _ (I.hok.fresh (Zi _))⟩;exact⟨ZT (a4D' xs lo hi) hz,_,0,(r.drop (HT.sIx xs.length 0 lo)).take (HT.sIx xs.length xs.length hi-HT.sIx xs.length 0 lo),Zk _ rfl⟩
theorem a6I':CallR X (.builtin "len") (λxs H Q=>∃p ys,xs=[.ref p]∧(SqL X.K H p ys∨SqT X.K H p ys)∧Q (.int ys.length) H):=by
 intro pq s σ H xs us Q I r h;obtain⟨p,ys,rfl,hq,q⟩:=h;obtain⟨u,rfl,rx⟩:=vals1 r;cases rx;have hn:=a7Z';rcases hq with hq|hq
 ·obtain⟨its,r',pl,hz⟩:=I.list hq;have hlen:=r'.length;exact Calls.call_len_list pl.isList (by simp only[Ze]<;>omega) ⟨.int ys.length,H,I.tok _,⟨s.toks+1,by rw[Ze,hlen]⟩,q⟩
 ·obtain⟨its,r',pl,hz⟩:=I.tuple hq;have hlen:=r'.length;exact len_tuple pl (by simp only[Ze]<;>omega) ⟨.int ys.length,H,I.tok _,⟨s.toks+1,by rw[Ze,hlen]⟩,q⟩
theorem a6J':CallR X (.builtin "len") (λxs H Q=>∃z,xs=[.str z]∧z.length≤sizeLine∧Q (.int z.length) H):=by intro pq s σ H xs us Q I r h;obtain⟨z,rfl,hz,q⟩:=h;obtain⟨u,rfl,t,rfl⟩:=vals1 r;have hn:=a7Z';exact len_str (by omega) ⟨.int z.length,H,I.tok _,⟨_,rfl⟩,q⟩
theorem a6K':CallR X (.type "list") (λxs H Q=>∃p ys,xs=[.ref p]∧(SqL X.K H p ys∨SqT X.K H p ys)∧∀l,H l=none→Q (.ref l) (upd H l (.lst ys))):=by
 intro pq s σ H xs us Q I r h;obtain⟨p,ys,rfl,hq,q⟩:=h;obtain⟨u,rfl,rx⟩:=vals1 r;cases rx
 have fin:∀(its:Lv),Vals ys its→ys.length≤sizeLine→∀(h':Heap) (c':Nat),(∀b o',s.heap.get? b=some o'→h'.get? b=some o')→
   h'.get? s.heap.objs.size=some {cls:=.type "list",dict:=none,data:=.seq its.toArray c',slots:= #[]}→EP X pq σ Q (.ref s.heap.objs.size) {s with heap:=h'}:=λits r' hz h' c' kp e=>
  ⟨.ref s.heap.objs.size,_,I.laid (t':=s.toks) kp (Zi _) (show ObjOk X.prog X.w _ h' _ (.lst ys)from⟨hz,its,c',r',e⟩),rfl,q _ (I.hok.fresh (Zi _))⟩
 rcases hq with hq|hq
 ·obtain⟨its,r',pl,hz⟩:=I.list hq;have hlen:=r'.length;obtain⟨o,ho,hc,n,hd⟩:=pl.isList;exact call_list_seq p (.inl rfl) ho hc hd (λh' c' kp e=>fin its r' hz h' c' kp e) (by simp only[Ze]<;>omega)
 ·obtain⟨its,r',pl,hz⟩:=I.tuple hq;have hlen:=r'.length;obtain⟨o,ho,hc,n,hd⟩:=pl;exact call_list_seq p (.inr rfl) ho hc hd (λh' c' kp e=>fin its r' hz h' c' kp e) (by simp only[Ze]<;>omega)
theorem a3v':CallR X (.type "tuple") (λxs H Q=>∃p ys,xs=[.ref p]∧((SqL X.K H p ys∧∀l,H l=none→Q (.ref l) (upd H l (.tup ys)))∨(SqT X.K H p ys∧Q (.ref p) H))):=by
 intro pq s σ H xs us Q I r h;obtain⟨p,ys,rfl,h⟩:=h;obtain⟨u,rfl,rx⟩:=vals1 r;cases rx;rcases h with⟨hq,q⟩| ⟨hq,q⟩
 ·obtain⟨its,r',pl,hz⟩:=I.list hq;have hlen:=r'.length;refine call_tuple_list pl.isList (λh' kp=>?_) (by simp only[Ze]<;>omega);have I1:Inv X pq σ H {s with heap:=h'}:=I.kept (t':=s.toks) kp
  have I2:Inv X pq σ (upd H h'.objs.size (.tup ys)) {s with heap:=h'.push {cls:=.type "tuple",data:=.seq its.toArray}}:=
   I1.laid (t':=s.toks) (λb o e=>Zc _ e) (Zi _) (show ObjOk X.prog X.w _ _ _ (.tup ys)from⟨hz,its,r',IsTup.new _ _,NoD.new _ _⟩)
  exact⟨.ref h'.objs.size,_,I2,rfl,q _ (I1.hok.fresh (Zi _))⟩
 ·obtain⟨its,r',pl,hz⟩:=I.tuple hq;exact call_tuple_same pl ⟨.ref p,H,I,rfl,q⟩
def tyV(K:Fg)(T:String)(x:V)(H:Hp):Prop:=match x with
 | .str _=>T="str"
 | .int _=>T="int"
 | .ref p=>(T="list"∧∃xs,SqL K H p xs)∨(T="tuple"∧∃o,K.lookup p=some o∧o.cls=.type "tuple"∧o.dict=none)∨
   (T="dict"∧((∃kvs,H p=some (.dK kvs))∨∃kvs,H p=some (.dT kvs)))∨(T="set"∧∃S n,H p=some (.set S n))
 |_=>False
theorem tyV_is{σ:St}{H:Hp}{T:String}{x:V}{v:Value}(I:Inv X pq σ H s)(r:RelV x v)(ty:tyV X.K T x H):
  s.TypeIs v T∧∀a,v=.ref a→∃ob,s.heap.get? a=some ob∧ob.dict=none:=by
 cases x with
 |str z=>obtain⟨t,rfl⟩:=r;cases(show T="str" from ty);exact⟨typeIs_str s z t,λ_ e=>nomatch e⟩
 |int i=>obtain⟨t,rfl⟩:=r;cases(show T="int" from ty);exact⟨typeIs_int s i t,λ_ e=>nomatch e⟩
 |ref p=>
  cases r;rcases ty with⟨rfl,xs,hq⟩| ⟨rfl,o,hk,hc,hd⟩| ⟨rfl,hk⟩| ⟨rfl,S,n,hk⟩
  ·obtain⟨its,_,pl,_⟩:=I.list hq;refine⟨pl.isList.typeIs,λa e=>?_⟩;cases e;obtain⟨o,n,e,c,hd,_⟩:=pl;exact⟨o,e,hd⟩
  ·refine⟨⟨o,I.kIn p o hk,hc⟩,λa e=>?_⟩;cases e;exact⟨o,I.kIn _ o hk,hd⟩
  ·have z:∃o,s.heap.get? p=some o∧o.ExactDict:=by
    rcases hk with⟨kvs,hk⟩| ⟨kvs,hk⟩
    ·obtain⟨_,_,_,_,o,_,_,e,ex,_⟩:=I.hok p _ hk;exact⟨o,e,ex⟩
    ·obtain⟨_,_,_,_,o,_,_,e,ex,_⟩:=I.hok p _ hk;exact⟨o,e,ex⟩
   obtain⟨o,e,ex⟩:=z;refine⟨⟨o,e,ex.1⟩,λa e2=>?_⟩;cases e2;exact⟨o,e,ex.2.1⟩
  ·obtain⟨o,_,_,_,e,ex,_⟩:=I.hok p _ hk;refine⟨⟨o,e,ex.1⟩,λa e2=>?_⟩;cases e2;exact⟨o,e,ex.2.1⟩
 |_=>exact False.elim ty
def tBM0(K:Fg)(T:String)(r:V→List V→Hp→VK→Prop)(to:TE):TE:=λσ H Q=>to σ H λx H1=>tyV K T x H1∧r x [] H1 Q
def tBM(K:Fg)(T:String)(r:V→List V→Hp→VK→Prop)(to:TE)(t:TA):TE:=λσ H Q=>to σ H λx H1=>tyV K T x H1∧t σ H1 λxs H2=>r x xs H2 Q
variable {o:Expr}{to:TE}{t:TA}{cpos:Pos}{T id:String}{r:V→List V→Hp→VK→Prop}
theorem pe_bm0(pa:PlainAttrs T)(slot:Slot T name id)(hty:typeOf (.builtin id)=pure (.type "method_descriptor"))(hm:MtR X id r)(ho:PE X o to)
  (hbase:attributeBase o name X.env (eval o X.env)=eval o X.env:=by rfl) (hline:(apos.endLine==cpos.line)=true:=by rfl):PE X (.Call (.Attribute o name apos) [] [] cpos) (tBM0 X.K T r to):=by
 intro pq s σ H Q I h;refine wpAny_Call_method0_late hbase hline (thn (ho pq s σ H _ I h) λv s1 ⟨x,H1,I1,r1,ty,q1⟩=>?_);obtain⟨h1,h2⟩:=tyV_is I1 r1 ty;exact⟨T,id,pa,slot,hty,h1,h2,Calls.callWith_builtin rfl (PySem.evalArgs_none (hm pq s1 σ H1 x [] v [] Q I1 r1 .nil q1))⟩
theorem pe_bm(pa:PlainAttrs T)(slot:Slot T name id)(hty:typeOf (.builtin id)=pure (.type "method_descriptor"))(hm:MtR X id r)(ho:PE X o to)(ha:PA X (e::es) t)
  (hbase:attributeBase o name X.env (eval o X.env)=eval o X.env:=by rfl)
  (hfew:((backTo cpos (starEach (e::es) X.env)).all (λx=> !x.1)&&(backToKw cpos (keywordEach [] X.env)).all (λx=>x.1.isSome)
   &&decide ((e::es).length+([]:List Keyword).length+(if([]:List Keyword).isEmpty then 0 else 1)<30))=true:=by rfl)
  (hline:(apos.endLine==cpos.line)=true:=by rfl) (hs:starEach (e::es) X.env=(false,eval e X.env)::starEach es X.env:=by rfl) (hplain:(backTo cpos (starEach es X.env)).any (·.1)=false:=by rfl):
  PE X (.Call (.Attribute o name apos) (e::es) [] cpos) (tBM X.K T r to t):=by
 intro pq s σ H Q I h;refine wpAny_Call_method_late hbase hfew hline rfl (thn (ho pq s σ H _ I h) λv s1 ⟨x,H1,I1,r1,ty,q1⟩=>?_);obtain⟨h1,h2⟩:=tyV_is I1 r1 ty;refine⟨T,id,pa,slot,hty,h1,h2,?_⟩;have hA:=ha cpos pq s1 σ H1 _ I1 q1;rw[hs]at hA⊢;refine Calls.callWith_builtin (by show(false||(backTo cpos (starEach es X.env)).any (·.1))=false;rw[hplain]<;>rfl) (Calls.evalArgs_plain ?_);exact thn hA λus s2 ⟨vs,H2,I2,r2,q2⟩=>hm pq s2 σ H2 x vs v us Q I2 r1 r2 q2
end
def MtM(X:Cx)(id:String)(r:V→List V→Hp→VK→Prop):Prop:=
 ∀(pq:Lp) (s:Shared) (σ:St) (H:Hp) (x:V) (xs:List V) (v:Value) (us:Lv) (Q:VK),Inv X pq σ H s→RelV x v→Vals xs us→r x xs H Q→
  wpAny (model X.prog X.w) X.A (call (.builtin id) (v::us)) (EP X pq σ Q) X.xe s
theorem Vals.un{x:V}{xs:List V}(h:Vals (x::xs) us):∃u r,us=u::r∧RelV x u∧Vals xs r:=by
 cases h with
 |cons r t=>exact⟨_,_,rfl,r,t⟩
theorem Vals.nul(h:Vals [] us):us=[]:=by cases h;rfl
theorem Vals.one{x:V}(h:Vals [x] us):∃u,us=[u]∧RelV x u:=by obtain⟨u,r,rfl,h1,h2⟩:=h.un;cases h2.nul;exact⟨u,rfl,h1⟩
theorem Vals.two{x y:V}(h:Vals [x,y] us):∃u v,us=[u,v]∧RelV x u∧RelV y v:=by obtain⟨u,r,rfl,h1,h2⟩:=h.un;obtain⟨v,rfl,h3⟩:=h2.one;exact⟨u,v,rfl,h1,h3⟩
theorem Vals.zero:∀{us:Lv},Vals [] us→us=[]
 |_,.nil=>rfl
theorem Vals.dropLast{xs:List V}(h:Vals xs us):Vals xs.dropLast us.dropLast:=by
 induction h with
 |nil=>exact .nil
 |cons r t ih=>
  cases t with
  |nil=>exact .nil
  |cons q t'=>exact .cons r ih
theorem Vals.eraseIdx:∀{xs:List V} {us:Lv} (i:Nat),Vals xs us→Vals (xs.eraseIdx i) (us.eraseIdx i)
 |_,_,_,.nil=>.nil
 |_,_,0,.cons _ t=>t
 |_,_,i+1,.cons r t=>.cons r (Vals.eraseIdx i t)
theorem Vals.rep{xs:List V}(h:Vals xs us):∀k:Nat,Vals (List.replicate k xs).flatten (List.replicate k us).flatten
 |0=>.nil
 |k+1=>by rw[List.replicate_succ,List.replicate_succ,Z0,Z0];exact Vals.append h (Vals.rep h k)
theorem a8N'(l:List α):l.eraseIdx (l.length-1)=l.dropLast:=by
 induction l with
 |nil=>rfl
 |cons a r ih=>
  cases r with
  |nil=>rfl
  |cons b r=>
   have e:(a::b::r).length-1=((b::r).length-1)+1:=by have h1:(a::b::r).length=r.length+2:=rfl;have h2:(b::r).length=r.length+1:=rfl;omega
   rw[e,List.eraseIdx_cons_succ,ih]
   all_goals rfl
theorem a7r'{α:Type}:∀(l:List α) (i:Nat),(l.eraseIdx i).length≤l.length
 | [],_=>Zi _
 |_::_,0=>Nat.le_succ _
 |_::r,i+1=>Nat.succ_le_succ (a7r' r i)
theorem a7s'(its:Lv):∀(k:Nat) (acc:Lv),
  List.foldl (λx1 x2=>x1++x2) acc.toArray (List.replicate k its.toArray)=(acc++(List.replicate k its).flatten).toArray
 |0,acc=>by simp
 |k+1,acc=>by
  have e:acc.toArray++its.toArray=(acc++its).toArray:=by simp
  have e2:(acc++its)++(List.replicate k its).flatten=acc++(List.replicate (k+1) its).flatten:=by rw[List.replicate_succ,Z0,List.append_assoc]
  rw[←e2,←a7s' its k (acc++its),←e,List.replicate_succ,List.foldl_cons]
section
variable {X:Cx}{σ:St}{H:Hp}{l b:Addr}{xs ys zs:List V}
theorem Inv.lset{its its':Lv}{n:Nat}{f:Av→Av}{t':Nat}(I:Inv X pq σ H s)(hH:H l=some (.lst xs))
  (e:s.heap.get? l=some {cls:=.type "list",data:=.seq its.toArray n}) (hf:f its.toArray=its'.toArray) (hv:Vals ys its') (hz:ys.length≤sizeLine):
  Inv X pq σ (upd H l (.lst ys)) {s with heap:=s.heap.update l (Obj.mapSeq f),toks:=t'}:=by
 have q:=PySem.IsL.update e f;rw[hf]at q;refine I.write (x:=l) (e:=l) (by rw[hH];exact trivial) (.inl rfl) (λb' u hb hu=>(ZW s.heap (Obj.mapSeq f) (Ne.symm hb)).trans hu) ⟨_,q⟩ ?_;exact⟨hz,its',_,hv,q⟩
theorem Inv.lnew{t':Nat}(I:Inv X pq σ H s)(hv:Vals ys its)(hz:ys.length≤sizeLine):
  Inv X pq σ (upd H s.heap.objs.size (.lst ys)) {s with heap:=s.heap.push {cls:=.type "list",data:=.seq its.toArray},toks:=t'}:=
 I.laid (λ_ _ q=>Zc _ q) (Zi _) ⟨hz,its,0,hv,Zk _ rfl⟩
theorem Inv.fresh(I:Inv X pq σ H s):H s.heap.objs.size=none:=I.hok.fresh (Zi _)
theorem Inv.lstM(I:Inv X pq σ H s)(hH:H l=some (.lst xs)):xs.length≤sizeLine∧∃(its:Lv) (n:Nat),Vals xs its∧xs.length=its.length∧s.heap.get? l=some {cls:=.type "list",data:=.seq its.toArray n}:=by obtain⟨z,its,n,r,e⟩:=I.hok l _ hH;exact⟨z,its,n,r,r.length,e⟩
theorem a8O'(h:n≤sizeLine):Builtin.List.listTooLong n=false:=by unfold Builtin.List.listTooLong;exact ZC (by omega)
end
section
variable {X:Cx}
def rAppend:V→List V→Hp→VK→Prop:=λx vs H Q=>∃l xs y,x=.ref l∧vs=[y]∧H l=some (.lst xs)∧xs.length<sizeLine∧Q .non (upd H l (.lst (xs++[y])))
theorem a7t':MtM X "list.append" rAppend:=by intro pq s σ H x vs v us Q I rx rv h;obtain⟨l,xs,y,rfl,rfl,hH,hz,q⟩:=h;cases rx;obtain⟨u,rfl,ru⟩:=rv.one;obtain⟨z,its,n,r,hl,e⟩:=I.lstM hH;refine call_meets F.slot_list_append ⟨_,e,rfl⟩ F.entry_list_append (F.args_list_append_2 _ _) (PySem.list_append l its.toArray n u (by rw[Ze];omega)) ⟨e,?_⟩;refine⟨.non,_,I.lset (its':=its++[u]) hH e (by simp) (r.append (.cons ru .nil)) ?_,rfl,q⟩;rw[Zt,List.length_singleton];omega
def rExtend:V→List V→Hp→VK→Prop:=λx vs H Q=>∃l b xs zs,x=.ref l∧vs=[.ref b]∧H l=some (.lst xs)∧H b=some (.lst zs)∧xs.length+zs.length≤sizeLine∧Q .non (upd H l (.lst (xs++zs)))
theorem b0t':MtM X "list.extend" rExtend:=by
 intro pq s σ H x vs v us Q I rx rv h;obtain⟨l,b,xs,zs,rfl,rfl,hH,hB,hz,q⟩:=h;cases rx;obtain⟨u,rfl,ru⟩:=rv.one;cases ru;obtain⟨z,its,n,r,hl,e⟩:=I.lstM hH;obtain⟨z2,its2,n2,r2,hl2,e2⟩:=I.lstM hB;have hsz:its.toArray.size+its2.toArray.size≤sizeLine:=by rw[Ze,Ze];omega
 have hlong:¬(!its.toArray.isEmpty&&Builtin.List.listTooLong (its.toArray.size+its2.toArray.size))=true:=by rw[a8O' hsz,Bool.and_false];exact ZS
 refine call_meets F.slot_list_extend ⟨_,e,rfl⟩ F.entry_list_extend (F.args_list_extend_2 _ _)
  (AutoSeq1.list_extend_list_list_0 l its.toArray n b its2.toArray n2 hlong (by rw[Ze];omega) (by omega)) ⟨e,e2,?_⟩
 refine⟨.non,_,I.lset (its':=its++its2) hH e (by simp) (r.append r2) ?_,rfl,q⟩;rw[Zt];omega
def rPop:V→List V→Hp→VK→Prop:=λx vs H Q=>∃l xs y,x=.ref l∧vs=[]∧H l=some (.lst xs)∧xs[xs.length-1]?=some y∧Q y (upd H l (.lst xs.dropLast))
theorem mt_pop:MtM X "list.pop" rPop:=by
 intro pq s σ H x vs v us Q I rx rv h;obtain⟨l,xs,y,rfl,rfl,hH,hy,q⟩:=h;cases rx;have hus:=rv.zero;subst hus;obtain⟨z,its,n,r,hl,e⟩:=I.lstM hH;obtain⟨u,hu,ru⟩:=r.get hy
 have hy':its.toArray[its.toArray.size-1]?=some u:=by show its.toArray[its.length-1]?=some u;rw[←Array.getElem?_toList,←hl];exact hu
 refine call_meets F.slot_list_pop ⟨_,e,rfl⟩ F.entry_list_pop (F.args_list_pop_1 _) (MeetsSeq.list_pop_last l its.toArray n u hy' (by rw[Ze];omega)) ⟨e,?_⟩;refine⟨y,_,I.lset (its':=its.dropLast) hH e ?_ r.dropLast ?_,ru,q⟩
 ·show its.toArray.eraseIdxIfInBounds (its.toArray.size-1)=its.dropLast.toArray;rw[Ze,List.eraseIdxIfInBounds_toArray,a8N']
 ·rw[List.length_dropLast];omega
def rPopAt:V→List V→Hp→VK→Prop:=λx vs H Q=>∃l xs i k y,x=.ref l∧vs=[.int i]∧H l=some (.lst xs)∧-(2^63)≤i∧i<2^63∧seqIndex? i xs.length=some k∧xs[k]?=some y∧Q y (upd H l (.lst (xs.eraseIdx k)))
theorem b2m':MtM X "list.pop" rPopAt:=by
 intro pq s σ H x vs v us Q I rx rv h;obtain⟨l,xs,i,k,y,rfl,rfl,hH,h1,h2,hk,hy,q⟩:=h;cases rx;obtain⟨u,rfl,ru⟩:=rv.one;obtain⟨t,rfl⟩:=ru;obtain⟨z,its,n,r,hl,e⟩:=I.lstM hH;obtain⟨w,hw,rw'⟩:=r.get hy
 refine call_meets F.slot_list_pop ⟨_,e,rfl⟩ F.entry_list_pop (F.args_list_pop_2 _ _)
  (MeetsSeq.list_pop_at l its.toArray n i t k w (fitsIndex_both h1 h2) (by rw[Ze,←hl];exact hk) (by rw[←Array.getElem?_toList];exact hw) (by rw[Ze];omega)) ⟨e,?_⟩
 refine⟨y,_,I.lset (its':=its.eraseIdx k) hH e ?_ (r.eraseIdx k) ?_,rw',q⟩
 ·show its.toArray.eraseIdxIfInBounds k=(its.eraseIdx k).toArray;rw[List.eraseIdxIfInBounds_toArray]
 ·have:=a7r' xs k;omega
def rCat:R2:=λx y H Q=>∃l b xs zs,x=.ref l∧y=.ref b∧H l=some (.lst xs)∧H b=some (.lst zs)∧xs.length+zs.length≤sizeLine∧∀p,H p=none→Q (.ref p) (upd H p (.lst (xs++zs)))
theorem op_cat:OpR X (binaryOp .Add) rCat:=by
 intro pq s σ H x y v u Q I rx ry h;obtain⟨l,b,xs,zs,rfl,rfl,hH,hB,hz,q⟩:=h;cases rx;cases ry;obtain⟨z,its,n,r,hl,e⟩:=I.lstM hH;obtain⟨z2,its2,n2,r2,hl2,e2⟩:=I.lstM hB;refine PySem.P.add_list e e2 ?_ (by rw[Ze,Ze];omega);have ea:its.toArray++its2.toArray=(its++its2).toArray:=by simp
 rw[ea];exact⟨.ref _,_,I.lnew (t':=s.toks) (r.append r2) (by rw[Zt];omega),rfl,q _ I.fresh⟩
def rRep:R2:=λx y H Q=>∃l k xs,x=.ref l∧y=.int k∧H l=some (.lst xs)∧-(2^63)≤k∧k<2^63∧xs.length*k.toNat≤sizeLine∧
 ∀p,H p=none→Q (.ref p) (upd H p (.lst (List.replicate k.toNat xs).flatten))
theorem len_rep(xs:List α)(k:Nat):(List.replicate k xs).flatten.length=k*xs.length:=by
 induction k with
 |zero=>simp
 |succ k ih=>rw[List.replicate_succ,Z0,Zt,ih,Nat.succ_mul,Nat.add_comm]
theorem op_rep:OpR X (binaryOp .Mult) rRep:=by
 intro pq s σ H x y v u Q I rx ry h;obtain⟨l,k,xs,rfl,rfl,hH,h1,h2,hz,q⟩:=h;cases rx;obtain⟨t,rfl⟩:=ry;obtain⟨z,its,n,r,hl,e⟩:=I.lstM hH;have hlen:its.toArray.size*k.toNat≤sizeLine:=by rw[Ze,←hl];exact hz
 have hcap:¬its.toArray.size*k.toNat>(2^63-1)/8:=by
  have:(sizeLine:Nat)≤(2^63-1)/8:=by decide
  omega
 have hfit:¬(!Builtin.List.listFitsIndex k)=true:=by rw[fitsIndex_both h1 h2];exact ZS
 have hlong:¬Builtin.List.listTooLong (its.toArray.size*k.toNat)=true:=by rw[a8O' hlen];exact ZS
 have hnew:List.foldl (λx1 x2=>x1++x2) #[] (List.replicate (if its.toArray.isEmpty=true then 0 else k.toNat) its.toArray)=(List.replicate k.toNat its).flatten.toArray:=by
  have f0:∀m:Nat,List.foldl (λx1 x2=>x1++x2) #[] (List.replicate m its.toArray)=(List.replicate m its).flatten.toArray:=λm=>by have:=a7s' its m [];rw[List.nil_append]at this;exact this
  rw[f0];cases its with
  |nil=>simp
  |cons a r'=>rw[if_neg (by simp)]
 refine wpAny_binaryOp_repeat_ref (T:="list") (U:="int") (by decide) ⟨_,e,rfl⟩ (λs'=>typeIs_int s' k t) noFill_list_mul F.fills_int_mul F.slot_int_rmul repeat_list F.slot_int_index.lookup
  (call_meets F.slot_int_rmul (typeIs_int s k t) F.entry_int_rmul (F.args_int_rmul_2 _ _) (int___rmul___int_list k t l its.toArray n)
   ⟨e,rfl,⟨_,e,rfl⟩,call_meets F.slot_list_mul ⟨_,e,rfl⟩ F.entry_list_mul (F.args_list_mul_2 _ _) (AutoListH.list___mul___list_int_3 l its.toArray n k t hfit hcap hlong) ⟨e,?_⟩⟩)
 rw[hnew];exact⟨.ref _,_,I.lnew (t':=s.toks) (r.rep k.toNat) (by rw[len_rep,Nat.mul_comm];exact hz),rfl,q _ I.fresh⟩
end
set_option maxRecDepth 100000 in
section
variable {X:Cx}
end
end L2
namespace Att
open PySem PySem.W PySem.Calls PyProof.Rows
theorem a4y'{P:Params}:∀(ns:Li) (vs:Lv),WellAll P h vs (ns.map WData.int)→IntsAre vs ns:=by
 intro ns
 induction ns with
 |nil=>intro vs w;rw[List.map_nil]at w;cases w;exact .nil
 |cons n ns ih=>
  intro vs w;rw[ZK]at w;cases w with
  |cons a b=>cases a;exact .cons _ _ (ih _ b)
theorem b0u'{l:OpenLaw}(hn:l.most=some n){P:Params}{args:List WData}{vals:Lv}
  (hpre:l.row.toRowW.claim.pre args=true) (hwl:WellAll P h vals args):
  ∃a vs ns,vals=[Value.ref a]∧args=[WData.list (ns.map WData.int)]∧h.get? a=some {cls:=.type "list",data:=.seq vs.toArray}∧IntsAre vs ns∧ns.length≤n:=by
 have hsh:WShape.hasAll [] args [.list .int]=true:=(pre_splitW hpre).1;have hc:l.pre.holds [] {args:=args}=true:=(pre_splitW hpre).2;obtain⟨d,r,rfl,h1,h2⟩:=hasAllW_cons hsh;obtain rfl:=hasAllW_nil h2;obtain⟨xs,rfl,h3⟩:=hasW_list h1;obtain⟨ns,rfl⟩:=items_int h3
 have hlen:ns.length≤n:=by
  unfold OpenLaw.pre at hc;have h4:(WTm.not (.lt (.lit (.int (n:Int))) (.len (.arg 0)))).holds [] {args:=[.list (ns.map .int)]}=true:=by have h4:=(holds_andW hc).1;rw[hn]at h4;exact h4
  have h5:=condW_of h4 (w_not (w_lt w_lit (w_len_list (w_arg rfl))));rw[Zw]at h5;refine Nat.le_of_not_lt λq=>?_;have q':(n:Int)<((ns.length:Nat):Int):=by omega
  first
   | (rw[ZI q']at h5;exact absurd h5 (by decide))
   | (simp at h5;omega)
 cases hwl with
 |cons w1 w2=>
  cases w2;cases w1 with
  |list ho hall=>exact⟨_,_,ns,rfl,rfl,ho,a4y' ns _ hall,hlen⟩
theorem b0v'(l:OpenLaw)(args:List WData):l.row.toRowW.claim.post args (.bool true) args=true:=
 postW_of (r:=l.row.toRowW) (X:=(true==true))
  (show WShape.has [] (.bool true) .bool=true by first|rfl|decide|simp[WShape.has,WShape.arms,WShape.armsAll])
  (show(WTm.eq .res (.lit (.bool true))).value [] {args:=args,res:=some (.bool true),after:=args}=some (.bool (true==true))from w_eq_bool (w_res rfl) w_lit) rfl
theorem a8a'{l:OpenLaw}{q:Program}{d:DefRec}
  (hn:l.most=some n) (hdf:d.params.defaults=[])
  (call:∀(w:World) (s₀ s₁:Shared) (mg mb:Mg) (fa:Addr) (o:Obj) (pm cd doc:Value) (a:Addr) (vs:Lv) (ns:Li),
   Ground q loose [] XP w s₀ mg mb s₁.heap→YP w s₁.heap→
   s₁.heap.get? fa=some o→o.data=.func (docDef d.name d.params d.body d.scope pm cd doc)→s₁.heap.CodeRec cd d.name→mg d.name=some (.ref fa)→
   s₁.heap.get? a=some {cls:=.type "list",data:=.seq vs.toArray}→IntsAre vs ns→ns.length≤n→s₁.gens= #[]→
   codeAny (model l.prog w) callerA (.call (.ref fa) ⟨[.ref a],[]⟩) (λr s'=>r=.ok (.ret (.bool true))∧OldK s₁.heap s'.heap∧s'.os=s₁.os∧AllBare s'.gens) s₁):
  WalkO q loose XP YP l.row.toRowW d [] (λf vs=>PySem.call f vs):=by
 intro w s₀ s₁ mg mb G Y fa o pm cd doc dV kV ho hd hcd hD hmg hg args vals as hpre hlay hrd hwl hlo;obtain rfl:dV=.none:=Dflts.none hD hdf;obtain rfl:kV=.none:=Dflts.noKw hD;obtain⟨a,vs,ns,rfl,rfl,hobj,hints,hlen⟩:=b0u' hn hpre hwl;refine enter_call (codeAny_mono (call w s₀ s₁ mg mb fa o pm cd doc a vs ns G Y ho (fd_plain hd) hcd hmg hobj hints hlen hg) λr s' hq=>?_);obtain⟨rfl,h2,h3,h4⟩:=hq;exact⟨.inl ⟨.bool true,.bool true,[],rfl,λ_=>rfl,.bool true,b0v' l _,λ_=>⟨List.Pairwise.nil,λ_ hm=>(nomatch hm)⟩⟩,h2,h3,h4⟩
section
variable {K:Frag}
end
end Att
namespace L2
theorem a7u':∀{vs:Lv} {ns:Li},IntsAre vs ns→Vals (ns.map V.int) vs
 |_,_,.nil=>.nil
 |_,_,.cons n t h=>.cons ⟨t,rfl⟩ (a7u' h)
def Only(H:Hp):Prop:=∀b,H b=none∨∃o xs,H b=some (.frz o (.lst xs))
theorem b2n'{P:Program}{w:World}{mb:Mg}{CX:CXT}{k:Nat}{fa:Addr}{fd:FuncData}{x:Str}{sp:Sp}{s₁:Shared}{vs:Lv}{ns:Li}
  (KX:K.In s₁.heap) (hns:s₁.heap.Ns mainGlobals mg) (hb:s₁.heap.Ns builtinsNs mb) (hbb:∀x:Str,x≠"__name__"→mb x=bootBuiltins x) (hlim:s₁.heap.NoLimit) (hg:s₁.gens= #[])
  (ha:s₁.heap.get? a=some {cls:=.type "list",data:=.seq vs.toArray}) (hi:IntsAre vs ns) (hl:ns.length≤sizeLine) (hr:Room k callerA)
  (F:∀base:Heap,K.In base→base.Ns mainGlobals mg→FnOk P w K mg base CX k fa fd [x] sp) (hbind:∀(s:Shared) (u:Value),BindsTo s fd ⟨[u],[]⟩ [(x,u)])
  (hsp:∀H:Hp,Only H→SqL K H a (ns.map V.int)→sp [.ref a] H (λv _=>v=.bl true) λ_ _ _=>False)
  (hCX:∀H e s',CX [] H s₁ (λ_ _ _=>False) e s'→False):
  codeAny (model P w) callerA (.call (.ref fa) ⟨[.ref a],[]⟩) (λr s'=>r=.ok (.ret (.bool true))∧OldK s₁.heap s'.heap∧s'.os=s₁.os∧AllBare s'.gens) s₁:=by
 have rv:=a7u' hi;have lenV:=hi.length
 have core:∀H:Hp,Only H→SqL K H a (ns.map V.int)→HOk P w H s₁.heap→(∀b,H b≠none→b=a)→(H a≠none→K.lookup a=none)→
   codeAny (model P w) callerA (.call (.ref fa) ⟨[.ref a],[]⟩) (λr s'=>r=.ok (.ret (.bool true))∧OldK s₁.heap s'.heap∧s'.os=s₁.os∧AllBare s'.gens) s₁:=by
  intro H hO hS hok hA hK;have base_of:∀{b:Addr} {o:Obj},s₁.heap.get? b=some o→H b=none→(hidT s₁.heap H).get? b=some o:=λe n=>b1X' e n
  have noA:∀{b:Addr} {o:Obj} {es:Array DictEntry} {ep:Nat},s₁.heap.get? b=some o→o.data=.dict es ep→H b=none:=λ{b o es ep} e d=>by
   cases q:H b with
   |none=>rfl
   |some u=>have e':b=a:=hA b (by rw[q];simp);subst e';rw[ha]at e;cases e;have d':Data.seq vs.toArray _=Data.dict es ep:=d;cases d'
  have nsK:∀{b:Addr} {m:Mg},s₁.heap.Ns b m→(hidT s₁.heap H).Ns b m:=λ{b m} ⟨o,es,ep,e,d,r⟩=>⟨o,es,ep,base_of e (noA e d),d,r⟩
  have hKb:K.In (hidT s₁.heap H):=λb o e=>base_of (KX b o e) (by
   cases q:H b with
   |none=>rfl
   |some u=>have e':b=a:=hA b (by rw[q];simp);subst e';rw[hK (by rw[q];simp)]at e;cases e)
  have hM:Mod K mg (hidT s₁.heap H):=⟨hKb,nsK hns,⟨mb,nsK hb,hbb⟩,let⟨mc,h1,h2⟩:=hlim;⟨mc,nsK h1,h2⟩⟩;have e0:Env0 P w K mg (hidT s₁.heap H) callerA [] s₁ H:=⟨rfl,hM,λb o e=>of_hidT e,Nat.le_of_eq (b0k' _ _),trivial,λb hb=>absurd (show b∈([]:La)from hb) (by simp),hok,.of_eq hg⟩;refine codeAny_mono ((F _ hKb (nsK hns)).run callerA [] s₁ H ⟨[.ref a],[]⟩ [.ref a] [.ref a] _ _ hr e0 (hbind s₁ (.ref a)) (.cons rfl .nil) (hsp H hO hS)) λr s' h=>?_;cases r with
  |error e=>exact(hCX H e s' h).elim
  |ok fl=>
   cases fl with
   |next=>exact False.elim h
   |brk=>exact False.elim h
   |cont=>exact False.elim h
   |ret u=>
    obtain⟨v,H',os,bare,un,hok',r',q⟩:=h;have q':v=.bl true:=q;subst q';obtain rfl:u=Value.bool true:=r';refine⟨rfl,OldK.of_keep λb o e=>?_,os,bare⟩;cases q:H b with
    |none=>exact un.keep b o e q (by intro z;exact absurd (show b∈([]:La)from z) (by simp)) (by simp)
    |some u=>
     rcases hO b with z| ⟨ob,xs,z⟩
     ·rw[q]at z;cases z
     ·have z2:=un.frzs b ob _ z;obtain⟨e1,_⟩:=hok b _ z;obtain⟨e2,_⟩:=hok' b _ z2;rw[e]at e1;cases e1;exact e2
 cases hk:K.lookup a with
 |some o=>have e:=KX a o hk;rw[ha]at e;cases e;refine core (λ_=>none) (λ_=>.inl rfl) (.inr ⟨_,vs.toArray,_,hk,rfl,rfl,rfl,by rw[Ze,lenV];exact hl,by simpa using rv⟩) (λb u z=>by have z':(none:Option HO)=some u:=z;cases z') (λb z=>absurd rfl z) λz=>absurd rfl z
 |none=>
  refine core (λb=>if b=a then some (.frz {cls:=.type "list",data:=.seq vs.toArray} (.lst (ns.map V.int)))else none) (λb=>?_) (.inl (.inr ⟨{cls:=.type "list",data:=.seq vs.toArray},if_pos rfl⟩)) (λb u z=>?_) (λb z=>?_) λ_=>hk
  ·by_cases hb:b=a
   ·exact .inr ⟨_,_,if_pos hb⟩
   ·exact .inl (if_neg hb)
  ·by_cases hb:b=a
   ·have z':=(if_pos hb).symm.trans z;cases z';subst hb;exact⟨ha,by rw[Zw];exact hl,vs,_,rv,ha⟩
   ·have z':=(if_neg hb).symm.trans z;cases z'
  ·by_cases hb:b=a
   ·exact hb
   ·exact absurd (if_neg hb) z
theorem walk_of{l:PySem.W.OpenLaw}{q:Program}{d:DefRec}{K:Params→Fg}{CX:World→CXT}{sp:World→Sp}{x:Str}
  (hn:l.most=some n) (hn2:n≤sizeLine) (hdf:d.params.defaults=[]) (hr:Room k callerA)
  (hY:∀(w:World) (h:Heap),YP w h→(K w.params).In h)
  (F:∀(w:World) (mg:Mg) (fa:Addr) (h:Heap),(K w.params).In h→h.Ns mainGlobals mg→mg d.name=some (.ref fa)→
   ∃fd:FuncData,(∀(s:Shared) (u:Value),BindsTo s fd ⟨[u],[]⟩ [(x,u)])∧
    ∀base:Heap,(K w.params).In base→base.Ns mainGlobals mg→FnOk l.prog w (K w.params) mg base (CX w) k fa fd [x] (sp w))
  (hsp:∀(w:World) (H:Hp) (a:Addr) (ns:Li),ns.length≤n→Only H→SqL (K w.params) H a (ns.map V.int)→sp w [.ref a] H (λv _=>v=.bl true) λ_ _ _=>False)
  (hCX:∀(w:World) (H:Hp) (s:Shared) (e:Value) (s':Shared),CX w [] H s (λ_ _ _=>False) e s'→False):
  PySem.W.WalkO q loose XP YP l.row.toRowW d [] (λf vs=>PySem.call f vs):=by
 refine Att.a8a' hn hdf λw s₀ s₁ mg mb fa o pm cd doc a vs ns G Y ho hd hcd hmg hobj hints hlen hg=>?_;have KX:=hY w _ Y;obtain⟨fd,hb,hF⟩:=F w mg fa _ KX G.T.g hmg;exact b2n' KX G.T.g G.T.b G.T.builtins G.T.nolimit hg hobj hints (ZT hlen hn2) hr hF hb (λH hO hS=>hsp w H a ns hlen hO hS) λH e s'=>hCX w H s₁ e s'
noncomputable def a4E'(s:Stmt):Arguments:=match s with
 | .FunctionDef _ a _ _ _ _ _ _ _ _=>a
 |_=>{posonlyargs:=[],args:=[],vararg:=none,kwonlyargs:=[],kw_defaults:=[],kwarg:=none,defaults:=[]}
noncomputable def a1c'(s:Stmt):List Stmt:=match s with
 | .FunctionDef _ _ b _ _ _ _ _ _ _=>b
 |_=>[]
noncomputable def a0x'(s:Stmt):Scope:=match s with
 | .FunctionDef _ _ _ _ _ _ sc _ _ _=>sc
 |_=>{kind:=.function,names:=[],isGenerator:=false,isCoroutine:=false}
abbrev CX0:CXT:=λ_ _ _ _ _ _=>False
abbrev E0:XK:=λ_ _ _=>False
structure Fun (K:Fg)(x qual:Str)(st:Stmt)(f:Addr)(fd:FuncData):Prop where
 ex:∃(oc:Value) (od:Option Addr) (kV doc pm:Value) (an:Option Addr) (cdv ct:Value) (osl:Array (Ov)),
  fd=PySem.W.fnOf x qual (a4E' st) (a1c' st) (a0x' st) .none kV doc pm an cdv ct∧K.lookup f=some ⟨oc,od,.func fd,osl⟩∧PySem.W.codeIn K cdv qual=true
 kp:PySem.W.keepIn K (.ref f)=true
section
variable {P:Program}
theorem Fun.ok{x:Str}{fd:FuncData}{sp:Sp}(F:Fun K x qual st f fd)(S:FnScope N ps (a0x' st))(len:∀vs H Q E,sp vs H Q E→vs.length=ps.length)
  (hbody:∀(cdv:Value) (A:Around) (outer:List Env) (s:Shared) (H:Hp) (vs:List V) (Q:VK) (E:XK),Room k (A.deeper (envOfC qual (a0x' st) s.heap.objs.size f cdv))→sp vs H Q E→
   ∃t,PSs (cxOf CX0 P w K mg base N qual (a0x' st) f cdv A outer s H E).nox (a1c' st) t∧t {nx:=λ_ H'=>Q .non H',rt:=Q} (start N vs) H):FnOk P w K mg base CX0 (k+1) f fd ps sp:=by
 obtain⟨oc,od,kV,doc,pm,an,cdv,ct,osl,rfl,lk,hcd⟩:=F.ex;refine fn_of lk hcd S len λA outer s H vs Q E hr hsp=>?_;obtain⟨t,h,q⟩:=hbody cdv A outer s H vs Q E hr hsp;exact⟨t,h.nox,q⟩
theorem Fun.binds{x:Str}{fd:FuncData}(F:Fun K x qual st f fd)
  (h:∀(kV doc pm:Value) (an:Option Addr) (cdv ct:Value) (us:Lv),us.length=ps.length→bindArgs (PySem.W.fnOf x qual (a4E' st) (a1c' st) (a0x' st) .none kV doc pm an cdv ct) ⟨us,[]⟩=pure (ps.zip us)):Binds K fd ps []:=by
 obtain⟨oc,od,kV,doc,pm,an,cdv,ct,osl,rfl,lk,hcd⟩:=F.ex;exact .all (h kV doc pm an cdv ct)
theorem fun_mk{x:Str}{an:Option Addr}{kV:Value}(l:K.lookup f=some ⟨oc,od,.func (PySem.W.fnOf x qual (a4E' st) (a1c' st) (a0x' st) .none kV doc pm an cdv ct),osl⟩)
  (c:PySem.W.codeIn K cdv qual=true) (k:PySem.W.keepIn K (.ref f)=true):Fun K x qual st f (PySem.W.fnOf x qual (a4E' st) (a1c' st) (a0x' st) .none kV doc pm an cdv ct):=⟨⟨oc,od,kV,doc,pm,an,cdv,ct,osl,rfl,l,c⟩,k⟩
end
section
variable {X:Cx}
end
end L2
variable {xs ys:List L2.V}{H H' H1 H0:L2.Hp}{o:L2.HO}{X:L2.Cx}{σ σ':L2.St}{v v':L2.V}{ta te to:L2.TE}{tb:L2.St→L2.Hp→(L2.St→L2.Hp→Prop)→Prop}{tc:L2.TT}{g:L2.TG}{wi:L2.TI}{CX:L2.CXT}{sp:L2.Sp}{J:L2.It}{B:La→L2.Hp→Prop}
namespace Py
theorem ex43{C:Prop}{a b c d:Sort _}{p q r:a→b→c→d→Prop}(h:∃x y z w,p x y z w∧q x y z w∧r x y z w)(k:∀x y z w,p x y z w→q x y z w→r x y z w→C):C:=by obtain⟨x,y,z,w,h1,h2,h3⟩:=h;exact k x y z w h1 h2 h3
theorem ex93{C:Prop}{a b c d e f g h i:Sort _}{p q r:a→b→c→d→e→f→g→h→i→Prop}(z:∃x1 x2 x3 x4 x5 x6 x7 x8 x9,p x1 x2 x3 x4 x5 x6 x7 x8 x9∧q x1 x2 x3 x4 x5 x6 x7 x8 x9∧r x1 x2 x3 x4 x5 x6 x7 x8 x9)(k:∀x1 x2 x3 x4 x5 x6 x7 x8 x9,p x1 x2 x3 x4 x5 x6 x7 x8 x9→q x1 x2 x3 x4 x5 x6 x7 x8 x9→r x1 x2 x3 x4 x5 x6 x7 x8 x9→C):C:=by obtain⟨x1,x2,x3,x4,x5,x6,x7,x8,x9,h1,h2,h3⟩:=z;exact k x1 x2 x3 x4 x5 x6 x7 x8 x9 h1 h2 h3
theorem ex34{C:Prop}{a b c:Sort _}{p q r t:a→b→c→Prop}(h:∃x y z,p x y z∧q x y z∧r x y z∧t x y z)(k:∀x y z,p x y z→q x y z→r x y z→t x y z→C):C:=by obtain⟨x,y,z,h1,h2,h3,h4⟩:=h;exact k x y z h1 h2 h3 h4
inductive D where
 |non|bl (b:Bool)|int (i:Int)|str (x:Str)
 |tup (xs:List D)|lst (xs:List D)|ref (n:Nat)|scr (xs:List D)
 |fn (x:Str)|dct|ty (n:String)
 deriving Inhabited
abbrev Store:=List (List D)
structure GS where
 mg:Mg
 F:La
noncomputable def Frz(K:Fg)(H:Hp)(a:Addr)(vs:List V):Prop:=(∃o,H a=some (.frz o (.lst vs)))∨
 ∃(o:Obj) (its:Av) (n:Nat),K.lookup a=some o∧o.cls=.type "list"∧o.dict=none∧o.data=.seq its n∧its.size≤sizeLine∧Vals vs its.toList
theorem Frz.sq{vs:List V}(h:Frz K H a vs):SqL K H a vs:=by
 rcases h with⟨o,h⟩|h
 ·exact .inl (.inr ⟨o,h⟩)
 ·exact .inr h
section
variable (K:Fg)(mg:GS)(μ:La)(H:Hp)
mutual
def Rep:D→V→Prop
 | .non,v=>v=.non
 | .bl b,v=>v=.bl b
 | .int i,v=>v=.int i
 | .str x,v=>v=.str x
 | .tup ds,v=>∃a vs,v=.ref a∧SqT K H a vs∧RepL ds vs
 | .lst ds,v=>∃a vs,v=.ref a∧H a=some (.lst vs)∧(a∉μ∧a∉mg.F)∧RepL ds vs
 | .scr ds,v=>∃a vs,v=.ref a∧Frz K H a vs∧RepL ds vs
 | .ref n,v=>∃a,v=.ref a∧μ[n]?=some a
 | .fn x,v=>∃a,v=.ref a∧mg.mg x=some (.ref a)
 | .dct,v=>∃a,v=.ref a∧H a=some (.dK [])
 | .ty n,v=>v=.ty n
def RepL:List D→List V→Prop
 | [],vs=>vs=[]
 |d::ds,vs=>∃w ws,vs=w::ws∧Rep d w∧RepL ds ws
end
end
structure SOk (K:Fg)(mg:GS)(μ:La)(S:Store)(H:Hp):Prop where
 live:∀a∈mg.F,∃o,H a=some o
 len:μ.length=S.length
 nd:μ.Nodup
 at_:∀(n:Nat) (a:Addr) (ds:List D),μ[n]?=some a→S[n]?=some ds→∃vs,H a=some (.lst vs)∧RepL K mg μ H ds vs
structure Ext (μ:La)(H:Hp)(μ':La)(H':Hp):Prop where
 pre:∃r,μ'=μ++r
 keep:∀a o,H a=some o→((∀xs,o≠.lst xs)∨a∉μ)→H' a=some o
 there:∀a o,H a=some o→∃o',H' a=some o'
 fresh:∀a∈μ',a∈μ∨H a=none
section
variable {mg:GS}{μ'':La}{H'':Hp}
theorem Ext.refl:Ext μ H μ H:=⟨⟨[],by simp⟩,λ_ _ h _=>h,λ_ o h=>⟨o,h⟩,λ_ h=>.inl h⟩
theorem Ext.trans(a:Ext μ H μ' H')(b:Ext μ' H' μ'' H''):Ext μ H μ'' H'':=by
 obtain⟨r,e⟩:=a.pre;obtain⟨r',e'⟩:=b.pre;refine⟨⟨r++r',by rw[e',e,List.append_assoc]⟩,λx o h c=>?_,λx o h=>?_,λx h=>?_⟩
 ·have h1:=a.keep x o h c;refine b.keep x o h1 ?_;rcases c with c|c
  ·exact .inl c
  ·refine .inr λz=>?_;rcases a.fresh x z with z|z
   ·exact c z
   ·rw[h]at z;cases z
 ·obtain⟨o1,h1⟩:=a.there x o h;exact b.there x o1 h1
 ·rcases b.fresh x h with h|h
  ·exact a.fresh x h
  ·refine .inr ?_;cases e:H x with
   |none=>rfl
   |some o=>obtain⟨o1,h1⟩:=a.there x o e;rw[h1]at h;cases h
theorem Ext.sqT{vs:List V}(x:Ext μ H μ' H')(h:SqT K H a vs):SqT K H' a vs:=by
 rcases h with(h| ⟨o,h⟩)|h
 ·exact .inl (.inl (x.keep _ _ h (.inl λ_ z=>by cases z)))
 ·exact .inl (.inr ⟨o,x.keep _ _ h (.inl λ_ z=>by cases z)⟩)
 ·exact .inr h
theorem Ext.frz{vs:List V}(x:Ext μ H μ' H')(h:Frz K H a vs):Frz K H' a vs:=by
 rcases h with⟨o,h⟩|h
 ·exact .inl ⟨o,x.keep _ _ h (.inl λ_ z=>by cases z)⟩
 ·exact .inr h
theorem Ext.lst{vs:List V}(x:Ext μ H μ' H')(h:H a=some (.lst vs))(ha:a∉μ):H' a=some (.lst vs)∧a∉μ':=by
 refine⟨x.keep _ _ h (.inr ha),λz=>?_⟩;rcases x.fresh a z with z|z
 ·exact ha z
 ·rw[h]at z;cases z
theorem Ext.get(x:Ext μ H μ' H')(h:μ[n]?=some a):μ'[n]?=some a:=by obtain⟨r,rfl⟩:=x.pre;rw[Zl (Zf.mp h).1];exact h
mutual
theorem Rep.mono(x:Ext μ H μ' H'):∀(d:D) (v:V),Rep K mg μ H d v→Rep K mg μ' H' d v
 | .non,_,h=>h
 | .bl _,_,h=>h
 | .int _,_,h=>h
 | .str _,_,h=>h
 | .tup ds,v,h=>by unfold Rep at h⊢;obtain⟨a,vs,e,q,r⟩:=h;exact⟨a,vs,e,x.sqT q,RepL.mono x ds vs r⟩
 | .lst ds,v,h=>by unfold Rep at h⊢;obtain⟨a,vs,e,q,n,r⟩:=h;exact⟨a,vs,e,(x.lst q n.1).1,⟨(x.lst q n.1).2,n.2⟩,RepL.mono x ds vs r⟩
 | .scr ds,v,h=>by unfold Rep at h⊢;obtain⟨a,vs,e,q,r⟩:=h;exact⟨a,vs,e,x.frz q,RepL.mono x ds vs r⟩
 | .ref n,v,h=>by unfold Rep at h⊢;obtain⟨a,e,q⟩:=h;exact⟨a,e,x.get q⟩
 | .fn y,v,h=>h
 | .ty y,v,h=>h
 | .dct,v,h=>by unfold Rep at h⊢;obtain⟨a,e,q⟩:=h;exact⟨a,e,x.keep _ _ q (.inl λ_ z=>by cases z)⟩
theorem RepL.mono(x:Ext μ H μ' H'):∀(ds:List D) (vs:List V),RepL K mg μ H ds vs→RepL K mg μ' H' ds vs
 | [],vs,h=>h
 |d::ds,vs,h=>by unfold RepL at h⊢;obtain⟨w,ws,e,r,q⟩:=h;exact⟨w,ws,e,Rep.mono x d w r,RepL.mono x ds ws q⟩
end
theorem RepL.length:∀{ds:List D} {vs:List V},RepL K mg μ H ds vs→ds.length=vs.length
 | [],vs,h=>by unfold RepL at h;subst h;rfl
 |d::ds,vs,h=>by unfold RepL at h;obtain⟨w,ws,rfl,r,q⟩:=h;simp[RepL.length q]
theorem RepL.get:∀{ds:List D} {vs:List V} {i:Nat} {d:D},RepL K mg μ H ds vs→ds[i]?=some d→∃v,vs[i]?=some v∧Rep K mg μ H d v
 | [],vs,i,d,h,e=>by simp at e
 |c::ds,vs,i,d,h,e=>by
  unfold RepL at h;obtain⟨w,ws,rfl,r,q⟩:=h;cases i with
  |zero=>simp at e;subst e;exact⟨w,rfl,r⟩
  |succ i=>simpa using RepL.get q (by simpa using e)
theorem RepL.of:∀{ds:List D} {vs:List V},ds.length=vs.length→(∀(i:Nat) d v,ds[i]?=some d→vs[i]?=some v→Rep K mg μ H d v)→RepL K mg μ H ds vs
 | [],[],_,_=>by unfold RepL;rfl
 | [],_::_,h,_=>by simp at h
 |_::_,[],h,_=>by simp at h
 |d::ds,v::vs,h,k=>by unfold RepL;exact⟨v,vs,rfl,k 0 d v rfl rfl,RepL.of (by simpa using h) λi d' v' h1 h2=>k (i+1) d' v' (by simpa using h1) (by simpa using h2)⟩
theorem RepL.nil:RepL K mg μ H [] []:=by unfold RepL;rfl
theorem RepL.cons{d:D}{ds:List D}{vs:List V}(h:Rep K mg μ H d v)(t:RepL K mg μ H ds vs):RepL K mg μ H (d::ds) (v::vs):=by unfold RepL;exact⟨v,vs,rfl,h,t⟩
theorem RepL.uncons{d:D}{ds:List D}{vs:List V}(h:RepL K mg μ H (d::ds) vs):∃v ws,vs=v::ws∧Rep K mg μ H d v∧RepL K mg μ H ds ws:=by unfold RepL at h;exact h
theorem RepL.append:∀{ds es:List D} {vs ws:List V},RepL K mg μ H ds vs→RepL K mg μ H es ws→RepL K mg μ H (ds++es) (vs++ws)
 | [],es,vs,ws,h,k=>by unfold RepL at h;subst h;exact k
 |d::ds,es,vs,ws,h,k=>by obtain⟨v,us,rfl,r,q⟩:=h.uncons;exact .cons r (RepL.append q k)
theorem RepL.take:∀{ds:List D} {vs:List V} (n:Nat),RepL K mg μ H ds vs→RepL K mg μ H (ds.take n) (vs.take n)
 | [],vs,n,h=>by unfold RepL at h;subst h;simpa using RepL.nil
 |d::ds,vs,0,h=>by simpa using RepL.nil
 |d::ds,vs,n+1,h=>by obtain⟨v,us,rfl,r,q⟩:=h.uncons;exact .cons r (RepL.take n q)
theorem RepL.drop:∀{ds:List D} {vs:List V} (n:Nat),RepL K mg μ H ds vs→RepL K mg μ H (ds.drop n) (vs.drop n)
 | [],vs,n,h=>by unfold RepL at h;subst h;simpa using RepL.nil
 |d::ds,vs,0,h=>h
 |d::ds,vs,n+1,h=>by obtain⟨v,us,rfl,r,q⟩:=h.uncons;exact RepL.drop n q
theorem RepL.set:∀{ds:List D} {vs:List V} (i:Nat) {d:D} {v:V},RepL K mg μ H ds vs→Rep K mg μ H d v→RepL K mg μ H (ds.set i d) (vs.set i v)
 | [],vs,i,_,_,h,_=>by unfold RepL at h;subst h;simpa using RepL.nil
 |d::ds,vs,0,_,_,h,k=>by obtain⟨v,us,rfl,r,q⟩:=h.uncons;exact .cons k q
 |d::ds,vs,i+1,_,_,h,k=>by obtain⟨v,us,rfl,r,q⟩:=h.uncons;exact .cons r (RepL.set i q k)
theorem Ext.laid{p:Addr}(hp:H p=none):Ext μ H μ (upd H p o):=
 ⟨⟨[],by simp⟩,λa u h _=>by rw[a0u' (a0m' h hp)];exact h,λa u h=>⟨u,by rw[a0u' (a0m' h hp)];exact h⟩,λ_ h=>.inl h⟩
theorem SOk.notin{S:Store}{p:Addr}(s:SOk K mg μ S H)(hp:H p=none):p∉μ:=λz=>by
 obtain⟨n,hn,e⟩:=List.mem_iff_getElem.mp z;have e1:μ[n]?=some p:=by rw[Zh hn,e]
 have e2:S[n]?=some (S[n]'(by rw[←s.len];exact hn)):=Zh _;obtain⟨vs,h,_⟩:=s.at_ n p _ e1 e2;rw[hp]at h;cases h
theorem SOk.notF{S:Store}{p:Addr}(s:SOk K mg μ S H)(hp:H p=none):p∉mg.F:=λz=>by obtain⟨o,h⟩:=s.live p z;rw[hp]at h;cases h
theorem SOk.laid{S:Store}{p:Addr}(s:SOk K mg μ S H)(hp:H p=none):SOk K mg μ S (upd H p o):=by refine⟨λa h=>(Ext.laid (μ:=μ) hp).there a _ (s.live a h).choose_spec,s.len,s.nd,λn a ds h1 h2=>?_⟩;obtain⟨vs,h,r⟩:=s.at_ n a ds h1 h2;exact⟨vs,by rw[a0u' (a0m' h hp)];exact h,RepL.mono (Ext.laid hp) _ _ r⟩
theorem Ext.boxed{p:Addr}(hp:H p=none):Ext μ H (μ++[p]) (upd H p o):=
 ⟨⟨[p],rfl⟩,λa u h _=>by rw[a0u' (a0m' h hp)];exact h,λa u h=>⟨u,by rw[a0u' (a0m' h hp)];exact h⟩,λa h=>by
  rcases ZF.mp h with h|h
  ·exact .inl h
  ·have:a=p:=by simpa using h
   subst this;exact .inr hp⟩
theorem SOk.boxed{S:Store}{p:Addr}{ds:List D}{vs:List V}(s:SOk K mg μ S H)(hp:H p=none)(r:RepL K mg μ H ds vs):
  SOk K mg (μ++[p]) (S++[ds]) (upd H p (.lst vs)):=by
 have np:=s.notin hp;refine⟨λa h=>(Ext.laid (μ:=μ) hp).there a _ (s.live a h).choose_spec,by simp[s.len],?_,λn a es h1 h2=>?_⟩
 ·rw[ZZ]
  exact⟨s.nd,by simp,λa ha b hb=>by
   have:b=p:=by simpa using hb
   subst this;intro z;subst z;exact np ha⟩
 ·by_cases hn:n<μ.length
  ·rw[Zl hn]at h1;rw[Zl (by rw[←s.len];exact hn)]at h2;obtain⟨ws,h,q⟩:=s.at_ n a es h1 h2;exact⟨ws,by rw[a0u' (a0m' h hp)];exact h,RepL.mono (Ext.boxed hp) _ _ q⟩
  ·have hl:=s.len;have e1:n=μ.length:=by have:=(Zf.mp h1).1;simp at this;omega
   subst e1;rw[Zp (Zi _)]at h1;rw[Zp (by omega)]at h2;simp[hl]at h1 h2;subst h1;subst h2;exact⟨vs,a0L',RepL.mono (Ext.boxed hp) _ _ r⟩
theorem Ext.wrote(ha:a∈μ)(h:H a=some (.lst xs)):Ext μ H μ (upd H a (.lst ys)):=by
 refine⟨⟨[],by simp⟩,λb o e c=>?_,λb o e=>?_,λ_ h=>.inl h⟩
 ·have:b≠a:=by
   rintro rfl;rw[h]at e;cases e;rcases c with c|c
   ·exact c _ rfl
   ·exact c ha
  rw[a0u' this];exact e
 ·by_cases z:b=a
  ·subst z;exact⟨_,a0L'⟩
  ·exact⟨o,by rw[a0u' z];exact e⟩
theorem SOk.wrote{S:Store}{ds:List D}{vs:List V}(s:SOk K mg μ S H)(hn:μ[n]?=some a)(h:H a=some (.lst xs))(r:RepL K mg μ H ds vs):
  SOk K mg μ (S.set n ds) (upd H a (.lst vs)):=by
 have ha:a∈μ:=Zn hn;have hl:=s.len;have hnl:n<S.length:=by have:=(Zf.mp hn).1;omega
 refine⟨λb hb=>(Ext.wrote (μ:=μ) (ys:=vs) ha h).there b _ (s.live b hb).choose_spec,by simp[hl],s.nd,λm b es h1 h2=>?_⟩;by_cases e:m=n
 ·subst e;rw[hn]at h1;cases h1;rw[ZV hnl]at h2;cases h2;exact⟨vs,a0L',RepL.mono (Ext.wrote ha h) _ _ r⟩
 ·rw[List.getElem?_set_ne (Ne.symm e)]at h2;obtain⟨ws,q,r'⟩:=s.at_ m b es h1 h2;have:b≠a:=by rintro rfl;exact e (L2_nodup s.nd h1 hn)
  exact⟨ws,by rw[a0u' this];exact q,RepL.mono (Ext.wrote ha h) _ _ r'⟩
where
 L2_nodup {l:La} (nd:l.Nodup) {i j:Nat} {x:Addr} (a:l[i]?=some x) (b:l[j]?=some x):i=j:=by obtain⟨h1,e1⟩:=Zf.mp a;obtain⟨h2,e2⟩:=Zf.mp b;exact(List.getElem_inj nd).mp (e1.trans e2.symm)
end
end Py
variable {ds L:List Py.D}{T S S1 S' U:Py.Store}{d:Py.D}{Γ:Str→Option Py.D}{x5 x6 x2 x3:Option Py.D}
namespace Py
open PySem.Sem (wp)
open PySem.Builtin
end Py
namespace Py
structure Exc where
 cls:Str
 fs:List D
inductive Res (α:Type) where
 |ok (a:α) (S:Store)
 |err (x:Exc) (S:Store)
 |fail
abbrev big:Nat:=16777216
theorem a6L':sizeLine=big:=sizeLine_eq
def Want(K:Fg)(mg:GS)(μ:La)(H:Hp)(Q:VK):Res D→Prop
 | .ok d S'=>∀μ' H' v,Ext μ H μ' H'→SOk K mg μ' S' H'→Rep K mg μ' H' d v→Q v H'
 |_=>False
section
variable {mg:GS}{Q:VK}
theorem Want.now(w:Want K mg μ H Q (.ok d S))(s:SOk K mg μ S H)(r:Rep K mg μ H d v):Q v H:=w μ H v .refl s r
theorem Want.tup{vs:List V}(w:Want K mg μ H Q (.ok (.tup ds) S))(s:SOk K mg μ S H)(r:RepL K mg μ H ds vs)(p:Addr)(hp:H p=none):Q (.ref p) (upd H p (.tup vs)):=
 w μ _ _ (.laid hp) (s.laid hp) (by unfold Rep;exact⟨p,vs,rfl,SqT.of a0L',RepL.mono (.laid hp) _ _ r⟩)
theorem Want.lst{vs:List V}(w:Want K mg μ H Q (.ok (.lst ds) S))(s:SOk K mg μ S H)(r:RepL K mg μ H ds vs)(p:Addr)(hp:H p=none):Q (.ref p) (upd H p (.lst vs)):=
 w μ _ _ (.laid hp) (s.laid hp) (by unfold Rep;exact⟨p,vs,rfl,a0L',⟨s.notin hp,s.notF hp⟩,RepL.mono (.laid hp) _ _ r⟩)
theorem Want.box{vs:List V}(w:Want K mg μ H Q (.ok (.ref S.length) (S++[ds])))(s:SOk K mg μ S H)(r:RepL K mg μ H ds vs)(p:Addr)(hp:H p=none):Q (.ref p) (upd H p (.lst vs)):=
 w (μ++[p]) _ _ (.boxed hp) (s.boxed hp r) (by unfold Rep;exact⟨p,rfl,by rw[Zp (by rw[s.len];exact Zi _),s.len];simp⟩)
theorem Want.wrote{vs:List V}(w:Want K mg μ H Q (.ok d (S.set n ds)))(s:SOk K mg μ S H)(hn:μ[n]?=some a)(h:H a=some (.lst xs))(r:RepL K mg μ H ds vs)
  (rd:Rep K mg μ H d v):Q v (upd H a (.lst vs)):=
 w μ _ _ (.wrote (Zn hn) h) (s.wrote hn h r) (Rep.mono (.wrote (Zn hn) h) _ _ rd)
theorem Want.ext{r:Res D}(x:Ext μ H μ' H')(w:Want K mg μ H Q r):Want K mg μ' H' Q r:=by
 cases r with
 |ok d S'=>exact λμ2 H2 v x2 s2 r2=>w μ2 H2 v (x.trans x2) s2 r2
 |err _ _=>exact w
 |fail=>exact w
noncomputable def a3j'(S:Store):D→Option (List D)
 | .lst xs=>some xs
 | .ref n=>S[n]?
 |_=>none
noncomputable def seqOf(S:Store):D→Option (List D)
 | .lst xs=>some xs
 | .ref n=>S[n]?
 | .tup xs=>some xs
 | .scr xs=>some xs
 |_=>none
theorem a0Y'{xs:List D}(s:SOk K mg μ S H)(r:Rep K mg μ H d v)(e:a3j' S d=some xs):∃a vs,v=.ref a∧H a=some (.lst vs)∧RepL K mg μ H xs vs:=by
 cases d with
 |lst ys=>unfold a3j' at e;cases e;unfold Rep at r;obtain⟨a,vs,e,h,_,q⟩:=r;exact⟨a,vs,e,h,q⟩
 |ref n=>unfold a3j' at e;unfold Rep at r;obtain⟨a,e1,h⟩:=r;obtain⟨vs,h1,q⟩:=s.at_ n a xs h e;exact⟨a,vs,e1,h1,q⟩
 |_=>cases e
theorem a3T'{xs:List D}(s:SOk K mg μ S H)(r:Rep K mg μ H d v)(e:seqOf S d=some xs):∃a vs,v=.ref a∧(SqL K H a vs∨SqT K H a vs)∧RepL K mg μ H xs vs:=by
 cases d with
 |lst ys=>obtain⟨a,vs,e1,h,q⟩:=a0Y' s r (show a3j' S (.lst ys)=some xs from e);exact⟨a,vs,e1,.inl (.of h),q⟩
 |ref n=>obtain⟨a,vs,e1,h,q⟩:=a0Y' s r (show a3j' S (.ref n)=some xs from e);exact⟨a,vs,e1,.inl (.of h),q⟩
 |tup ys=>unfold seqOf at e;cases e;unfold Rep at r;obtain⟨a,vs,e,h,q⟩:=r;exact⟨a,vs,e,.inr h,q⟩
 |scr ys=>unfold seqOf at e;cases e;unfold Rep at r;obtain⟨a,vs,e,h,q⟩:=r;exact⟨a,vs,e,.inl h.sq,q⟩
 |_=>cases e
theorem a0c'{i:Int}(r:Rep K mg μ H (.int i) v):v=.int i:=by unfold Rep at r;exact r
theorem a5P'{i:Bool}(r:Rep K mg μ H (.bl i) v):v=.bl i:=by unfold Rep at r;exact r
theorem a3w'{i:Str}(r:Rep K mg μ H (.str i) v):v=.str i:=by unfold Rep at r;exact r
theorem a3U'(r:Rep K mg μ H .non v):v=.non:=by unfold Rep at r;exact r
theorem a0C'(r:Rep K mg μ H (.tup ds) v):∃a vs,v=.ref a∧SqT K H a vs∧RepL K mg μ H ds vs:=by unfold Rep at r;exact r
theorem a1m'{i:Int}:Rep K mg μ H (.int i) (.int i):=by unfold Rep;rfl
theorem repBl{i:Bool}:Rep K mg μ H (.bl i) (.bl i):=by unfold Rep;rfl
theorem repStr{i:Str}:Rep K mg μ H (.str i) (.str i):=by unfold Rep;rfl
theorem a8P':Rep K mg μ H .non .non:=by unfold Rep;rfl
end
def rD(K:Fg)(mg:Mg)(g:D→D→Store→Res D):R2:=λx y H Q=>∃F μ S d e,SOk K ⟨mg,F⟩ μ S H∧Rep K ⟨mg,F⟩ μ H d x∧Rep K ⟨mg,F⟩ μ H e y∧Want K ⟨mg,F⟩ μ H Q (g d e S)
noncomputable def addD(d e:D)(S:Store):Res D:=match d,e with
 | .int i,.int j=>.ok (.int (i+j)) S
 | .str x,.str y=>if x.length+y.length≤big then .ok (.str (x++y)) S else .fail
 | .tup a,.tup b=>if a.length+b.length≤big then .ok (.tup (a++b)) S else .fail
 |d,e=>match a3j' S d,a3j' S e with
  |some a,some b=>if a.length+b.length≤big then .ok (.lst (a++b)) S else .fail
  |_,_=>.fail
noncomputable def subD(d e:D)(S:Store):Res D:=match d,e with
 | .int i,.int j=>.ok (.int (i-j)) S
 |_,_=>.fail
noncomputable def mulD(d e:D)(S:Store):Res D:=match d,e with
 | .int i,.int j=>if(-(2^64)<i∧i<2^64)∨(-(2^64)<j∧j<2^64)then .ok (.int (i*j)) S else if Builtin.Int.intBits i≤100000∧Builtin.Int.intBits j≤100000 then .ok (.int (i*j)) S else .fail
 | .lst a,.int k=>if-(2^63)≤k∧k<2^63∧a.length*k.toNat≤big then .ok (.lst (List.replicate k.toNat a).flatten) S else .fail
 |_,_=>.fail
noncomputable def fdivD(d e:D)(S:Store):Res D:=match d,e with
 | .int i,.int j=>if 0<j∧j<1073741824 then .ok (.int (i/j)) S else .fail
 |_,_=>.fail
noncomputable def modD(d e:D)(S:Store):Res D:=match d,e with
 | .int i,.int j=>if 0<j then .ok (.int (i%j)) S else .fail
 |_,_=>.fail
noncomputable def powD(d e:D)(S:Store):Res D:=match d,e with
 | .int i,.int j=>if 0≤j∧j≤1000000∧i.natAbs<2^64 then .ok (.int (i^j.toNat)) S else .fail
 |_,_=>.fail
noncomputable def shrD(d e:D)(S:Store):Res D:=match d,e with
 | .int i,.int j=>if 0≤j then .ok (.int (i/2^j.toNat)) S else .fail
 |_,_=>.fail
noncomputable def andD(d e:D)(S:Store):Res D:=match d,e with
 | .int i,.int j=>.ok (.int (Builtin.bitAnd i j)) S
 |_,_=>.fail
noncomputable def orD(d e:D)(S:Store):Res D:=match d,e with
 | .int i,.int j=>.ok (.int (Builtin.bitOr i j)) S
 |_,_=>.fail
noncomputable def opD:Operator→D→D→Store→Res D
 | .Add=>addD| .Sub=>subD| .Mult=>mulD| .FloorDiv=>fdivD| .Mod=>modD| .Pow=>powD| .RShift=>shrD| .LShift=>λ_ _ _=>.fail | .BitAnd=>andD| .BitOr=>orD
 |_=>λ_ _ _=>.fail
theorem b2o'{t b:Addr}{ws:Lv}(ht:IsTup s.heap t #[])(hb:IsTup s.heap b ws.toArray)
  (h1:Q (.ref b) s):wpAny (model prog w) A (binaryOp .Add (.ref t) (.ref b)) Q E s:=by
 obtain⟨⟨cls,dd,data,sl⟩,ho,hc,n,hd⟩:=id ht;obtain⟨⟨cls2,dd2,data2,sl2⟩,ho2,hc2,n2,hd2⟩:=id hb;simp only at hc hd hc2 hd2;subst hc hd hc2 hd2
 exact concat_meets ⟨_,ho,rfl⟩ ⟨_,ho2,rfl⟩ noFill_tuple_add seq_tuple_add PySem.F.slot_tuple_add PySem.F.entry_tuple_add (PySem.F.args_tuple_add_2 _ _)
   (tuple_addW0 t b #[] ws.toArray n n2 dd dd2 sl sl2 rfl) ⟨ho,ho2,h1⟩
theorem b2p':OpR X (binaryOp .Add) (λx y H Q=>∃a b ys,x=.ref a∧y=.ref b∧SqT X.K H a []∧SqT X.K H b ys∧Q (.ref b) H):=by intro pq s σ H x y v u Q I rx ry h;obtain⟨a,b,ys,rfl,rfl,ha,hb,q⟩:=h;cases rx;cases ry;obtain⟨its,r,pa,_⟩:=I.tuple ha;obtain⟨its2,r2,pb,_⟩:=I.tuple hb;have e:=r.zero;subst e;exact b2o' pa pb ⟨.ref b,H,I,rfl,q⟩
theorem op_mulG:OpR X (binaryOp .Mult) (rI (λi j=>Builtin.Int.intBits i≤100000∧Builtin.Int.intBits j≤100000) λi j=>.int (i*j)):=opI λ_ _ _ _ _ _ _ hc q=>PyProof.Rows.mul_int q (PySem.IntMulOk.of_le hc.1 hc.2 (by decide))
theorem op_D(op:Operator):OpR X (binaryOp op) (rD X.K X.mg (opD op)):=by
 intro pq s σ H x y v u Q I rx ry h;obtain⟨F,μ,S,d,e,sk,rd,re,w⟩:=h;have hb:=a6L';cases op with
 |Add=>
  replace w:Want X.K ⟨X.mg,F⟩ μ H Q (addD d e S):=w;unfold addD at w;split at w
  ·have:=a0c' rd;have:=a0c' re;subst x y
   exact op_add pq s σ H _ _ v u Q I rx ry ⟨_,_,rfl,rfl,w.now sk a1m'⟩
  ·have:=a3w' rd;have:=a3w' re;subst x y
   split at w
   ·exact a8H' pq s σ H _ _ v u Q I rx ry ⟨_,_,rfl,rfl,by omega,w.now sk repStr⟩
   ·exact w.elim
  ·split at w
   ·obtain⟨a,vs,rfl,ha,qa⟩:=a0C' rd;obtain⟨b,ws,rfl,hb',qb⟩:=a0C' re;have l1:=qa.length;have l2:=qb.length;cases vs with
    |nil=>refine b2p' pq s σ H _ _ v u Q I rx ry ⟨a,b,ws,rfl,rfl,ha,hb',?_⟩;rename_i as bs _;have:as=[]:=Zr (by simpa using l1);subst this;exact w.now sk re
    |cons v0 vs=>
     refine op_catT pq s σ H _ _ v u Q I rx ry ⟨a,b,v0::vs,ws,rfl,rfl,ha,hb',by simp,by omega,?_,?_⟩
     ·intro hw;subst hw;rename_i as bs _;have:bs=[]:=Zr (by simpa using l2);subst this;rw[List.append_nil]at w;exact w.now sk rd
     ·intro _ p hp;exact w.tup sk (qa.append qb) p hp
   ·exact w.elim
  ·split at w
   ·rename_i as bs e1 e2;split at w
    ·obtain⟨a,vs,rfl,ha,qa⟩:=a0Y' sk rd e1;obtain⟨b,ws,rfl,hb',qb⟩:=a0Y' sk re e2;have l1:=qa.length;have l2:=qb.length;exact op_cat pq s σ H _ _ v u Q I rx ry ⟨a,b,vs,ws,rfl,rfl,ha,hb',by omega,λp hp=>w.lst sk (qa.append qb) p hp⟩
    ·exact w.elim
   ·exact w.elim
 |Sub=>
  replace w:Want X.K ⟨X.mg,F⟩ μ H Q (subD d e S):=w;unfold subD at w;split at w
  ·have:=a0c' rd;have:=a0c' re;subst x y
   exact op_sub pq s σ H _ _ v u Q I rx ry ⟨_,_,rfl,rfl,w.now sk a1m'⟩
  ·exact w.elim
 |Mult=>
  replace w:Want X.K ⟨X.mg,F⟩ μ H Q (mulD d e S):=w;unfold mulD at w;split at w
  ·have:=a0c' rd;have:=a0c' re;subst x y
   split at w
   ·rename_i hc;exact op_mul pq s σ H _ _ v u Q I rx ry ⟨_,_,rfl,rfl,hc,w.now sk a1m'⟩
   ·split at w
    ·rename_i hc;exact op_mulG pq s σ H _ _ v u Q I rx ry ⟨_,_,rfl,rfl,hc,w.now sk a1m'⟩
    ·exact w.elim
  ·split at w
   ·rename_i as k hc;obtain⟨a,vs,rfl,ha,qa⟩:=a0Y' sk rd rfl;have:=a0c' re;subst y;have l1:=qa.length;refine op_rep pq s σ H _ _ v u Q I rx ry ⟨a,k,vs,rfl,rfl,ha,hc.1,hc.2.1,by rw[←l1];omega,λp hp=>w.lst sk ?_ p hp⟩;generalize k.toNat=m;clear hc w
    induction m with
    |zero=>simpa using RepL.nil
    |succ m ih=>rw[List.replicate_succ,List.replicate_succ,Z0,Z0];exact qa.append ih
   ·exact w.elim
  ·exact w.elim
 |FloorDiv=>
  replace w:Want X.K ⟨X.mg,F⟩ μ H Q (fdivD d e S):=w;unfold fdivD at w;split at w
  ·have:=a0c' rd;have:=a0c' re;subst x y
   split at w
   ·rename_i hc;exact op_fdiv pq s σ H _ _ v u Q I rx ry ⟨_,_,rfl,rfl,hc,w.now sk a1m'⟩
   ·exact w.elim
  ·exact w.elim
 |Mod=>
  replace w:Want X.K ⟨X.mg,F⟩ μ H Q (modD d e S):=w;unfold modD at w;split at w
  ·have:=a0c' rd;have:=a0c' re;subst x y
   split at w
   ·rename_i hc;exact op_mod pq s σ H _ _ v u Q I rx ry ⟨_,_,rfl,rfl,hc,w.now sk a1m'⟩
   ·exact w.elim
  ·exact w.elim
 |Pow=>
  replace w:Want X.K ⟨X.mg,F⟩ μ H Q (powD d e S):=w;unfold powD at w;split at w
  ·have:=a0c' rd;have:=a0c' re;subst x y
   split at w
   ·rename_i hc;exact op_pow pq s σ H _ _ v u Q I rx ry ⟨_,_,rfl,rfl,hc,w.now sk a1m'⟩
   ·exact w.elim
  ·exact w.elim
 |RShift=>
  replace w:Want X.K ⟨X.mg,F⟩ μ H Q (shrD d e S):=w;unfold shrD at w;split at w
  ·have:=a0c' rd;have:=a0c' re;subst x y
   split at w
   ·rename_i hc;exact op_shr pq s σ H _ _ v u Q I rx ry ⟨_,_,rfl,rfl,hc,w.now sk a1m'⟩
   ·exact w.elim
  ·exact w.elim
 |LShift=>exact w.elim
 |BitAnd=>
  replace w:Want X.K ⟨X.mg,F⟩ μ H Q (andD d e S):=w;unfold andD at w;split at w
  ·have:=a0c' rd;have:=a0c' re;subst x y
   exact op_and pq s σ H _ _ v u Q I rx ry ⟨_,_,rfl,rfl,w.now sk a1m'⟩
  ·exact w.elim
 |BitOr=>
  replace w:Want X.K ⟨X.mg,F⟩ μ H Q (orD d e S):=w;unfold orD at w;split at w
  ·have:=a0c' rd;have:=a0c' re;subst x y
   exact op_or pq s σ H _ _ v u Q I rx ry ⟨_,_,rfl,rfl,w.now sk a1m'⟩
  ·exact w.elim
 |_=>exact w.elim
end Py
variable {l:List (Str×(List Py.D→Py.Store→Py.Res Py.D))}{φ:List Py.D→Py.Store→Py.Res Py.D}
namespace Py
inductive Sh where
 |non|bl (b:Bool)|int (i:Int)|str (x:Str)|tup (xs:List D)|lst (xs:List D)
noncomputable def sh(S:Store):D→Option Sh
 | .non=>some .non
 | .bl b=>some (.bl b)
 | .int i=>some (.int i)
 | .str x=>some (.str x)
 | .tup xs=>some (.tup xs)
 | .lst xs=>some (.lst xs)
 | .ref n=>(S[n]?).map .lst
 |_=>none
noncomputable def allO:List (Option Bool)→Option Bool
 | []=>some true
 |o::r=>match o,allO r with
  |some b,some c=>some (b&&c)
  |_,_=>none
noncomputable def eqS(f:D→D→Option Bool):Sh→Sh→Option Bool
 | .non,.non=>some true
 | .bl a,.bl b=>some (a==b)
 | .int a,.int b=>some (a==b)
 | .str a,.str b=>some (a==b)
 | .bl a,.int b=>some ((if a then 1 else 0)==b)
 | .int a,.bl b=>some (a==(if b then 1 else 0))
 | .tup a,.tup b=>(allO (List.zipWith f a b)).map (· &&a.length==b.length)
 | .lst a,.lst b=>if a.length=b.length then allO (List.zipWith f a b)else some false
 |_,_=>some false
noncomputable def eqF(S:Store):Nat→D→D→Option Bool
 |0,_,_=>none
 |n+1,d,e=>match sh S d,sh S e with
  |some x,some y=>eqS (eqF S n) x y
  |_,_=>none
noncomputable def eJ(l:List (Option Bool))(j:Nat):Bool:=match l[j]? with
 |some (some b)=>b
 |_=>true
theorem a3K':∀(l:List (Option Bool)) (k:Bool),allO l=some k→(∀(j:Nat) o,l[j]?=some o→o=some (eJ l j))∧k=(List.range l.length).all (eJ l)
 | [],k,h=>by unfold allO at h;cases h;exact⟨λj o e=>by simp at e,by simp⟩
 |o::r,k,h=>by
  unfold allO at h;split at h
  ·rename_i b c e2;cases h;obtain⟨h1,h2⟩:=a3K' r c e2;refine⟨λj o e=>?_,?_⟩
   ·cases j with
    |zero=>simp at e;subst e;simp[eJ]
    |succ j=>
     have e':r[j]?=some o:=by simpa using e
     rw[h1 j o e'];simp[eJ]
   ·rw[Zz,List.range_succ_eq_map,List.all_cons,List.all_map,h2];rfl
  ·cases h
section
def ShIs(K:Fg)(mg:GS)(μ:La)(H:Hp)(s:Shared)(u:Value):Sh→Prop
 | .non=>u=.none
 | .bl b=>u=.bool b
 | .int i=>∃t,u=.int i t
 | .str x=>∃t,u=.str x t
 | .tup ds=>∃a its vs,u=.ref a∧s.heap.IsTuple a its.toArray∧Vals vs its∧RepL K mg μ H ds vs
 | .lst ds=>∃a its vs,u=.ref a∧s.heap.IsList a its.toArray∧Vals vs its∧RepL K mg μ H ds vs
theorem shIs(I:Inv X pq σ H s)(sk:SOk X.K ⟨X.mg,F⟩ μ S H){x:Sh}(r:Rep X.K ⟨X.mg,F⟩ μ H d v)(q:RelV v u)(e:sh S d=some x):ShIs X.K ⟨X.mg,F⟩ μ H s u x:=by
 cases d with
 |non=>cases e;cases a3U' r;exact q
 |bl b=>cases e;cases a5P' r;exact q
 |int b=>cases e;cases a0c' r;exact q
 |str b=>cases e;cases a3w' r;exact q
 |tup xs=>cases e;obtain⟨a,vs,rfl,h,k⟩:=a0C' r;cases q;obtain⟨its,rv,p,_⟩:=I.tuple h;exact⟨a,its,vs,rfl,p,rv,k⟩
 |lst xs=>cases e;obtain⟨a,vs,rfl,h,k⟩:=a0Y' sk r rfl;cases q;obtain⟨its,rv,p,_⟩:=I.list (.of h);exact⟨a,its,vs,rfl,p.isList,rv,k⟩
 |ref n=>
  replace e:(S[n]?).map Sh.lst=some x:=e;cases e2:S[n]? with
  |none=>rw[e2]at e;cases e
  |some xs=>rw[e2]at e;cases e;obtain⟨a,vs,rfl,h,k⟩:=a0Y' sk r e2;cases q;obtain⟨its,rv,p,_⟩:=I.list (.of h);exact⟨a,its,vs,rfl,p.isList,rv,k⟩
 |_=>cases e
def Items(A:Around)(s:Shared)(f:D→D→Option Bool)(K:Fg)(mg:GS)(μ:La)(H:Hp):Prop:=
 ∀d e v w u z k,Rep K mg μ H d v→RelV v u→Rep K mg μ H e w→RelV w z→f d e=some k→SeqAt.EqAt A s u z k
theorem a8Q'{f:D→D→Option Bool}{mg:GS}(F:Items A s f K mg μ H){es:List D}{vs ws:List V}{zs:Lv}(r1:RepL K mg μ H ds vs)(q1:Vals vs us)(r2:RepL K mg μ H es ws)(q2:Vals ws zs){k:Bool}
  (h:allO (List.zipWith f ds es)=some k):∀j (h1:j<us.toArray.size) (h2:j<zs.toArray.size),SeqAt.EqAt A s us.toArray[j] zs.toArray[j] (eJ (List.zipWith f ds es) j):=by
 intro j h1 h2;have l1:=r1.length;have l2:=r2.length;have l3:=q1.length;have l4:=q2.length
 have h1':j<us.length:=by simpa using h1
 have h2':j<zs.length:=by simpa using h2
 have a1:ds[j]?=some (ds[j]'(by omega)):=Zh _;have a2:es[j]?=some (es[j]'(by omega)):=Zh _;obtain⟨v,b1,c1⟩:=r1.get a1;obtain⟨w,b2,c2⟩:=r2.get a2;obtain⟨u,b3,c3⟩:=q1.get b1;obtain⟨z,b4,c4⟩:=q2.get b2
 have e1:us.toArray[j]=u:=by have:=Zf.mp b3;obtain⟨_,e⟩:=this;simpa using e
 have e2:zs.toArray[j]=z:=by have:=Zf.mp b4;obtain⟨_,e⟩:=this;simpa using e
 rw[e1,e2];have hz:(List.zipWith f ds es)[j]?=some (f (ds[j]'(by omega)) (es[j]'(by omega))):=by rw[List.getElem?_zipWith,a1,a2]
 exact F _ _ v w u z _ c1 c3 c2 c4 ((a3K' _ _ h).1 j _ hz)
theorem a8R'{f:D→D→Option Bool}{es:List D}{k:Bool}(h:allO (List.zipWith f ds es)=some k)(m:Nat)(hm:m=min ds.length es.length):(List.range m).all (eJ (List.zipWith f ds es))=k:=by have:=(a3K' _ _ h).2;rw[this,List.length_zipWith,hm]
open PySem.SeqAt
theorem rcS{mg:GS}{f:D→D→Option Bool}(F:Items A.in1 s f K mg μ H)(hu:A.units<cLine):∀{x y:Sh} {k:Bool},ShIs K mg μ H s u x→ShIs K mg μ H s z y→eqS f x y=some k→
  RcAt A s u z k∧RcNeAt A s u z (!k):=by
 intro x y k hx hy h;cases x with
 |non=>
  cases hx;cases y with
  |non=>cases hy;cases h;exact⟨RcAt.none_none,RcNeAt.none_none⟩
  |bl b=>cases hy;cases h;exact⟨RcAt.none_bool b,RcNeAt.none_bool b⟩
  |int b=>obtain⟨t,rfl⟩:=hy;cases h;exact⟨RcAt.none_int b t,RcNeAt.none_int b t⟩
  |str b=>obtain⟨t,rfl⟩:=hy;cases h;exact⟨RcAt.none_str b t,RcNeAt.none_str b t⟩
  |tup b=>obtain⟨a,its,vs,rfl,p,_⟩:=hy;cases h;exact⟨RcAt.none_tuple p hu,RcNeAt.none_tuple p hu⟩
  |lst b=>obtain⟨a,its,vs,rfl,p,_⟩:=hy;cases h;exact⟨RcAt.none_list p hu,RcNeAt.none_list p hu⟩
 |bl a=>
  cases hx;cases y with
  |non=>cases hy;cases h;exact⟨RcAt.bool_none a,RcNeAt.bool_none a⟩
  |bl b=>cases hy;cases h;exact⟨RcAt.bool_bool a b,RcNeAt.bool_bool a b⟩
  |int b=>obtain⟨t,rfl⟩:=hy;cases h;exact⟨RcAt.bool_int a b t,RcNeAt.bool_int a b t⟩
  |str b=>obtain⟨t,rfl⟩:=hy;cases h;exact⟨RcAt.bool_str a b t,RcNeAt.bool_str a b t⟩
  |tup b=>obtain⟨_,its,vs,rfl,p,_⟩:=hy;cases h;exact⟨RcAt.bool_tuple a p hu,RcNeAt.bool_tuple a p hu⟩
  |lst b=>obtain⟨_,its,vs,rfl,p,_⟩:=hy;cases h;exact⟨RcAt.bool_list a p hu,RcNeAt.bool_list a p hu⟩
 |int a=>
  obtain⟨t',rfl⟩:=hx;cases y with
  |non=>cases hy;cases h;exact⟨RcAt.int_none a t',RcNeAt.int_none a t'⟩
  |bl b=>cases hy;cases h;exact⟨RcAt.int_bool a t' b,RcNeAt.int_bool a t' b⟩
  |int b=>obtain⟨t,rfl⟩:=hy;cases h;exact⟨RcAt.int_int a t' b t,RcNeAt.int_int a t' b t⟩
  |str b=>obtain⟨t,rfl⟩:=hy;cases h;exact⟨RcAt.int_str a t' b t,RcNeAt.int_str a t' b t⟩
  |tup b=>obtain⟨_,its,vs,rfl,p,_⟩:=hy;cases h;exact⟨RcAt.int_tuple a t' p hu,RcNeAt.int_tuple a t' p hu⟩
  |lst b=>obtain⟨_,its,vs,rfl,p,_⟩:=hy;cases h;exact⟨RcAt.int_list a t' p hu,RcNeAt.int_list a t' p hu⟩
 |str a=>
  obtain⟨t',rfl⟩:=hx;cases y with
  |non=>cases hy;cases h;exact⟨RcAt.str_none a t',RcNeAt.str_none a t'⟩
  |bl b=>cases hy;cases h;exact⟨RcAt.str_bool a t' b,RcNeAt.str_bool a t' b⟩
  |int b=>obtain⟨t,rfl⟩:=hy;cases h;exact⟨RcAt.str_int a t' b t,RcNeAt.str_int a t' b t⟩
  |str b=>obtain⟨t,rfl⟩:=hy;cases h;exact⟨RcAt.str_str a t' b t,RcNeAt.str_str a t' b t⟩
  |tup b=>obtain⟨_,its,vs,rfl,p,_⟩:=hy;cases h;exact⟨RcAt.str_tuple a t' p hu,RcNeAt.str_tuple a t' p hu⟩
  |lst b=>obtain⟨_,its,vs,rfl,p,_⟩:=hy;cases h;exact⟨RcAt.str_list a t' p hu,RcNeAt.str_list a t' p hu⟩
 |tup a=>
  obtain⟨a1,its1,vs1,rfl,p1,q1,r1⟩:=hx;cases y with
  |non=>cases hy;cases h;exact⟨RcAt.tuple_none p1 hu,RcNeAt.tuple_none p1 hu⟩
  |bl b=>cases hy;cases h;exact⟨RcAt.tuple_bool b p1 hu,RcNeAt.tuple_bool b p1 hu⟩
  |int b=>obtain⟨t,rfl⟩:=hy;cases h;exact⟨RcAt.tuple_int b t p1 hu,RcNeAt.tuple_int b t p1 hu⟩
  |str b=>obtain⟨t,rfl⟩:=hy;cases h;exact⟨RcAt.tuple_str b t p1 hu,RcNeAt.tuple_str b t p1 hu⟩
  |tup b=>
   obtain⟨a2,its2,vs2,rfl,p2,q2,r2⟩:=hy;replace h:(allO (List.zipWith f a b)).map (· &&a.length==b.length)=some k:=h;obtain⟨k1,e1,e2⟩:=ZU.mp h;have hz:=a8Q' F r1 q1 r2 q2 e1;have l1:=r1.length;have l2:=r2.length;have l3:=q1.length;have l4:=q2.length
   have e3:k=((List.range (min its1.toArray.size its2.toArray.size)).all (eJ (List.zipWith f a b))&&its1.toArray.size==its2.toArray.size):=by rw[←e2,a8R' e1 _ (by rw[Ze,Ze,←l3,←l4,←l1,←l2]),Ze,Ze,←l3,←l4,←l1,←l2]
   rw[e3];exact⟨RcAt.tuples p1 p2 hu hz,RcNeAt.tuples p1 p2 hu hz⟩
  |lst b=>obtain⟨a2,its2,vs2,rfl,p2,_⟩:=hy;cases h;exact⟨RcAt.tuple_list p1 p2 hu,RcNeAt.tuple_list p1 p2 hu⟩
 |lst a=>
  obtain⟨a1,its1,vs1,rfl,p1,q1,r1⟩:=hx;cases y with
  |non=>cases hy;cases h;exact⟨RcAt.list_none p1 hu,RcNeAt.list_none p1 hu⟩
  |bl b=>cases hy;cases h;exact⟨RcAt.list_bool b p1 hu,RcNeAt.list_bool b p1 hu⟩
  |int b=>obtain⟨t,rfl⟩:=hy;cases h;exact⟨RcAt.list_int b t p1 hu,RcNeAt.list_int b t p1 hu⟩
  |str b=>obtain⟨t,rfl⟩:=hy;cases h;exact⟨RcAt.list_str b t p1 hu,RcNeAt.list_str b t p1 hu⟩
  |tup b=>obtain⟨a2,its2,vs2,rfl,p2,_⟩:=hy;cases h;exact⟨RcAt.list_tuple p1 p2 hu,RcNeAt.list_tuple p1 p2 hu⟩
  |lst b=>
   obtain⟨a2,its2,vs2,rfl,p2,q2,r2⟩:=hy;have l1:=r1.length;have l2:=r2.length;have l3:=q1.length;have l4:=q2.length
   replace h:(if a.length=b.length then allO (List.zipWith f a b)else some false)=some k:=h;split at h
   ·rename_i hl;have hz:=a8Q' F r1 q1 r2 q2 h
    have e3:k=(List.range its1.toArray.size).all (eJ (List.zipWith f a b)):=by rw[a8R' h _ (by rw[Ze,←l3,←l1];omega)]
    rw[e3];have hs:its1.toArray.size=its2.toArray.size:=by rw[Ze,Ze];omega
    exact⟨RcAt.lists p1 p2 hs hu hz,RcNeAt.lists p1 p2 hs hu hz⟩
   ·rename_i hl;cases h;have hs:(its1.toArray.size !=its2.toArray.size)=true:=by rw[Ze,Ze];simp;omega
    exact⟨RcAt.lists_lengths p1 p2 hs hu,RcNeAt.lists_lengths p1 p2 hs hu⟩
theorem b1w'(I:Inv X pq σ H s)(sk:SOk X.K ⟨X.mg,F⟩ μ S H):∀(n:Nat) (d e:D) (v:V) (k:Bool),Rep X.K ⟨X.mg,F⟩ μ H d v→Rep X.K ⟨X.mg,F⟩ μ H e v→eqF S n d e=some k→k=true:=by
 intro n
 induction n with
 |zero=>intro d e v k _ _ h;cases h
 |succ n ih=>
  intro d e v k rd re h
  have lists:∀(ds es:List D) (vs:List V) (k:Bool),RepL X.K ⟨X.mg,F⟩ μ H ds vs→RepL X.K ⟨X.mg,F⟩ μ H es vs→allO (List.zipWith (eqF S n) ds es)=some k→k=true:=by
   intro ds
   induction ds with
   |nil=>intro es vs k _ _ h;cases h;rfl
   |cons d ds ihl=>
    intro es vs k r1 r2 h;obtain⟨v,ws,rfl,a1,b1⟩:=r1.uncons;cases es with
    |nil=>cases h;rfl
    |cons e es=>
     obtain⟨v',ws',e1,a2,b2⟩:=r2.uncons;cases e1;rw[List.zipWith_cons_cons]at h;unfold allO at h;split at h
     ·rename_i x y e1 e2;cases h;rw[ih d e v x a1 a2 e1,ihl es ws y b1 b2 e2];rfl
     ·cases h
  unfold eqF at h;cases e1:sh S d with
  |none=>rw[e1]at h;cases h
  |some x=>
   cases e2:sh S e with
   |none=>rw[e1,e2]at h;cases h
   |some y=>
    rw[e1,e2]at h;replace h:eqS (eqF S n) x y=some k:=h
    obtain⟨u,ru⟩:∃u,RelV v u:=by
     cases v with
     |non=>exact⟨_,rfl⟩
     |bl b=>exact⟨_,rfl⟩
     |int i=>exact⟨.int i 0,0,rfl⟩
     |str x=>exact⟨.str x 0,0,rfl⟩
     |byt x=>exact⟨.bytes x 0,0,rfl⟩
     |flt x=>exact⟨.float x 0,0,rfl⟩
     |ref a=>exact⟨_,rfl⟩
     |ty n=>exact⟨_,rfl⟩
    have s1:=shIs I sk rd ru e1;have s2:=shIs I sk re ru e2
    have len:∀{ds es:List D} {vs ws:List V} {us:Lv},RepL X.K ⟨X.mg,F⟩ μ H ds vs→Vals vs us→RepL X.K ⟨X.mg,F⟩ μ H es ws→Vals ws us→vs=ws∧ds.length=es.length:=λr1 q1 r2 q2=>by have:=q1.inj q2;subst this;exact⟨rfl,r1.length.trans r2.length.symm⟩
    cases x with
    |non=>
     cases s1;cases y with
     |non=>cases h;rfl
     |bl b=>cases s2
     |int b=>obtain⟨t,z⟩:=s2;cases z
     |str b=>obtain⟨t,z⟩:=s2;cases z
     |tup b=>obtain⟨_,_,_,z,_⟩:=s2;cases z
     |lst b=>obtain⟨_,_,_,z,_⟩:=s2;cases z
    |bl a=>
     cases s1;cases y with
     |non=>cases s2
     |bl b=>cases s2;cases h;simp
     |int b=>obtain⟨t,z⟩:=s2;cases z
     |str b=>obtain⟨t,z⟩:=s2;cases z
     |tup b=>obtain⟨_,_,_,z,_⟩:=s2;cases z
     |lst b=>obtain⟨_,_,_,z,_⟩:=s2;cases z
    |int a=>
     obtain⟨t',rfl⟩:=s1;cases y with
     |non=>cases s2
     |bl b=>cases s2
     |int b=>obtain⟨t,z⟩:=s2;cases z;cases h;simp
     |str b=>obtain⟨t,z⟩:=s2;cases z
     |tup b=>obtain⟨_,_,_,z,_⟩:=s2;cases z
     |lst b=>obtain⟨_,_,_,z,_⟩:=s2;cases z
    |str a=>
     obtain⟨t',rfl⟩:=s1;cases y with
     |non=>cases s2
     |bl b=>cases s2
     |int b=>obtain⟨t,z⟩:=s2;cases z
     |str b=>obtain⟨t,z⟩:=s2;cases z;cases h;simp
     |tup b=>obtain⟨_,_,_,z,_⟩:=s2;cases z
     |lst b=>obtain⟨_,_,_,z,_⟩:=s2;cases z
    |tup a=>
     obtain⟨a1,its1,vs1,rfl,p1,q1,r1⟩:=s1;cases y with
     |non=>cases s2
     |bl b=>cases s2
     |int b=>obtain⟨t,z⟩:=s2;cases z
     |str b=>obtain⟨t,z⟩:=s2;cases z
     |tup b=>
      obtain⟨a2,its2,vs2,z,p2,q2,r2⟩:=s2;cases z
      have hi:its1=its2:=by
       obtain⟨o,ho,_,n,hd⟩:=p1;obtain⟨o',ho',_,n',hd'⟩:=p2;rw[ho]at ho';cases ho';rw[hd]at hd';injection hd' with z _
       simpa using congrArg Array.toList z
      subst hi;obtain⟨rfl,hl⟩:=len r1 q1 r2 q2;replace h:(allO (List.zipWith (eqF S n) a b)).map (· &&a.length==b.length)=some k:=h;obtain⟨k1,e3,e4⟩:=ZU.mp h;rw[←e4,lists a b vs1 k1 r1 r2 e3,hl];simp
     |lst b=>obtain⟨a2,its2,vs2,z,p2,q2,r2⟩:=s2;cases z;obtain⟨o,ho,c,n,hd⟩:=p1;obtain⟨o',ho',c',n',hd'⟩:=p2;rw[ho]at ho';cases ho';rw[c]at c';exact absurd c' (by decide)
    |lst a=>
     obtain⟨a1,its1,vs1,rfl,p1,q1,r1⟩:=s1;cases y with
     |non=>cases s2
     |bl b=>cases s2
     |int b=>obtain⟨t,z⟩:=s2;cases z
     |str b=>obtain⟨t,z⟩:=s2;cases z
     |tup b=>obtain⟨a2,its2,vs2,z,p2,q2,r2⟩:=s2;cases z;obtain⟨o,ho,c,n,hd⟩:=p1;obtain⟨o',ho',c',n',hd'⟩:=p2;rw[ho]at ho';cases ho';rw[c]at c';exact absurd c' (by decide)
     |lst b=>
      obtain⟨a2,its2,vs2,z,p2,q2,r2⟩:=s2;cases z
      have hi:its1=its2:=by
       obtain⟨o,ho,_,n,hd⟩:=p1;obtain⟨o',ho',_,n',hd'⟩:=p2;rw[ho]at ho';cases ho';rw[hd]at hd';injection hd' with z _
       simpa using congrArg Array.toList z
      subst hi;obtain⟨rfl,hl⟩:=len r1 q1 r2 q2;replace h:(if a.length=b.length then allO (List.zipWith (eqF S n) a b)else some false)=some k:=h;rw[if_pos hl]at h;exact lists a b vs1 k r1 r2 h
theorem rcF(I:Inv X pq σ H s)(sk:SOk X.K ⟨X.mg,F⟩ μ S H):∀(n:Nat) (A:Around),A.units+n<cLine→∀d e v w u z k,Rep X.K ⟨X.mg,F⟩ μ H d v→RelV v u→Rep X.K ⟨X.mg,F⟩ μ H e w→RelV w z→eqF S n d e=some k→
  RcAt A s u z k∧RcNeAt A s u z (!k)∧EqAt A s u z k:=by
 intro n
 induction n with
 |zero=>intro A _ d e v w u z k _ _ _ _ h;cases h
 |succ n ih=>
  intro A hA d e v w u z k rd ru re rz h;have self:=λ(hv:v=w)=>b1w' I sk (n+1) d e v k rd (hv▸re) h;unfold eqF at h;cases e1:sh S d with
  |none=>rw[e1]at h;cases h
  |some x=>
   cases e2:sh S e with
   |none=>rw[e1,e2]at h;cases h
   |some y=>
    rw[e1,e2]at h;replace h:eqS (eqF S n) x y=some k:=h;have s1:=shIs I sk rd ru e1;have s2:=shIs I sk re rz e2;have hin:A.in1.units=A.units+1:=rfl;have F:Items A.in1 s (eqF S n) X.K ⟨X.mg,F⟩ μ H:=λd e v w u z k a b c d' h=>(ih A.in1 (by omega) d e v w u z k a b c d' h).2.2;obtain⟨c1,c2⟩:=rcS F (by omega) s1 s2 h;refine⟨c1,c2,?_⟩
    have refs:∀{l b:Addr},u=.ref l→z=.ref b→EqAt A s u z k:=λ{l b} eu ez=>by
     subst eu;subst ez;by_cases hl:l=b
     ·subst hl
      have hv:v=w:=by
       cases v<;>first| (cases ru;done)|skip
       all_goals first| (obtain⟨_,q⟩:=ru;cases q;done)|skip
       cases w<;>first| (cases rz;done)|skip
       all_goals first| (obtain⟨_,q⟩:=rz;cases q;done)|skip
       cases ru;cases rz;rfl
      rw[self hv];exact EqAt.same _
     ·exact .of_refs hl c1
    have hu:A.units<cLine:=by omega
    cases x with
    |non=>
     cases s1;cases y with
     |non=>cases s2;cases h;exact EqAt.same _
     |bl b=>cases s2;cases h;exact EqAt.none_bool b
     |int b=>obtain⟨t,rfl⟩:=s2;cases h;exact EqAt.none_int b t
     |str b=>obtain⟨t,rfl⟩:=s2;cases h;exact EqAt.none_str b t
     |tup b=>obtain⟨a,its,vs,rfl,p,_⟩:=s2;cases h;exact EqAt.none_tuple p hu
     |lst b=>obtain⟨a,its,vs,rfl,p,_⟩:=s2;cases h;exact EqAt.none_list p hu
    |bl a=>
     cases s1;cases y with
     |non=>cases s2;cases h;exact EqAt.bool_none a
     |bl b=>cases s2;cases h;exact EqAt.bool_bool a b
     |int b=>obtain⟨t,rfl⟩:=s2;cases h;exact EqAt.bool_int a b t
     |str b=>obtain⟨t,rfl⟩:=s2;cases h;exact EqAt.bool_str a b t
     |tup b=>obtain⟨_,its,vs,rfl,p,_⟩:=s2;cases h;exact EqAt.bool_tuple a p hu
     |lst b=>obtain⟨_,its,vs,rfl,p,_⟩:=s2;cases h;exact EqAt.bool_list a p hu
    |int a=>
     obtain⟨t',rfl⟩:=s1;cases y with
     |non=>cases s2;cases h;exact EqAt.int_none a t'
     |bl b=>cases s2;cases h;exact EqAt.int_bool a t' b
     |int b=>obtain⟨t,rfl⟩:=s2;cases h;exact EqAt.int_int a t' b t
     |str b=>obtain⟨t,rfl⟩:=s2;cases h;exact EqAt.int_str a t' b t
     |tup b=>obtain⟨_,its,vs,rfl,p,_⟩:=s2;cases h;exact EqAt.int_tuple a t' p hu
     |lst b=>obtain⟨_,its,vs,rfl,p,_⟩:=s2;cases h;exact EqAt.int_list a t' p hu
    |str a=>
     obtain⟨t',rfl⟩:=s1;cases y with
     |non=>cases s2;cases h;exact EqAt.str_none a t'
     |bl b=>cases s2;cases h;exact EqAt.str_bool a t' b
     |int b=>obtain⟨t,rfl⟩:=s2;cases h;exact EqAt.str_int a t' b t
     |str b=>obtain⟨t,rfl⟩:=s2;cases h;exact EqAt.str_str a t' b t
     |tup b=>obtain⟨_,its,vs,rfl,p,_⟩:=s2;cases h;exact EqAt.str_tuple a t' p hu
     |lst b=>obtain⟨_,its,vs,rfl,p,_⟩:=s2;cases h;exact EqAt.str_list a t' p hu
    |tup a=>
     obtain⟨a1,its1,vs1,rfl,p1,_⟩:=s1;cases y with
     |non=>cases s2;cases h;exact EqAt.tuple_none p1 hu
     |bl b=>cases s2;cases h;exact EqAt.tuple_bool b p1 hu
     |int b=>obtain⟨t,rfl⟩:=s2;cases h;exact EqAt.tuple_int b t p1 hu
     |str b=>obtain⟨t,rfl⟩:=s2;cases h;exact EqAt.tuple_str b t p1 hu
     |tup b=>obtain⟨_,its,vs,rfl,p,_⟩:=s2;exact refs rfl rfl
     |lst b=>obtain⟨_,its,vs,rfl,p,_⟩:=s2;exact refs rfl rfl
    |lst a=>
     obtain⟨a1,its1,vs1,rfl,p1,_⟩:=s1;cases y with
     |non=>cases s2;cases h;exact EqAt.list_none p1 hu
     |bl b=>cases s2;cases h;exact EqAt.list_bool b p1 hu
     |int b=>obtain⟨t,rfl⟩:=s2;cases h;exact EqAt.list_int b t p1 hu
     |str b=>obtain⟨t,rfl⟩:=s2;cases h;exact EqAt.list_str b t p1 hu
     |tup b=>obtain⟨_,its,vs,rfl,p,_⟩:=s2;exact refs rfl rfl
     |lst b=>obtain⟨_,its,vs,rfl,p,_⟩:=s2;exact refs rfl rfl
end
noncomputable def ltL(eq lt:D→D→Option Bool):List D→List D→Option Bool
 | [],[]=>some false
 | [],_::_=>some true
 |_::_,[]=>some false
 |a::as,b::bs=>match eq a b with
  |some true=>ltL eq lt as bs
  |some false=>lt a b
  |none=>none
noncomputable def ltF(S:Store):Nat→D→D→Option Bool
 |0,_,_=>none
 |n+1,.int a,.int b=>some (decide (a<b))
 |n+1,.tup a,.tup b=>ltL (eqF S n) (ltF S n) a b
 |_,_,_=>none
open PySem.SeqAt
def LtAt(A:Around)(s:Shared)(y x:Value)(b:Bool):Prop:=
 ∀(prog:Program) (w:World) (E:Vs) (Q:Vs),Q (.bool b) s→wpAny (model prog w) A (richCompare .Lt y x) Q E s
inductive LexAt (A:Around)(s:Shared):Lv→Lv→Bool→Prop where
 |nn:LexAt A s [] [] false
 |nc {w ws}:LexAt A s [] (w::ws) true
 |cn {v vs}:LexAt A s (v::vs) [] false
 |eq {v w vs ws k}:EqAt A s v w true→LexAt A s vs ws k→LexAt A s (v::vs) (w::ws) k
 |lt {v w vs ws k}:EqAt A s v w false→LtAt A s v w k→LexAt A s (v::vs) (w::ws) k
section
open PySem.AutoSeq1 (wpAny_loadPart')
open PySem.MeetsSeq PySem.MeetsSeq2 PySem.MeetsSeq3
theorem a5Q'(l b:Addr)(items items2:Av)(n n2:Nat)(dd dd2:Option Addr)(sl sl2:Array (Ov))(k:Bool):
  Meets (Builtin.«tuple.__lt__» ⟨[.ref l,.ref b],[]⟩)
   (λA R s=>s.heap.get? l=some {cls:=.type "tuple",dict:=dd,data:=.seq items n,slots:=sl}∧s.heap.get? b=some {cls:=.type "tuple",dict:=dd2,data:=.seq items2 n2,slots:=sl2}∧
    LexAt A.in1 s items.toList items2.toList k∧R (.ok (.ret (.bool k))) s):=
 .of_wp λprog w A R s h=>by
  obtain⟨hp,g,d,tk,os⟩:=s;obtain⟨hl,hb,hx,h⟩:=h;have f2:=AutoSeq1.sub_tuple_tuple
  wp_walk using wpAny_loadPart' hl,wpAny_loadPart' hb,wpAny_forIn_list _ (λrest b s'=>b.1=none∧s'=⟨hp,g,d,tk,os⟩∧∃(vs ws:Lv),rest=vs.zip ws∧
   LexAt A.in1 ⟨hp,g,d,tk,os⟩ vs ws k∧vs.length+items2.size=ws.length+items.size∧R (.ok (.ret (.bool k))) ⟨hp,g,d,tk,os⟩) _
  case turn=>
   rintro⟨y,x⟩ rest b s' ⟨hb',rfl,vs,ws,hz,hvi,hlen,hR⟩;cases hvi with
   |nn=>rw[List.zip_nil_left]at hz;cases hz
   |nc=>rw[List.zip_nil_left]at hz;cases hz
   |cn=>rw[List.zip_nil_right]at hz;cases hz
   |eq he hr=>
    rw[List.zip_cons_cons]at hz;injection hz with hyx hrest
    injection hyx with hy hx
    subst hy hx;simp only[Zz]at hlen;refine Za (he prog w _ _ ?_)
    wp_walk
    exact⟨rfl,rfl,_,_,hrest,hr,by omega,hR⟩
   |lt he hr=>
    rw[List.zip_cons_cons]at hz;injection hz with hyx hrest
    injection hyx with hy hx
    subst hy hx;refine Za (he prog w _ _ ?_);have hri:=λ(E:Vs) (Q:Vs)=>hr prog w E Q
    wp_walk using hri
    exact⟨_,rfl,by simpa using hR⟩
  case fin=>
   rintro⟨b1,b2⟩ s' ⟨hb',rfl,vs,ws,hz,hvi,hlen,hR⟩;simp only at hb';subst hb'
   have hv:k=decide (items.size<items2.size):=by
    cases hvi with
    |nn=>simp only[List.length_nil]at hlen;exact(ZC (by omega)).symm
    |nc=>simp only[List.length_nil,Zz]at hlen;exact(ZI (by omega)).symm
    |cn=>simp only[List.length_nil,Zz]at hlen;exact(ZC (by omega)).symm
    |eq he hr=>rw[List.zip_cons_cons]at hz;cases hz
    |lt he hr=>rw[List.zip_cons_cons]at hz;cases hz
   rw[hv]at hR
   wp_walk
   exact⟨_,rfl,by simpa[Builtin.Tuple.tupleCompareSizes]using hR⟩
  case h=>exact⟨rfl,rfl,items.toList,items2.toList,rfl,hx,by simp;omega,h⟩
end
theorem LtAt.tuples{l b:Addr}{vs ws:Lv}{k:Bool}(hl:s.heap.IsTuple l vs.toArray)(hb:s.heap.IsTuple b ws.toArray)(hu:A.units<cLine)(hx:LexAt A.in1 s vs ws k):LtAt A s (.ref l) (.ref b) k:=λprog w E Q h=>by
 obtain⟨⟨cls,dd,data,sl⟩,ho,hc,n,hd⟩:=id hl;obtain⟨⟨cls2,dd2,data2,sl2⟩,ho2,hc2,n2,hd2⟩:=id hb;simp only at hc hd hc2 hd2;subst hc hd hc2 hd2
 exact richCompare_meets_room (op:=.Lt) ⟨_,ho,rfl⟩ ⟨_,ho2,rfl⟩ PySem.F.slot_tuple_lt PySem.F.entry_tuple_lt (PySem.F.args_tuple_lt_2 _ _) (a5Q' l b vs.toArray ws.toArray n n2 dd dd2 sl sl2 k)
  ⟨ho,ho2,by simpa using hx,show Value.bool k≠Value.notImplemented∧Q (.bool k) s from⟨(λx=>nomatch x),h⟩⟩ hu
def LeAt(A:Around)(s:Shared)(y x:Value)(b:Bool):Prop:=
 ∀(prog:Program) (w:World) (E:Vs) (Q:Vs),Q (.bool b) s→wpAny (model prog w) A (richCompare .LtE y x) Q E s
inductive LexLe (A:Around)(s:Shared):Lv→Lv→Bool→Prop where
 |nl {ws}:LexLe A s [] ws true
 |cn {v vs}:LexLe A s (v::vs) [] false
 |eq {v w vs ws k}:EqAt A s v w true→LexLe A s vs ws k→LexLe A s (v::vs) (w::ws) k
 |le {v w vs ws k}:EqAt A s v w false→LeAt A s v w k→LexLe A s (v::vs) (w::ws) k
section
open PySem.AutoSeq1 (wpAny_loadPart')
open PySem.MeetsSeq PySem.MeetsSeq2 PySem.MeetsSeq3
theorem a8S'(l b:Addr)(xs ys:Av)(n n2:Nat)(dd dd2:Option Addr)(sl sl2:Array (Ov))(k:Bool):
  Meets (Builtin.«tuple.__le__» ⟨[.ref l,.ref b],[]⟩)
   (λA R s=>s.heap.get? l=some {cls:=.type "tuple",dict:=dd,data:=.seq xs n,slots:=sl}∧s.heap.get? b=some {cls:=.type "tuple",dict:=dd2,data:=.seq ys n2,slots:=sl2}∧
    LexLe A.in1 s xs.toList ys.toList k∧R (.ok (.ret (.bool k))) s):=
 .of_wp λprog w A R s h=>by
  obtain⟨hp,g,d,tk,os⟩:=s;obtain⟨hl,hb,hx,h⟩:=h;have f2:=AutoSeq1.sub_tuple_tuple
  wp_walk using wpAny_loadPart' hl,wpAny_loadPart' hb,wpAny_forIn_list _ (λrest b s'=>b.1=none∧s'=⟨hp,g,d,tk,os⟩∧∃(vs ws:Lv),rest=vs.zip ws∧
   LexLe A.in1 ⟨hp,g,d,tk,os⟩ vs ws k∧vs.length+ys.size=ws.length+xs.size∧R (.ok (.ret (.bool k))) ⟨hp,g,d,tk,os⟩) _
  case turn=>
   rintro⟨y,x⟩ rest b s' ⟨hb',rfl,vs,ws,hz,hvi,hlen,hR⟩;cases hvi with
   |nl=>rw[List.zip_nil_left]at hz;cases hz
   |cn=>rw[List.zip_nil_right]at hz;cases hz
   |eq he hr=>
    rw[List.zip_cons_cons]at hz;injection hz with hyx hrest
    injection hyx with hy hx
    subst hy hx;simp only[Zz]at hlen;refine Za (he prog w _ _ ?_)
    wp_walk
    exact⟨rfl,rfl,_,_,hrest,hr,by omega,hR⟩
   |le he hr=>
    rw[List.zip_cons_cons]at hz;injection hz with hyx hrest
    injection hyx with hy hx
    subst hy hx;refine Za (he prog w _ _ ?_);have hri:=λ(E:Vs) (Q:Vs)=>hr prog w E Q
    wp_walk using hri
    exact⟨_,rfl,by simpa using hR⟩
  case fin=>
   rintro⟨b1,b2⟩ s' ⟨hb',rfl,vs,ws,hz,hvi,hlen,hR⟩;simp only at hb';subst hb'
   have hv:k=decide (xs.size≤ys.size):=by
    cases hvi with
    |nl=>simp only[List.length_nil]at hlen;exact(ZI (by omega)).symm
    |cn=>simp only[List.length_nil,Zz]at hlen;exact(ZC (by omega)).symm
    |eq he hr=>rw[List.zip_cons_cons]at hz;cases hz
    |le he hr=>rw[List.zip_cons_cons]at hz;cases hz
   rw[hv]at hR
   wp_walk
   exact⟨_,rfl,by simpa[Builtin.Tuple.tupleCompareSizes]using hR⟩
  case h=>exact⟨rfl,rfl,xs.toList,ys.toList,rfl,hx,by simp;omega,h⟩
end
theorem b0w'{l b:Addr}{vs ws:Lv}{k:Bool}(hl:s.heap.IsTuple l vs.toArray)(hb:s.heap.IsTuple b ws.toArray)(hu:A.units<cLine)(hx:LexLe A.in1 s vs ws k):LeAt A s (.ref l) (.ref b) k:=λprog w E Q h=>by
 obtain⟨⟨cls,dd,data,sl⟩,ho,hc,n,hd⟩:=id hl;obtain⟨⟨cls2,dd2,data2,sl2⟩,ho2,hc2,n2,hd2⟩:=id hb;simp only at hc hd hc2 hd2;subst hc hd hc2 hd2
 exact richCompare_meets_room (op:=.LtE) ⟨_,ho,rfl⟩ ⟨_,ho2,rfl⟩ PySem.F.slot_tuple_le PySem.F.entry_tuple_le (PySem.F.args_tuple_le_2 _ _) (a8S' l b vs.toArray ws.toArray n n2 dd dd2 sl sl2 k)
  ⟨ho,ho2,by simpa using hx,show Value.bool k≠Value.notImplemented∧Q (.bool k) s from⟨(λx=>nomatch x),h⟩⟩ hu
noncomputable def leI:List D→List D→Option Bool
 | [],_=>some true
 |_::_,[]=>some false
 | .int a::as,.int b::bs=>if a=b then leI as bs else some (decide (a≤b))
 |_::_,_::_=>none
theorem leI_at{K:Fg}{mg:GS}{μ:La}{H:Hp}{A:Around}{s:Shared}:∀(ds es:List D) (vs ws:List V) (us zs:Lv) (k:Bool),RepL K mg μ H ds vs→Vals vs us→RepL K mg μ H es ws→Vals ws zs→leI ds es=some k→LexLe A s us zs k
 | [],es,vs,ws,us,zs,k,r1,q1,r2,q2,h=>by
  unfold RepL at r1;subst r1;have:=q1.zero;subst this
  cases h;exact .nl
 |d::ds,[],vs,ws,us,zs,k,r1,q1,r2,q2,h=>by
  obtain⟨v,vs,rfl,a1,b1⟩:=r1.uncons;unfold RepL at r2;subst r2;have:=q2.zero;subst this
  cases q1;have h':some false=some k:=by cases d<;>exact h
  cases h';exact .cn
 |d::ds,e::es,vs,ws,us,zs,k,r1,q1,r2,q2,h=>by
  obtain⟨v,vs,rfl,a1,b1⟩:=r1.uncons;obtain⟨w,ws,rfl,a2,b2⟩:=r2.uncons;cases d with
  |int a=>cases e with
   |int b=>
    have:=a0c' a1;have:=a0c' a2;subst v w
    cases q1 with
    |cons c1 d1=>cases q2 with
     |cons c2 d2=>
      obtain⟨t,rfl⟩:=c1;obtain⟨t',rfl⟩:=c2;have h':(if a=b then leI ds es else some (decide (a≤b)))=some k:=h;have he:=EqAt.int_int (A:=A) (s:=s) a t b t';by_cases hab:a=b
      ·rw[if_pos hab]at h';have e1:(a==b)=true:=by simpa using hab
       rw[e1]at he;exact .eq he (leI_at ds es vs ws _ _ k b1 d1 b2 d2 h')
      ·rw[if_neg hab]at h';have e1:(a==b)=false:=by simpa using hab
       rw[e1]at he;cases h';exact .le he λprog w E Q hq=>(PyProof.Rows.le_int hq:wpAny (model prog w) A (compareOp .LtE (.int _ t) (.int _ t')) Q E s)
   |_=>cases h
  |_=>
   have h':(none:Option Bool)=some k:=by cases e<;>exact h
   cases h'
theorem ltF_at(I:Inv X pq σ H s)(sk:SOk X.K ⟨X.mg,F⟩ μ S H):∀(n:Nat) (A:Around),A.units+n<cLine→∀d e v w u z k,Rep X.K ⟨X.mg,F⟩ μ H d v→RelV v u→Rep X.K ⟨X.mg,F⟩ μ H e w→RelV w z→ltF S n d e=some k→LtAt A s u z k:=by
 intro n
 induction n with
 |zero=>intro A _ d e v w u z k _ _ _ _ h;cases h
 |succ n ih=>
  intro A hA d e v w u z k rd ru re rz h;have hin:A.in1.units=A.units+1:=rfl
  have lex:∀(ds es:List D) (vs ws:List V) (us zs:Lv),RepL X.K ⟨X.mg,F⟩ μ H ds vs→Vals vs us→RepL X.K ⟨X.mg,F⟩ μ H es ws→Vals ws zs→ltL (eqF S n) (ltF S n) ds es=some k→LexAt A.in1 s us zs k:=by
   intro ds
   induction ds with
   |nil=>
    intro es vs ws us zs r1 q1 r2 q2 h;unfold RepL at r1;subst r1;have:=q1.zero;subst this
    cases es with
    |nil=>unfold RepL at r2;subst r2;have:=q2.zero;subst this;cases h;exact .nn
    |cons e es=>obtain⟨w,ws,rfl,_,_⟩:=r2.uncons;cases q2;cases h;exact .nc
   |cons d ds ihl=>
    intro es vs ws us zs r1 q1 r2 q2 h;obtain⟨v,vs,rfl,a1,b1⟩:=r1.uncons;cases q1 with
    |cons c1 d1=>
     cases es with
     |nil=>unfold RepL at r2;subst r2;have:=q2.zero;subst this;cases h;exact .cn
     |cons e es=>
      obtain⟨w,ws,rfl,a2,b2⟩:=r2.uncons;cases q2 with
      |cons c2 d2=>
       unfold ltL at h;split at h
       ·rename_i he;exact .eq (rcF I sk n A.in1 (by omega) d e v w _ _ true a1 c1 a2 c2 he).2.2 (ihl es vs ws _ _ b1 d1 b2 d2 h)
       ·rename_i he;exact .lt (rcF I sk n A.in1 (by omega) d e v w _ _ false a1 c1 a2 c2 he).2.2 (ih A.in1 (by omega) d e v w _ _ k a1 c1 a2 c2 h)
       ·cases h
  unfold ltF at h;split at h
  ·rename_i h0;cases h0
  ·have:=a0c' rd;have:=a0c' re;subst v w
   obtain⟨t,rfl⟩:=ru;obtain⟨t',rfl⟩:=rz;cases h;exact λprog w E Q hq=>(PyProof.Rows.lt_int hq:wpAny (model prog w) A (compareOp .Lt (.int _ t) (.int _ t')) Q E s)
  ·rename_i n' ds es heq;cases heq;obtain⟨a,vs,rfl,h1,r1⟩:=a0C' rd;obtain⟨b,ws,rfl,h2,r2⟩:=a0C' re;cases ru;cases rz;obtain⟨us,q1,p1,_⟩:=I.tuple h1;obtain⟨zs,q2,p2,_⟩:=I.tuple h2;exact LtAt.tuples p1 p2 (by omega) (lex ds es vs ws us zs r1 q1 r2 q2 h)
  ·cases h
def deep:Nat:=40
def isNon:D→Bool
 | .non=>true
 |_=>false
noncomputable def boolR(o:Option Bool)(S:Store):Res D:=match o with
 |some k=>.ok (.bl k) S
 |none=>.fail
noncomputable def anyO(l:List (Option Bool)):Option Bool:=(allO (l.map λo=>o.map not)).map not
noncomputable def inD(d e:D)(S:Store):Option Bool:=match seqOf S e with
 |some xs=>anyO (xs.map λy=>eqF S deep y d)
 |none=>none
noncomputable def leD(d e:D)(S:Store):Res D:=match d,e with
 | .int i,.int j=>.ok (.bl (decide (i≤j))) S
 | .tup a,.tup b=>boolR (leI a b) S
 |_,_=>.fail
noncomputable def gtD(d e:D)(S:Store):Res D:=match d,e with
 | .int i,.int j=>.ok (.bl (decide (j<i))) S
 |_,_=>.fail
noncomputable def geD(d e:D)(S:Store):Res D:=match d,e with
 | .int i,.int j=>.ok (.bl (decide (j≤i))) S
 |_,_=>.fail
noncomputable def isD(d e:D)(S:Store):Res D:=match e with
 | .non=>.ok (.bl (isNon d)) S
 |_=>.fail
noncomputable def b2q'(d e:D)(S:Store):Res D:=match e with
 | .non=>.ok (.bl (!isNon d)) S
 |_=>.fail
noncomputable def cmpD(op:CmpOp)(d e:D)(S:Store):Res D:=match op with
 | .Eq=>boolR (eqF S deep d e) S
 | .NotEq=>boolR ((eqF S deep d e).map not) S
 | .Lt=>boolR (ltF S deep d e) S
 | .LtE=>leD d e S
 | .Gt=>gtD d e S
 | .GtE=>geD d e S
 | .In=>boolR (inD d e S) S
 | .NotIn=>boolR ((inD d e S).map not) S
 | .Is=>isD d e S
 | .IsNot=>b2q' d e S
theorem b1x'{mg:GS}(r:Rep K mg μ H d v):decide (v=.non)=isNon d:=by
 cases d with
 |non=>cases a3U' r;rfl
 |bl b=>cases a5P' r;rfl
 |int b=>cases a0c' r;rfl
 |str b=>cases a3w' r;rfl
 |tup b=>obtain⟨a,vs,rfl,_⟩:=a0C' r;rfl
 |lst b=>unfold Rep at r;obtain⟨a,vs,rfl,_⟩:=r;rfl
 |ref b=>unfold Rep at r;obtain⟨a,rfl,_⟩:=r;rfl
 |scr b=>unfold Rep at r;obtain⟨a,vs,rfl,_⟩:=r;rfl
 |fn b=>unfold Rep at r;obtain⟨a,rfl,_⟩:=r;rfl
 |dct=>unfold Rep at r;obtain⟨a,rfl,_⟩:=r;rfl
 |ty n=>unfold Rep at r;cases r;rfl
theorem a1e'{mg:GS}{Q:VK}{o:Option Bool}(w:Want K mg μ H Q (boolR o S))(sk:SOk K mg μ S H):∃k,o=some k∧Q (.bl k) H:=by
 cases o with
 |none=>exact w.elim
 |some k=>exact⟨k,rfl,w.now sk repBl⟩
theorem a7v'{l:List (Option Bool)}{k:Bool}(h:anyO l=some k):(∀o∈l,o.isSome=true)∧k=l.any (λo=>o==some true):=by
 unfold anyO at h;obtain⟨k1,e1,e2⟩:=ZU.mp h;subst e2;clear h
 induction l generalizing k1 with
 |nil=>cases e1;exact⟨by simp,rfl⟩
 |cons o r ih=>
  rw[ZK]at e1;unfold allO at e1;split at e1
  ·rename_i b c e3 e4;cases e1;obtain⟨h1,h2⟩:=ih c e4;obtain⟨b',rfl,e5⟩:=ZU.mp e3;subst e5;refine⟨λo ho=>?_,?_⟩
   ·rcases Zm.mp ho with rfl|ho
    ·rfl
    ·exact h1 o ho
   ·rw[List.any_cons,←h2];cases b'<;>cases c<;>rfl
  ·cases e1
theorem in_at(I:Inv X pq σ H s)(sk:SOk X.K ⟨X.mg,F⟩ μ S H)(hu:A.units+64<cLine){e:D}{w:V}{k:Bool}(rd:Rep X.K ⟨X.mg,F⟩ μ H d v)(ru:RelV v u)(re:Rep X.K ⟨X.mg,F⟩ μ H e w)(rz:RelV w z)
  (h:inD d e S=some k):∃(a:Addr) (its:Lv) (f:Value→Bool),z=.ref a∧(s.heap.IsList a its.toArray∨s.heap.IsTuple a its.toArray)∧(∀y∈its.toArray,EqAt A.in1 s y u (f y))∧its.toArray.any f=k:=by
 unfold inD at h;split at h
 ·rename_i xs e1;obtain⟨a,vs,rfl,hq,r⟩:=a3T' sk re e1;cases rz
  obtain⟨its,q,hp⟩:∃its,Vals vs its∧(s.heap.IsList a its.toArray∨s.heap.IsTuple a its.toArray):=by
   rcases hq with hq|hq
   ·obtain⟨its,q,p,_⟩:=I.list hq;exact⟨its,q,.inl p.isList⟩
   ·obtain⟨its,q,p,_⟩:=I.tuple hq;exact⟨its,q,.inr p⟩
  have hin:A.in1.units=A.units+1:=rfl;have hd:deep=40:=rfl;obtain⟨h1,h2⟩:=a7v' h
  classical
  have at_:∀(j:Nat) (x:D) (y:Value),xs[j]?=some x→its[j]?=some y→∀b,eqF S deep x d=some b→EqAt A.in1 s y u b:=λj x y hx hy b hb=>by obtain⟨v',h3,h4⟩:=r.get hx;obtain⟨y',h5,h6⟩:=q.get h3;rw[hy]at h5;cases h5;exact(rcF I sk deep A.in1 (by omega) x d v' v _ u b h4 h6 rd ru hb).2.2
  have len:xs.length=its.length:=r.length.trans q.length;refine⟨a,its,λy=>decide (∃(j:Nat) (x:D),its[j]?=some y∧xs[j]?=some x∧eqF S deep x d=some true),rfl,hp,λy hy=>?_,?_⟩
  ·obtain⟨j,hj,ej⟩:=List.mem_iff_getElem.mp (show y∈its by simpa using hy);have hy':its[j]?=some y:=by rw[Zh hj,ej]
   have hx':xs[j]?=some (xs[j]'(by omega)):=Zh _;by_cases hc:∃(j:Nat) (x:D),its[j]?=some y∧xs[j]?=some x∧eqF S deep x d=some true
   ·obtain⟨j',x',c1,c2,c3⟩:=id hc;show EqAt A.in1 s y u (decide (∃(j:Nat) (x:D),its[j]?=some y∧xs[j]?=some x∧eqF S deep x d=some true));rw[ZI hc];exact at_ j' x' y c2 c1 true c3
   ·show EqAt A.in1 s y u (decide (∃(j:Nat) (x:D),its[j]?=some y∧xs[j]?=some x∧eqF S deep x d=some true));rw[ZC hc];obtain⟨b,hb⟩:=Option.isSome_iff_exists.mp (h1 (eqF S deep (xs[j]'(by omega)) d) (Zs.mpr ⟨_,Zn hx',rfl⟩));cases b with
    |false=>exact at_ j _ y hx' hy' false hb
    |true=>exact absurd ⟨j,_,hy',hx',hb⟩ hc
  ·rw[h2];apply Bool.eq_iff_iff.mpr;rw[List.any_toArray,List.any_eq_true,List.any_eq_true];constructor
   ·rintro⟨y,hy,hd⟩;obtain⟨j,x,c1,c2,c3⟩:=of_decide_eq_true hd;exact⟨some true,Zs.mpr ⟨x,Zn c2,c3⟩,rfl⟩
   ·rintro⟨o,ho,hd⟩;obtain⟨x,hx,rfl⟩:=Zs.mp ho;obtain⟨j,hj,ej⟩:=List.mem_iff_getElem.mp hx;have hx':xs[j]?=some x:=by rw[Zh hj,ej]
    have hy':its[j]?=some (its[j]'(by omega)):=Zh _;exact⟨_,Zn hy',ZI ⟨j,x,hy',hx',by simpa using hd⟩⟩
 ·cases h
theorem cmp_D(op:CmpOp)(hu:X.A.units+64<cLine):OpR X (compareOp op) (rD X.K X.mg (cmpD op)):=by
 intro pq s σ H x y v u Q I rx ry h;obtain⟨F,μ,S,d,e,sk,rd,re,w⟩:=h;have hd:deep=40:=rfl;have fin:∀{k:Bool},Q (.bl k) H→EP X pq σ Q (.bool k) s:=λ{k} q=>⟨.bl k,H,I,rfl,q⟩;cases op with
 |Eq=>obtain⟨k,e1,q⟩:=a1e' (o:=eqF S deep d e) w sk;exact(rcF I sk deep X.A (by omega) d e x y v u k rd rx re ry e1).1 X.prog X.w _ _ (fin q)
 |NotEq=>obtain⟨k,e1,q⟩:=a1e' (o:=(eqF S deep d e).map not) w sk;obtain⟨k',e2,rfl⟩:=ZU.mp e1;exact(rcF I sk deep X.A (by omega) d e x y v u k' rd rx re ry e2).2.1 X.prog X.w _ _ (fin q)
 |Lt=>obtain⟨k,e1,q⟩:=a1e' (o:=ltF S deep d e) w sk;exact ltF_at I sk deep X.A (by omega) d e x y v u k rd rx re ry e1 X.prog X.w _ _ (fin q)
 |LtE=>
  replace w:Want X.K ⟨X.mg,F⟩ μ H Q (leD d e S):=w;unfold leD at w;split at w
  ·have:=a0c' rd;have:=a0c' re;subst x y
   exact op_le pq s σ H _ _ v u Q I rx ry ⟨_,_,rfl,rfl,w.now sk repBl⟩
  ·rename_i as bs;obtain⟨k,e1,q⟩:=a1e' (o:=leI as bs) w sk;obtain⟨a,vs,rfl,h1,r1⟩:=a0C' rd;obtain⟨b,ws,rfl,h2,r2⟩:=a0C' re;cases rx;cases ry;obtain⟨us,q1,p1,_⟩:=I.tuple h1;obtain⟨zs,q2,p2,_⟩:=I.tuple h2;exact b0w' p1 p2 (by omega) (leI_at as bs vs ws us zs k r1 q1 r2 q2 e1) X.prog X.w _ _ (fin q)
  ·exact w.elim
 |Gt=>
  replace w:Want X.K ⟨X.mg,F⟩ μ H Q (gtD d e S):=w;unfold gtD at w;split at w
  ·have:=a0c' rd;have:=a0c' re;subst x y
   exact op_gt pq s σ H _ _ v u Q I rx ry ⟨_,_,rfl,rfl,w.now sk repBl⟩
  ·exact w.elim
 |GtE=>
  replace w:Want X.K ⟨X.mg,F⟩ μ H Q (geD d e S):=w;unfold geD at w;split at w
  ·have:=a0c' rd;have:=a0c' re;subst x y
   exact op_ge pq s σ H _ _ v u Q I rx ry ⟨_,_,rfl,rfl,w.now sk repBl⟩
  ·exact w.elim
 |In=>
  obtain⟨k,e1,q⟩:=a1e' (o:=inD d e S) w sk;obtain⟨a,its,f,rfl,hp,hf,rfl⟩:=in_at I sk (A:=X.A) hu rd rx re ry e1;rcases hp with hp|hp
  ·exact in_listAt f hp hf (fin q)
  ·exact in_tupleAt f hp hf (fin q)
 |NotIn=>
  obtain⟨k,e1,q⟩:=a1e' (o:=(inD d e S).map not) w sk;obtain⟨k',e2,rfl⟩:=ZU.mp e1;obtain⟨a,its,f,rfl,hp,hf,rfl⟩:=in_at I sk (A:=X.A) hu rd rx re ry e2;rcases hp with hp|hp
  ·exact notIn_listAt f hp hf (fin q)
  ·exact notIn_tupleAt f hp hf (fin q)
 |Is=>
  replace w:Want X.K ⟨X.mg,F⟩ μ H Q (isD d e S):=w;unfold isD at w;split at w
  ·cases a3U' re;exact op_isN pq s σ H _ _ v u Q I rx ry ⟨rfl,by rw[b1x' rd];exact w.now sk repBl⟩
  ·exact w.elim
 |IsNot=>
  replace w:Want X.K ⟨X.mg,F⟩ μ H Q (b2q' d e S):=w;unfold b2q' at w;split at w
  ·cases a3U' re;exact op_notN pq s σ H _ _ v u Q I rx ry ⟨rfl,by rw[b1x' rd];exact w.now sk repBl⟩
  ·exact w.elim
end Py
namespace Py
def rC(K:Fg)(mg:Mg)(g:List D→Store→Res D):List V→Hp→VK→Prop:=λxs H Q=>∃F μ S ds,SOk K ⟨mg,F⟩ μ S H∧RepL K ⟨mg,F⟩ μ H ds xs∧Want K ⟨mg,F⟩ μ H Q (g ds S)
theorem RepL.one{mg:GS}{vs:List V}(r:RepL K mg μ H [d] vs):∃v,vs=[v]∧Rep K mg μ H d v:=by obtain⟨v,ws,rfl,h,t⟩:=r.uncons;unfold RepL at t;subst t;exact⟨v,rfl,h⟩
theorem RepL.two{mg:GS}{e:D}{vs:List V}(r:RepL K mg μ H [d,e] vs):∃v w,vs=[v,w]∧Rep K mg μ H d v∧Rep K mg μ H e w:=by obtain⟨v,ws,rfl,h,t⟩:=r.uncons;obtain⟨w,rfl,h2⟩:=t.one;exact⟨v,w,rfl,h,h2⟩
theorem atI_rep{mg:GS}{vs:List V}{i:Int}(r:RepL K mg μ H ds vs)(h:atI ds i=some d):∃v,atI vs i=some v∧Rep K mg μ H d v:=by
 unfold atI at h⊢;rw[←r.length];cases e:ixN ds.length i with
 |none=>rw[e]at h;cases h
 |some j=>rw[e]at h;exact r.get h
noncomputable def idxD(d e:D)(S:Store):Res D:=match seqOf S d,e with
 |some xs,.int i=>match atI xs i with
  |some y=>.ok y S
  |none=>.fail
 |_,_=>.fail
theorem ix_D:IxR X (rD X.K X.mg idxD):=by
 intro value slice pq s σ H x y v u Q I rx ry h hsub;obtain⟨F,μ,S,d,e,sk,rd,re,w⟩:=h;unfold idxD at w;split at w
 ·rename_i xs i e1;split at w
  ·rename_i y' e2;obtain⟨a,vs,rfl,hq,r⟩:=a3T' sk rd e1;cases a0c' re;obtain⟨z,h1,h2⟩:=atI_rep r e2;rcases hq with hq|hq
   ·exact ix_list value slice pq s σ H _ _ v u Q I rx ry ⟨a,vs,i,z,rfl,rfl,hq,h1,w.now sk h2⟩ hsub
   ·exact ix_tup value slice pq s σ H _ _ v u Q I rx ry ⟨a,vs,i,z,rfl,rfl,hq,h1,w.now sk h2⟩ hsub
  ·exact w.elim
 ·exact w.elim
noncomputable def lenD(ds:List D)(S:Store):Res D:=match ds with
 | [.str x]=>if x.length≤big then .ok (.int x.length) S else .fail
 | [d]=>match seqOf S d with
  |some xs=>.ok (.int xs.length) S
  |none=>.fail
 |_=>.fail
theorem len_D:CallR X (.builtin "len") (rC X.K X.mg lenD):=by
 intro pq s σ H xs us Q I r h;obtain⟨F,μ,S,ds,sk,rd,w⟩:=h;have hb:=a6L';unfold lenD at w;split at w
 ·split at w
  ·obtain⟨v,rfl,hv⟩:=rd.one;cases a3w' hv;exact a6J' pq s σ H _ us Q I r ⟨_,rfl,by omega,w.now sk a1m'⟩
  ·exact w.elim
 ·split at w
  ·rename_i xs' e;obtain⟨v,rfl,hv⟩:=rd.one;obtain⟨a,vs,rfl,hq,r2⟩:=a3T' sk hv e;refine a6I' pq s σ H _ us Q I r ⟨a,vs,rfl,hq,?_⟩;rw[←r2.length];exact w.now sk a1m'
  ·exact w.elim
 ·exact w.elim
noncomputable def a8b'(ds:List D)(S:Store):Res D:=match ds with
 | [.tup xs]=>.ok (.tup xs) S
 | [d]=>match seqOf S d with
  |some xs=>.ok (.tup xs) S
  |none=>.fail
 |_=>.fail
theorem a8T'{mg:GS}{xs:List D}(s:SOk K mg μ S H)(r:Rep K mg μ H d v)(e:seqOf S d=some xs)(hd:∀ys,d≠.tup ys):∃a vs,v=.ref a∧SqL K H a vs∧RepL K mg μ H xs vs:=by
 cases d with
 |lst ys=>obtain⟨a,vs,e1,h,q⟩:=a0Y' s r (show a3j' S (.lst ys)=some xs from e);exact⟨a,vs,e1,.of h,q⟩
 |ref n=>obtain⟨a,vs,e1,h,q⟩:=a0Y' s r (show a3j' S (.ref n)=some xs from e);exact⟨a,vs,e1,.of h,q⟩
 |tup ys=>exact absurd rfl (hd ys)
 |scr ys=>unfold seqOf at e;cases e;unfold Rep at r;obtain⟨a,vs,e,h,q⟩:=r;exact⟨a,vs,e,h.sq,q⟩
 |_=>cases e
theorem tuple_D:CallR X (.type "tuple") (rC X.K X.mg a8b'):=by
 intro pq s σ H xs us Q I r h;obtain⟨F,μ,S,ds,sk,rd,w⟩:=h;unfold a8b' at w;split at w
 ·obtain⟨v,rfl,hv⟩:=rd.one;obtain⟨a,vs,rfl,hq,r2⟩:=a0C' hv;exact a3v' pq s σ H _ us Q I r ⟨a,vs,rfl,.inr ⟨hq,w.now sk hv⟩⟩
 ·rename_i d hd;split at w
  ·rename_i xs' e;obtain⟨v,rfl,hv⟩:=rd.one;obtain⟨a,vs,rfl,hq,r2⟩:=a8T' sk hv e (λys z=>hd ys (by rw[z]));exact a3v' pq s σ H _ us Q I r ⟨a,vs,rfl,.inl ⟨hq,λp hp=>w.tup sk r2 p hp⟩⟩
  ·exact w.elim
 ·exact w.elim
noncomputable def listD(box:Bool)(ds:List D)(S:Store):Res D:=match ds with
 | [d]=>match seqOf S d with
  |some xs=>if box then .ok (.ref S.length) (S++[xs])else .ok (.lst xs) S
  |none=>.fail
 |_=>.fail
theorem list_D(box:Bool):CallR X (.type "list") (rC X.K X.mg (listD box)):=by
 intro pq s σ H xs us Q I r h;obtain⟨F,μ,S,ds,sk,rd,w⟩:=h;unfold listD at w;split at w
 ·split at w
  ·rename_i xs' e;obtain⟨v,rfl,hv⟩:=rd.one;obtain⟨a,vs,rfl,hq,r2⟩:=a3T' sk hv e;refine a6K' pq s σ H _ us Q I r ⟨a,vs,rfl,hq,λp hp=>?_⟩;split at w
   ·exact w.box sk r2 p hp
   ·exact w.lst sk r2 p hp
  ·exact w.elim
 ·exact w.elim
noncomputable def intD(ds:List D)(S:Store):Res D:=match ds with
 | [.int i]=>.ok (.int i) S
 | [.bl b]=>.ok (.int (if b then 1 else 0)) S
 |_=>.fail
theorem int_D:CallR X (.type "int") (rC X.K X.mg intD):=by
 intro pq s σ H xs us Q I r h;obtain⟨F,μ,S,ds,sk,rd,w⟩:=h;unfold intD at w;split at w
 ·obtain⟨v,rfl,hv⟩:=rd.one;cases a0c' hv;exact a7m' pq s σ H _ us Q I r (.inl ⟨_,rfl,w.now sk a1m'⟩)
 ·obtain⟨v,rfl,hv⟩:=rd.one;cases a5P' hv;exact a7m' pq s σ H _ us Q I r (.inr ⟨_,rfl,w.now sk a1m'⟩)
 ·exact w.elim
noncomputable def minD(ds:List D)(S:Store):Res D:=match ds with
 | [.int i,.int j]=>.ok (.int (if j<i then j else i)) S
 |_=>.fail
noncomputable def maxD(ds:List D)(S:Store):Res D:=match ds with
 | [.int i,.int j]=>.ok (.int (if j>i then j else i)) S
 |_=>.fail
theorem min_D(hc:X.calm=true):CallR X (.builtin "min") (rC X.K X.mg minD):=by
 intro pq s σ H xs us Q I r h;obtain⟨F,μ,S,ds,sk,rd,w⟩:=h;unfold minD at w;split at w
 ·obtain⟨v,w',rfl,hv,hw⟩:=rd.two;cases a0c' hv;cases a0c' hw;exact b0r' hc pq s σ H _ us Q I r ⟨_,_,rfl,w.now sk a1m'⟩
 ·exact w.elim
theorem max_D(hc:X.calm=true):CallR X (.builtin "max") (rC X.K X.mg maxD):=by
 intro pq s σ H xs us Q I r h;obtain⟨F,μ,S,ds,sk,rd,w⟩:=h;unfold maxD at w;split at w
 ·obtain⟨v,w',rfl,hv,hw⟩:=rd.two;cases a0c' hv;cases a0c' hw;exact b0q' hc pq s σ H _ us Q I r ⟨_,_,rfl,w.now sk a1m'⟩
 ·exact w.elim
noncomputable def truD(S:Store):D→Option Bool
 | .non=>some false
 | .bl b=>some b
 | .int i=>some (i !=0)
 | .str x=>if x.length≤big then some ((x.length:Int) !=0)else none
 |d=>(seqOf S d).map λxs=> !xs.isEmpty
theorem tru_D{mg:GS}{k:Bool}(sk:SOk K mg μ S H)(r:Rep K mg μ H d v)(e:truD S d=some k):TruV K v H k:=by
 have hb:=a6L'
 have seq:∀(xs:List D),seqOf S d=some xs→k= !xs.isEmpty→TruV K v H k:=λxs e1 e2=>by
  obtain⟨a,vs,rfl,hq,q⟩:=a3T' sk r e1;have hl:=q.length;have e3:xs.isEmpty=vs.isEmpty:=by cases xs<;>cases vs<;>simp at hl⊢
  rw[e3]at e2;rcases hq with hq|hq
  ·exact .inl ⟨vs,hq,e2⟩
  ·exact .inr (.inl ⟨vs,hq,e2⟩)
 have sq2:(seqOf S d).map (λxs=> !xs.isEmpty)=some k→TruV K v H k:=λh=>by obtain⟨xs,e1,e2⟩:=ZU.mp h;exact seq xs e1 e2.symm
 cases d with
 |non=>cases a3U' r;cases e;rfl
 |bl b=>cases a5P' r;cases e;rfl
 |int b=>cases a0c' r;cases e;rfl
 |str b=>
  cases a3w' r;replace e:(if b.length≤big then some ((b.length:Int) !=0)else none)=some k:=e;split at e
  ·cases e;exact⟨by omega,rfl⟩
  ·cases e
 |tup b=>exact sq2 e
 |lst b=>exact sq2 e
 |ref b=>exact sq2 e
 |scr b=>exact sq2 e
 |fn b=>exact sq2 e
 |dct=>exact sq2 e
 |ty b=>exact sq2 e
noncomputable def cutL(xs:List D)(lo hi:Option Int):List D:=(xs.drop (HT.sIx xs.length 0 lo)).take (HT.sIx xs.length xs.length hi-HT.sIx xs.length 0 lo)
theorem a8U'{mg:GS}{vs:List V}{lo:Option Int}(r:RepL K mg μ H ds vs):RepL K mg μ H (cutL ds lo hi) (cutV vs lo hi):=by unfold cutL cutV;rw[r.length];exact(r.drop _).take _
noncomputable def slD(d:D)(lo hi:Option Int)(S:Store):Res D:=match d with
 | .tup xs=>.ok (.tup (cutL xs lo hi)) S
 |d=>match seqOf S d with
  |some xs=>.ok (.lst (cutL xs lo hi)) S
  |none=>.fail
def rSl(K:Fg)(mg:Mg):V→Option Int→Option Int→Hp→VK→Prop:=λx lo hi H Q=>∃F μ S d,SOk K ⟨mg,F⟩ μ S H∧Rep K ⟨mg,F⟩ μ H d x∧Want K ⟨mg,F⟩ μ H Q (slD d lo hi S)
theorem a2V'{t:Addr}{lo:Option Int}(ht:IsTup s.heap t items)(hs:s.heap.IsSliceOf sl vl vu .none)(pl:IsPart vl lo)(pu:IsPart vu hi)
  (hw:HT.sIx items.size 0 lo=0∧HT.sIx items.size items.size hi=items.size) (h:Q (.ref t) s):wpAny (model prog w) A (getItem (.ref t) (.ref sl)) Q E s:=by
 obtain⟨os,hos,hcs,hds⟩:=id hs;have hTs:s.TypeIs (.ref sl) "slice":=⟨os,hos,hcs⟩;unfold getItem
 try with_reducible refine wpAny_holding ?_
 first|refine Za (Zg ?_)|skip
 refine Za (wpAny_sequenceKey ht.typeIs (by decide) ?_)
 refine Za (wpAny_callSpecial?_slot (name:=Str.ofString "__getitem__") ht.typeIs PyProof.Rows.slot_tuple_getitem
  (wpAny_call_entry PyProof.Rows.slot_tuple_getitem ht.typeIs entry_tuple_getitem ?_ (args_tuple_getitem _ _)))
 show wpAny _ _ (Builtin.Tuple.tupleItemsOf (.ref t)>>=_) _ _ s;refine Za (tupleItemsOf_ ht ?_);refine Za (wpAny_typeOf hTs ?_);rw[if_pos (by decide)];refine Za (HT.a1U' hs pl pu ?_);have hyes:((((HT.sIx items.size 0 lo:Nat):Int)==0&&(1:Int)==1&&(HT.sIx items.size items.size hi-HT.sIx items.size 0 lo)==items.size)=true):=by rw[hw.1,hw.2];simp
 show wpAny _ _ (if(((HT.sIx items.size 0 lo:Nat):Int)==0&&(1:Int)==1&&(HT.sIx items.size items.size hi-HT.sIx items.size 0 lo)==items.size)=true then _ else _) _ _ s;rw[if_pos hyes];refine Za (m:=Builtin.Tuple.tupleIsExact (.ref t)) ?_;unfold Builtin.Tuple.tupleIsExact;refine Za (wpAny_typeOf ht.typeIs (Zg ?_));rw[if_pos (by decide)];exact Za (wpAny_rule (Zg ⟨_,rfl,Zg h⟩))
theorem sl_D:SlR X (rSl X.K X.mg):=by
 intro pq s σ H x v vl vu lo hi sl Q I rx hs pl pu h;obtain⟨F,μ,S,d,sk,rd,w⟩:=h;unfold slD at w;split at w
 ·rename_i xs;obtain⟨a,vs,rfl,hq,r⟩:=a0C' rd;have hl:=r.length;by_cases hc:HT.sIx vs.length 0 lo=0∧HT.sIx vs.length vs.length hi=vs.length
  ·cases rx;obtain⟨its,rv,ht,hz⟩:=I.tuple hq;have hlen:its.toArray.size=vs.length:=by rw[Ze];exact rv.length.symm
   refine⟨"tuple",_,PyProof.Rows.slot_tuple_getitem.lookup,ht.typeIs,?_⟩;refine a2V' ht hs pl pu (by rw[hlen];exact hc) ⟨.ref a,H,I,rfl,?_⟩;have e:cutL xs lo hi=xs:=by unfold cutL;rw[hl,hc.1,hc.2];simp[←hl]
   rw[e]at w;exact w.now sk rd
  ·exact sl_tup pq s σ H _ v vl vu lo hi sl Q I rx hs pl pu ⟨a,vs,rfl,hq,hc,λp hp=>w.tup sk (a8U' r) p hp⟩
 ·rename_i d hd;split at w
  ·rename_i xs e;obtain⟨a,vs,rfl,hq,r⟩:=a8T' sk rd e (λys z=>hd ys z);exact sl_list pq s σ H _ v vl vu lo hi sl Q I rx hs pl pu ⟨a,vs,rfl,hq,λp hp=>w.lst sk (a8U' r) p hp⟩
  ·exact w.elim
noncomputable def tyName(S:Store):D→Option String
 | .non=>some "NoneType"
 | .bl _=>some "bool"
 | .int _=>some "int"
 | .str _=>some "str"
 | .tup _=>some "tuple"
 | .lst _=>some "list"
 | .ref n=>(S[n]?).map λ_=>"list"
 | .scr _=>some "list"
 | .dct=>some "dict"
 |_=>none
noncomputable def subTy(t c:String):Option Bool:=
 if ["NoneType","bool","int","str","tuple","list","dict"].contains t&&["bool","int","str","tuple","list","dict"].contains c then some (t==c||(t=="bool"&&c=="int"))else none
theorem kit_sub{t c:String}{b:Bool}(h:subTy t c=some b):PySem.W.kitOne K (.type t) (.type c)=some b:=by
 unfold subTy at h;split at h
 ·rename_i hc;rw[ZB]at hc;simp at hc;cases h;obtain⟨h1,h2⟩:=hc;rcases h1 with rfl|rfl|rfl|rfl|rfl|rfl|rfl<;>rcases h2 with rfl|rfl|rfl|rfl|rfl|rfl<;>first|rfl|decide+kernel
 ·cases h
noncomputable def a4F'(ds:List D)(S:Store):Res D:=match ds with
 | [d,.ty c]=>match tyName S d with
  |some t=>boolR (subTy t c) S
  |none=>.fail
 |_=>.fail
theorem b2r':CallR X (.builtin "isinstance") (rC X.K X.mg a4F'):=by
 intro pq s σ H xs us Q I r h;obtain⟨F,μ,S,ds,sk,rd,w⟩:=h;unfold a4F' at w;split at w
 ·rename_i d c;split at w
  ·rename_i t et;obtain⟨b,eb,q⟩:=a1e' w sk;obtain⟨v,z,rfl,hv,hz⟩:=rd.two;have hz':z=.ty c:=by unfold Rep at hz;exact hz
   subst hz';obtain⟨u,y,rfl,ru,ry⟩:=r.two;cases ry;have e:=kit_sub (K:=X.K) eb;have fin:∀tk,EP X pq σ Q (.bool b) {s with toks:=tk}:=λtk=>⟨.bl b,H,I.tok _,rfl,q⟩
   have lst:∀a vs,v=.ref a→SqL X.K H a vs→t="list"→wpAny (model X.prog X.w) X.A (call (.builtin "isinstance") [u,.type c]) (EP X pq σ Q) X.xe s:=λa vs ev hq et=>by subst ev;subst et;cases ru;obtain⟨its,rv,pl,_⟩:=I.list hq;obtain⟨o,h1,h2,_⟩:=pl.isList;exact PySem.W.kia_one PySem.W.kitx_list I.kIn ⟨o,h1,h2⟩ e (λz=>nomatch z) fin
   cases d with
   |non=>cases a3U' hv;cases ru;cases et;exact PySem.W.kia_one PySem.W.kitx_none I.kIn True.intro e (λz=>nomatch z) fin
   |bl b=>cases a5P' hv;cases ru;cases et;exact PySem.W.kia_one PySem.W.kitx_bool I.kIn True.intro e (λz=>nomatch z) fin
   |int b=>cases a0c' hv;obtain⟨t,rfl⟩:=ru;cases et;exact PySem.W.kia_one PySem.W.kitx_int I.kIn True.intro e (λz=>nomatch z) fin
   |str b=>cases a3w' hv;obtain⟨t,rfl⟩:=ru;cases et;exact PySem.W.kia_one PySem.W.kitx_str I.kIn True.intro e (λz=>nomatch z) fin
   |tup b=>obtain⟨a,vs,rfl,hq,_⟩:=a0C' hv;cases ru;cases et;obtain⟨its,rv,p,_⟩:=I.tuple hq;obtain⟨o,h1,h2,_⟩:=p;exact PySem.W.kia_one PySem.W.kitx_tuple I.kIn ⟨o,h1,h2⟩ e (λz=>nomatch z) fin
   |lst b=>obtain⟨a,vs,rfl,hq,_⟩:=a0Y' sk hv rfl;cases et;exact lst a vs rfl (.of hq) rfl
   |ref n=>replace et:(S[n]?).map (λ_=>"list")=some t:=et;obtain⟨xs,e1,e2⟩:=ZU.mp et;obtain⟨a,vs,rfl,hq,_⟩:=a0Y' sk hv e1;exact lst a vs rfl (.of hq) e2.symm
   |scr b=>unfold Rep at hv;obtain⟨a,vs,rfl,hq,_⟩:=hv;cases et;exact lst a vs rfl hq.sq rfl
   |dct=>unfold Rep at hv;obtain⟨a,rfl,ea⟩:=hv;cases ru;cases et;obtain⟨_,_,vs,_,p⟩:=(show ObjOk X.prog X.w H s.heap a (.dK [])from I.hok a _ ea);obtain⟨o,es,ep,h1,h2,_⟩:=p;exact PySem.W.kia_one PySem.W.kitx_dict I.kIn ⟨o,h1,h2.1⟩ e (λz=>nomatch z) fin
   |fn b=>cases et
   |ty b=>cases et
  ·exact w.elim
 ·exact w.elim
def asB:D→Option Bool
 | .bl b=>some b
 |_=>none
noncomputable def allD(ds:List D)(S:Store):Res D:=match ds with
 | [d]=>match seqOf S d with
  |some xs=>boolR (allO (xs.map asB)) S
  |none=>.fail
 |_=>.fail
noncomputable def anyD(ds:List D)(S:Store):Res D:=match ds with
 | [d]=>match seqOf S d with
  |some xs=>boolR (anyO (xs.map asB)) S
  |none=>.fail
 |_=>.fail
theorem a8V'{mg:GS}{xs:List D}{vs:List V}(r:RepL K mg μ H xs vs)(q:Vals vs its)(h:∀(j:Nat) o,(xs.map asB)[j]?=some o→o=some (eJ (xs.map asB) j)):
  ∀(i:Nat) v,its.toArray[i]?=some v→v=.bool (eJ (xs.map asB) i):=λi v hv=>by
 have l1:=r.length;have l2:=q.length
 have hv':its[i]?=some v:=by simpa using hv
 have hi:i<its.length:=(Zf.mp hv').1;have hx:xs[i]?=some (xs[i]'(by omega)):=Zh _;obtain⟨w,h1,h2⟩:=r.get hx;obtain⟨u,h3,h4⟩:=q.get h1;rw[hv']at h3;cases h3;have h5:=h i (asB (xs[i]'(by omega))) (by rw[ZP,hx];rfl);revert h2 h5;generalize xs[i]'(by omega)=d;intro h2 h5;cases d with
 |bl b=>
  cases a5P' h2;have:b=eJ (xs.map asB) i:=by simpa[asB]using h5
  rw[←this];exact h4
 |_=>cases h5
theorem allany(hc:X.calm=true)(I:Inv X pq σ H s)(sk:SOk X.K ⟨X.mg,F⟩ μ S H){xs:List D}(rd:Rep X.K ⟨X.mg,F⟩ μ H d v)(ru:RelV v u)(e:seqOf S d=some xs)
  (h:∀(j:Nat) o,(xs.map asB)[j]?=some o→o=some (eJ (xs.map asB) j)) (b:Bool→Bool) {Q:VK} {fb:Nat→Bool} (q:Q (.bl (fb xs.length)) H):
  wpAny (model X.prog X.w) X.A.in1 (pyIter u) (λit s₂=>∃I fp wr n P St,it=.ref I∧Walks X.prog X.w X.A.in1 I fp wr n P St∧St 0 s₂.heap∧TruthOf X.prog X.w X.A.in1 P (eJ (xs.map asB))∧
   ∀h' tk,(∀b o,b∉wr→s₂.heap.get? b=some o→h'.get? b=some o)→EP X pq σ Q (.bool (fb n)) {s₂ with heap:=h',toks:=tk}) X.xe s:=by
 obtain⟨a,vs,rfl,hq,r⟩:=a3T' sk rd e;cases ru;have hh:X.A.in1.handled=none:=I.ok.hd hc;rcases hq with hq|hq
 ·obtain⟨its,rv,p,hz⟩:=I.list hq;have ba:=a8V' r rv h;refine wpAny_pyIter_list p.isList ?_;have hne:a≠s.heap.objs.size:=by obtain⟨o,ho,_⟩:=p.isList;exact ZA (Zj ho)
  refine⟨_,_,_,_,_,_,rfl,Walks.list hh s.heap.objs.size a hne its.toArray,⟨⟨_,Zk _ rfl,rfl,rfl⟩,Heap.IsList.push p.isList _⟩,?_,λh' tk kp=>?_⟩
  ·intro i v s' Q' E' hv hq';rw[ba i v hv];exact ZX hq'
  ·have hl:its.toArray.size=xs.length:=by rw[Ze,←rv.length,←r.length]
   rw[hl];refine⟨.bl _,H,I.kept (h':=h') (t':=tk) λb o ho=>kp b o ?_ (Zc _ ho),rfl,q⟩;intro z;have z':b=s.heap.objs.size:=by simpa using z
   exact absurd (Zj ho) (by rw[z'];exact ZN _)
 ·obtain⟨its,rv,p,hz⟩:=I.tuple hq;have ba:=a8V' r rv h;refine wpAny_pyIter_tuple (show s.heap.IsTuple a its.toArray from p) ?_;have hne:a≠s.heap.objs.size:=by obtain⟨o,ho,_⟩:=p;exact ZA (Zj ho)
  refine⟨_,_,_,_,_,_,rfl,Walks.tuple hh s.heap.objs.size a hne its.toArray,⟨⟨_,Zk _ rfl,rfl,rfl⟩,by obtain⟨o,ho,r⟩:=p;exact⟨o,Zc _ ho,r⟩⟩,?_,λh' tk kp=>?_⟩
  ·intro i v s' Q' E' hv hq';rw[ba i v hv];exact ZX hq'
  ·have hl:its.toArray.size=xs.length:=by rw[Ze,←rv.length,←r.length]
   rw[hl];refine⟨.bl _,H,I.kept (h':=h') (t':=tk) λb o ho=>kp b o ?_ (Zc _ ho),rfl,q⟩;intro z;have z':b=s.heap.objs.size:=by simpa using z
   exact absurd (Zj ho) (by rw[z'];exact ZN _)
theorem all_D(hc:X.calm=true):CallR X (.builtin "all") (rC X.K X.mg allD):=by
 intro pq s σ H xs us Q I r h;obtain⟨F,μ,S,ds,sk,rd,w⟩:=h;unfold allD at w;split at w
 ·split at w
  ·rename_i d ys e;obtain⟨k,e1,q⟩:=a1e' w sk;obtain⟨v,rfl,hv⟩:=rd.one;obtain⟨u,rfl,ru⟩:=r.one;obtain⟨h1,h2⟩:=a3K' _ _ e1;have hw:=allany hc I sk hv ru e h1 id (Q:=Q) (fb:=λn=>(List.range n).all (eJ (ys.map asB))) (by rw[Zw]at h2;rw[←h2];exact q);exact call_all_walk (wpAny_mono hw (λit s₂ ⟨I0,fp,wr,n,P,Sx,a1,a2,a3,a4,a5⟩=>⟨I0,fp,wr,n,P,Sx,_,a1,a2,a3,a4,a5⟩) λ_ _ z=>z)
  ·exact w.elim
 ·exact w.elim
theorem any_D(hc:X.calm=true):CallR X (.builtin "any") (rC X.K X.mg anyD):=by
 intro pq s σ H xs us Q I r h;obtain⟨F,μ,S,ds,sk,rd,w⟩:=h;unfold anyD at w;split at w
 ·split at w
  ·rename_i d ys e;obtain⟨k,e1,q⟩:=a1e' w sk;obtain⟨v,rfl,hv⟩:=rd.one;obtain⟨u,rfl,ru⟩:=r.one;obtain⟨h1,h2⟩:=a7v' e1
   have h3:∀(j:Nat) o,(ys.map asB)[j]?=some o→o=some (eJ (ys.map asB) j):=λj o ho=>by
    have:=h1 o (Zn ho);cases o with
    |none=>cases this
    |some b=>simp[eJ,ho]
   have h4:k=(List.range ys.length).any (eJ (ys.map asB)):=by
    rw[h2];apply Bool.eq_iff_iff.mpr;rw[List.any_eq_true,List.any_eq_true];constructor
    ·rintro⟨o,ho,hd⟩;obtain⟨j,hj,ej⟩:=List.mem_iff_getElem.mp ho;have hj':(ys.map asB)[j]?=some o:=by rw[Zh hj,ej]
     have:o=some true:=by simpa using hd
     refine⟨j,by simpa using hj,?_⟩;have h5:=h3 j o hj';rw[this]at h5;exact(ZL h5).symm
    ·rintro⟨j,hj,hd⟩;have hj2:j<(ys.map asB).length:=by simpa using hj
     have hj':(ys.map asB)[j]?=some ((ys.map asB)[j]):=Zh hj2;refine⟨_,List.getElem_mem hj2,?_⟩;rw[h3 j _ hj',hd];rfl
   have hw:=allany hc I sk hv ru e h3 id (Q:=Q) (fb:=λn=>(List.range n).any (eJ (ys.map asB))) (by rw[←h4];exact q);exact call_any_walk (wpAny_mono hw (λit s₂ ⟨I0,fp,wr,n,P,Sx,a1,a2,a3,a4,a5⟩=>⟨I0,fp,wr,n,P,Sx,_,a1,a2,a3,a4,a5⟩) λ_ _ z=>z)
  ·exact w.elim
 ·exact w.elim
def rM(K:Fg)(mg:Mg)(g:D→List D→Store→Res D):V→List V→Hp→VK→Prop:=λx xs H Q=>∃F μ S d ds,SOk K ⟨mg,F⟩ μ S H∧Rep K ⟨mg,F⟩ μ H d x∧RepL K ⟨mg,F⟩ μ H ds xs∧Want K ⟨mg,F⟩ μ H Q (g d ds S)
theorem a5R'{mg:GS}{xs:List D}(s:SOk K mg μ S H)(r:Rep K mg μ H (.ref n) v)(e:S[n]?=some xs):∃a vs,v=.ref a∧μ[n]?=some a∧H a=some (.lst vs)∧RepL K mg μ H xs vs:=by unfold Rep at r;obtain⟨a,rfl,h⟩:=r;obtain⟨vs,h1,q⟩:=s.at_ n a xs h e;exact⟨a,vs,rfl,h,h1,q⟩
noncomputable def a5S'(d:D)(ds:List D)(S:Store):Res D:=match d,ds with
 | .ref n,[y]=>match S[n]? with
  |some xs=>if xs.length<big then .ok .non (S.set n (xs++[y]))else .fail
  |none=>.fail
 |_,_=>.fail
theorem b2s':MtR X "list.append" (rM X.K X.mg a5S'):=by
 intro pq s σ H x xs v us Q I rx rs h;obtain⟨F,μ,S,d,ds,sk,rd,rds,w⟩:=h;have hb:=a6L';unfold a5S' at w;split at w
 ·split at w
  ·rename_i n y ys e;split at w
   ·obtain⟨a,vs,rfl,hn,ha,r⟩:=a5R' sk rd e;obtain⟨z,rfl,hz⟩:=rds.one;have hl:=r.length;exact a7t' pq s σ H _ _ v us Q I rx rs ⟨a,vs,z,rfl,rfl,ha,by omega,w.wrote sk hn ha (r.append (.cons hz .nil)) a8P'⟩
   ·exact w.elim
  ·exact w.elim
 ·exact w.elim
noncomputable def a3V'(d:D)(ds:List D)(S:Store):Res D:=match d,ds with
 | .ref n,[y]=>match S[n]?,a3j' S y with
  |some xs,some ys=>if xs.length+ys.length≤big then .ok .non (S.set n (xs++ys))else .fail
  |_,_=>.fail
 |_,_=>.fail
theorem b2t':MtR X "list.extend" (rM X.K X.mg a3V'):=by
 intro pq s σ H x xs v us Q I rx rs h;obtain⟨F,μ,S,d,ds,sk,rd,rds,w⟩:=h;have hb:=a6L';unfold a3V' at w;split at w
 ·split at w
  ·rename_i n y ys zs e e2;split at w
   ·obtain⟨a,vs,rfl,hn,ha,r⟩:=a5R' sk rd e;obtain⟨z,rfl,hz⟩:=rds.one;obtain⟨b,ws,rfl,hB,r2⟩:=a0Y' sk hz e2;have hl:=r.length;have hl2:=r2.length;exact b0t' pq s σ H _ _ v us Q I rx rs ⟨a,b,vs,ws,rfl,rfl,ha,hB,by omega,w.wrote sk hn ha (r.append r2) a8P'⟩
   ·exact w.elim
  ·exact w.elim
 ·exact w.elim
theorem RepL.dropLast{mg:GS}{vs:List V}(r:RepL K mg μ H ds vs):RepL K mg μ H ds.dropLast vs.dropLast:=by rw[List.dropLast_eq_take,List.dropLast_eq_take,r.length];exact r.take _
noncomputable def popD(d:D)(ds:List D)(S:Store):Res D:=match d,ds with
 | .ref n,[]=>match S[n]? with
  |some xs=>match xs[xs.length-1]? with
   |some y=>.ok y (S.set n xs.dropLast)
   |none=>.fail
  |none=>.fail
 |_,_=>.fail
theorem pop_D:MtR X "list.pop" (rM X.K X.mg popD):=by
 intro pq s σ H x xs v us Q I rx rs h;obtain⟨F,μ,S,d,ds,sk,rd,rds,w⟩:=h;unfold popD at w;split at w
 ·split at w
  ·rename_i n ys e;split at w
   ·rename_i y e2;obtain⟨a,vs,rfl,hn,ha,r⟩:=a5R' sk rd e;unfold RepL at rds;subst rds;obtain⟨z,h1,h2⟩:=r.get e2;rw[r.length]at h1;exact mt_pop pq s σ H _ _ v us Q I rx rs ⟨a,vs,z,rfl,rfl,ha,h1,w.wrote sk hn ha r.dropLast h2⟩
   ·exact w.elim
  ·exact w.elim
 ·exact w.elim
noncomputable def setD(d e f:D)(S:Store):Option Store:=match d,e with
 | .ref n,.int i=>match S[n]? with
  |some xs=>match ixN xs.length i with
   |some j=>some (S.set n (xs.set j f))
   |none=>none
  |none=>none
 |_,_=>none
noncomputable def rSet(K:Fg)(mg:Mg):TSet:=λo i v H Q=>∃F μ S d e f,SOk K ⟨mg,F⟩ μ S H∧Rep K ⟨mg,F⟩ μ H d o∧Rep K ⟨mg,F⟩ μ H e i∧Rep K ⟨mg,F⟩ μ H f v∧
 ∃S',setD d e f S=some S'∧∀μ' H',Ext μ H μ' H'→SOk K ⟨mg,F⟩ μ' S' H'→Q H'
theorem set_D:PSet X (rSet X.K X.mg):=by
 intro pq s σ H o i v ov iv u Q I ro ri rv h;obtain⟨F,μ,S,d,e,f,sk,rd,re,rf,S',e1,w⟩:=h;unfold setD at e1;split at e1
 ·split at e1
  ·rename_i n k _ ys e2;split at e1
   ·rename_i j e3;cases e1;obtain⟨a,vs,rfl,hn,ha,r⟩:=a5R' sk rd e2;cases a0c' re;rw[r.length]at e3;exact b2l' pq s σ H _ _ v ov iv u Q I ro ri rv ⟨a,vs,k,j,rfl,rfl,ha,e3,w μ _ (.wrote (Zn hn) ha) (sk.wrote hn ha (r.set j rf))⟩
   ·cases e1
  ·cases e1
 ·cases e1
noncomputable def clOf(env:Env):List (Str×NameKind)→List (Str×Addr)→List (Str×Addr)
 | [],cs=>cs
 | (n,k)::r,cs=>clOf env r (if k== .free then(match env.cells.lookup n with|some c=>(n,c)::cs|none=>cs)else cs)
theorem a5T'(h:∀x∈scope.names,x.2=.free→∃c,env.cells.lookup x.1=some c):closureFor scope env=pure (clOf env scope.names []):=by
 unfold closureFor
 have key:∀(l:List (Str×NameKind)) (cs:List (Str×Addr)),(∀x∈l,x.2=.free→∃c,env.cells.lookup x.1=some c)→
   (forIn l cs λx r=>(if(x.2==NameKind.free)=true then do let c ←cellOf env x.1;pure (ForInStep.yield ((x.1,c)::r))else pure (ForInStep.yield r):Sem _))=pure (clOf env l cs):=by
  intro l
  induction l with
  |nil=>intro cs _;rfl
  |cons x l ih=>
   intro cs hl;obtain⟨n,k⟩:=x;rw[List.forIn_cons];unfold clOf;by_cases hk:k=.free
   ·subst hk;obtain⟨c,hc⟩:=hl (n,.free) (by simp) rfl;have hc':cellOf env n=pure c:=by unfold cellOf;rw[hc]
    simp only[beq_self_eq_true,if_true,hc',hc];simp only[pure_bind];exact ih _ λy hy=>hl y (Zb _ hy)
   ·have hb:(k==NameKind.free)=false:=by simpa using hk
    simp only[hb,Zo,ZR,pure_bind];exact ih _ λy hy=>hl y (Zb _ hy)
 have:=key scope.names [] h
 first
  | (rw[←this];rfl)
  | (simp only[bind_pure];exact this)
  | (show(do let r ←_;pure r)=_;rw[bind_pure];exact this)
theorem a6M'{env:Env}:∀(l:List (Str×NameKind)) (cs:List (Str×Addr)),(∀p∈cs,env.cells.lookup p.1=some p.2)→∀p∈clOf env l cs,env.cells.lookup p.1=some p.2
 | [],cs,h,p,hp=>h p hp
 | (n,k)::r,cs,h,p,hp=>by
  unfold clOf at hp;refine a6M' r _ (λq hq=>?_) p hp;split at hq
  ·split at hq
   ·rename_i c hc;rcases Zm.mp hq with rfl|hq
    ·exact hc
    ·exact h q hq
   ·exact h q hq
  ·exact h q hq
theorem a8W'{env:Env}:∀(l:List (Str×NameKind)) (cs:List (Str×Addr)),∀p∈cs,p∈clOf env l cs
 | [],cs,p,hp=>hp
 | (n,k)::r,cs,p,hp=>by
  unfold clOf;refine a8W' r _ p ?_;split
  ·split
   ·exact Zb _ hp
   ·exact hp
  ·exact hp
theorem a8X'{env:Env}{x:Str}{c:Addr}(hc:env.cells.lookup x=some c):∀(l:List (Str×NameKind)) (cs:List (Str×Addr)),(x,NameKind.free)∈l→(x,c)∈clOf env l cs
 | [],cs,h=>by cases h
 | (n,k)::r,cs,h=>by
  unfold clOf;rcases Zm.mp h with e|h
  ·cases e;refine a8W' r _ _ ?_;simp only[beq_self_eq_true,if_true,hc];exact Zd
  ·exact a8X' hc r _ h
theorem a3x'{α:Type}{x:Str}{c:α}:∀{l:List (Str×α)},(x,c)∈l→∃d,l.lookup x=some d
 | [],h=>by cases h
 | (n,d)::r,h=>by
  rw[List.lookup_cons];cases e:x==n with
  |true=>exact⟨d,rfl⟩
  |false=>
   rcases Zm.mp h with e2|h
   ·cases e2;simp at e
   ·exact a3x' h
theorem a2W'{env:Env}:∀{names:List (Str×NameKind)} {x:Str} {k:NameKind},(names.map λ(n,k)=>if(k==NameKind.free&&env.scope.kind== .function&&env.kindOf n==some .cell)then(n,NameKind.cell)else(n,k)).lookup x=some k→
  ∃k',names.lookup x=some k'∧(k=k'∨(k'=.free∧k=.cell))
 | [],_,_,h=>by simp at h
 | (n,k0)::r,x,k,h=>by
  have ih:= @a2W' env r x k;rw[ZK]at h;rw[List.lookup_cons];by_cases hc:(k0==NameKind.free&&env.scope.kind== .function&&env.kindOf n==some .cell)=true
  ·simp only[hc,if_true,List.lookup_cons]at h;cases e:x==n with
   |true=>rw[e]at h;cases h;refine⟨k0,rfl,.inr ⟨?_,rfl⟩⟩;rw[ZB,ZB]at hc;exact eq_of_beq hc.1.1
   |false=>rw[e]at h;exact ih h
  ·simp only[hc,Zo,ZR,List.lookup_cons]at h;cases e:x==n with
   |true=>rw[e]at h;cases h;exact⟨k0,rfl,.inl rfl⟩
   |false=>rw[e]at h;exact ih h
theorem a1p'{env:Env}:∀{names:List (Str×NameKind)} {x:Str},names.lookup x=some .free→
  let m:=(names.map λ(n,k)=>if(k==NameKind.free&&env.scope.kind== .function&&env.kindOf n==some .cell)then(n,NameKind.cell)else(n,k))
  m.lookup x=some .cell∨m.lookup x=some .free
 | [],_,h=>by simp at h
 | (n,k0)::r,x,h=>by
  have ih:= @a1p' env r x;rw[List.lookup_cons]at h;dsimp only;rw[ZK];by_cases hc:(k0==NameKind.free&&env.scope.kind== .function&&env.kindOf n==some .cell)=true
  ·simp only[hc,if_true,List.lookup_cons];cases e:x==n with
   |true=>exact .inl rfl
   |false=>rw[e]at h;exact ih h
  ·simp only[hc,Zo,ZR,List.lookup_cons];cases e:x==n with
   |true=>rw[e]at h;cases h;exact .inr rfl
   |false=>rw[e]at h;exact ih h
theorem a2X':∀(names:List (Str×NameKind)) (n:Nat) (a b:List (Str×Addr)),cellsFrom n names (a++b)=cellsFrom n names a++b
 | [],_,_,_=>rfl
 | (x,k)::r,n,a,b=>by
  show(if(k==NameKind.cell)=true then cellsFrom (n+1) r ((x,n)::(a++b))else cellsFrom n r (a++b))=(if(k==NameKind.cell)=true then cellsFrom (n+1) r ((x,n)::a)else cellsFrom n r a)++b;split
  ·exact a2X' r (n+1) ((x,n)::a) b
  ·exact a2X' r n a b
theorem a5k'{x:Str}{c:Addr}:∀(names:List (Str×NameKind)) (n:Nat) (a:List (Str×Addr)),(x,c)∈cellsFrom n names a→(x,c)∈a∨(x,NameKind.cell)∈names
 | [],_,_,h=>.inl h
 | (y,k)::r,n,a,h=>by
  replace h:(x,c)∈(if(k==NameKind.cell)=true then cellsFrom (n+1) r ((y,n)::a)else cellsFrom n r a):=h;split at h
  ·rename_i hk;rcases a5k' r (n+1) _ h with h|h
   ·rcases Zm.mp h with h|h
    ·injection h with h _
     subst h;have:k=.cell:=by simpa using hk
     subst this;exact .inr Zd
    ·exact .inl h
   ·exact .inr (Zb _ h)
  ·rcases a5k' r n _ h with h|h
   ·exact .inl h
   ·exact .inr (Zb _ h)
theorem a6N'{M:Model}{A:Around}{E:Vs}:∀(names:List (Str×NameKind)) (cs:List (Str×Addr)) (s:Shared) (Q:List (Str×Addr)→Shared→Prop),Q (cellsFrom s.heap.objs.size names cs) {s with heap:=pushCells s.heap names}→
  wpAny M A (forIn names cs λx r=>match x with
   | (name,kind)=>if(kind==NameKind.cell)=true then do
     let c ←alloc {cls:=Value.type "cell",data:=Data.cell none}
     pure (ForInStep.yield ((name,c)::r))
    else pure (ForInStep.yield r)) Q E s
 | [],cs,s,Q,h=>by rw[List.forIn_nil];exact Zg h
 | (x,k)::r,cs,s,Q,h=>by
  rw[List.forIn_cons];have h:Q (if(k==NameKind.cell)=true then cellsFrom (s.heap.objs.size+1) r ((x,s.heap.objs.size)::cs)else cellsFrom s.heap.objs.size r cs) {s with heap:=if(k==NameKind.cell)=true then pushCells (s.heap.push {cls:=.type "cell",data:=.cell none}) r else pushCells s.heap r}:=h;cases hk:(k==NameKind.cell)with
  |true=>rw[hk,if_pos rfl,if_pos rfl]at h;refine Za ?_;show wpAny M A (if(k==NameKind.cell)=true then _ else _) _ _ _;rw[hk,if_pos rfl];refine Za (wpAny_alloc (Zg ?_));refine a6N' r _ {s with heap:=s.heap.push {cls:=.type "cell",data:=.cell none}} Q ?_;show Q (cellsFrom (s.heap.push {cls:=.type "cell",data:=.cell none}).objs.size r _) _;rw[Heap.size_push];exact h
  |false=>rw[hk,if_neg (by decide),if_neg (by decide)]at h;refine Za ?_;show wpAny M A (if(k==NameKind.cell)=true then _ else _) _ _ _;rw[hk,if_neg (by decide)];refine Zg ?_;exact a6N' r _ s Q h
theorem b0x'{M:Model}{A:Around}{E:Vs}{g:Addr}{cl:List (Str×Addr)}{q:Str}{out:Env}{bl:Addr}{Q:Env→Shared→Prop}
  (h:Q ⟨scope,s.heap.objs.size,g,cellsFrom (s.heap.objs.size+1) scope.names cl,q,none,out.code,out.frame,out.builtins⟩ {s with heap:=pushCells (s.heap.push {cls:=.type "dict",data:=.dict #[]}) scope.names}):
  wpAny M A (newFunctionEnv scope g cl [] q none .none (some out) bl) Q E s:=by
 unfold newFunctionEnv;refine Za (wpAny_alloc (Za (a6N' scope.names cl _ _ ?_)));show wpAny M A (forIn ([]:List (Str×Value)) PUnit.unit _>>=λ_=>pure _) _ _ _;rw[List.forIn_nil];refine Za (Zg (Zg ?_));have e:(s.heap.push {cls:=Value.type (if(some out).isSome=true then "dict" else "frame"),data:=Data.dict #[]}).objs.size=s.heap.objs.size+1:=Heap.size_push ..;show Q ⟨scope,s.heap.objs.size,g,cellsFrom (s.heap.push {cls:=Value.type (if(some out).isSome=true then "dict" else "frame"),data:=Data.dict #[]}).objs.size scope.names cl,q,none,out.code,out.frame,out.builtins⟩ _;rw[e];exact h
noncomputable def cxC(X:Cx)(scope:Scope)(N:Ls)(C:Addr)(s0:Shared)(H0:Hp)(fp:La):Cx:=
 {X with N:=N,s₀:=s0,H₀:=H0,env:=compEnvC scope (cellsFrom (C+1) scope.names (clOf X.env scope.names [])) C X.env,outer:=X.stack,stack:=X.stack,ex:=fp,fn:=λx=>scope.names.lookup x==some .cell,pn:=[],xe:=λ_ _=>False}
structure CScope (X:Cx)(scope:Scope):Prop where
 kind:scope.kind=.function
 cel:∀y∈scope.names,y.2=.cell→scope.names.lookup y.1=some .cell
 loc:∀y∈scope.names,y.2=.local→scope.names.lookup y.1=some .local
 free:∀y∈scope.names,y.2=.free→X.env.kindOf y.1=some .cell∨X.env.kindOf y.1=some .free
theorem fs_of(I:Inv X pq σ H s){b:Addr}(h1:b≠X.env.locals)(h2:b∉X.fs):b∉frs X.stack:=λz=>(Zm.mp (I.stkSub b z)).elim h1 h2
theorem a0Q'{x:Str}{c:Addr}(h:(cellsFrom n scope.names (clOf X.env scope.names [])).lookup x=some c):(cellsFrom n scope.names []).lookup x=some c∨((cellsFrom n scope.names []).lookup x=none∧(clOf X.env scope.names []).lookup x=some c):=by
 have e:=a2X' scope.names n [] (clOf X.env scope.names []);rw[List.nil_append]at e;rw[e,List.lookup_append]at h;cases z:(cellsFrom n scope.names []).lookup x with
 |some d=>rw[z]at h;exact .inl h
 |none=>rw[z]at h;exact .inr ⟨rfl,h⟩
theorem b0y'{x:Str}{c:Addr}(h:(cellsFrom n scope.names []).lookup x=some c):(cellsFrom n scope.names (clOf X.env scope.names [])).lookup x=some c:=by have e:=a2X' scope.names n [] (clOf X.env scope.names []);rw[List.nil_append]at e;rw[e,List.lookup_append,h];rfl
theorem a8Y'{x:Str}{c:Addr}(h:(cellsFrom n scope.names []).lookup x=none)(h2:(clOf X.env scope.names []).lookup x=some c):(cellsFrom n scope.names (clOf X.env scope.names [])).lookup x=some c:=by have e:=a2X' scope.names n [] (clOf X.env scope.names []);rw[List.nil_append]at e;rw[e,List.lookup_append,h];exact h2
theorem b2u'{m:Mg}{tk:Nat}(hc:X.calm=true)(I:Inv X pq σ H s)(sc:CScope X scope)(hf:∀b∈fp,FpOk X pq H b)(hfo:∀b∈fp,∃o,s.heap.get? b=some o)
  (hn:h1.Ns s.heap.objs.size m) (old:∀b o,s.heap.get? b=some o→h1.get? b=some o) (hcl:CellsOk h1 (s.heap.objs.size+1) (cellsFrom (s.heap.objs.size+1) scope.names [])) (hl:σ'.length=N.length)
  (hσ:∀(i:Nat) (v:V) (x:Str),N[i]?=some x→σ'[i]?=some (some v)→scope.names.lookup x=some .free∧∃j:Nat,X.N[j]?=some x∧σ[j]?=some (some v)):
  Inv (cxC X scope N s.heap.objs.size s H fp) (X.pn++pq) σ' H {s with heap:=h1,toks:=tk}:=by
 have lt:∀{b:Addr} {o:Obj},s.heap.get? b=some o→b≠s.heap.objs.size:=λe=>ZA (Zj e);have cl1:∀x c,(clOf X.env scope.names []).lookup x=some c→X.env.cells.lookup x=some c:=λx c h=>a6M' scope.names [] (λ_ z=>nomatch z) (x,c) (Zv h);have cellLt:∀x c,X.env.cells.lookup x=some c→c<s.heap.objs.size:=λx c h=>by obtain⟨v,q⟩:=I.cell x c h;exact q.lt
 have ownC:∀x c,(cellsFrom (s.heap.objs.size+1) scope.names []).lookup x=some c→h1.IsCell c none∧s.heap.objs.size+1≤c:=λx c h=>hcl.empty x c (Zv h)
 have ownK:∀x c,(cellsFrom (s.heap.objs.size+1) scope.names []).lookup x=some c→scope.names.lookup x=some .cell:=λx c h=>by
  rcases a5k' scope.names _ _ (Zv h)with z|z
  ·cases z
  ·exact sc.cel _ z rfl
 have has:∀x,scope.names.lookup x=some .free→(cellsFrom (s.heap.objs.size+1) scope.names []).lookup x=none∧∃c,(clOf X.env scope.names []).lookup x=some c:=λx h=>by
  refine⟨?_,?_⟩
  ·cases z:(cellsFrom (s.heap.objs.size+1) scope.names []).lookup x with
   |none=>rfl
   |some c=>have:=ownK x c z;rw[h]at this;cases this
  ·have hm:=Zv h;obtain⟨c,hcc⟩:=I.ok.has x (sc.free _ hm rfl);exact a3x' (a8X' hcc scope.names [] hm)
 have kindC:∀x,((cxC X scope N s.heap.objs.size s H fp).env.kindOf x=some .cell∨(cxC X scope N s.heap.objs.size s H fp).env.kindOf x=some .free)→scope.names.lookup x=some .free∨scope.names.lookup x=some .cell:=λx h=>by
  have go:∀k,(k=NameKind.cell∨k=.free)→(relabel scope X.env).names.lookup x=some k→scope.names.lookup x=some .free∨scope.names.lookup x=some .cell:=λk hk h=>by
   obtain⟨k',h1,h2⟩:=a2W' h;rcases h2 with rfl| ⟨rfl,_⟩
   ·rcases hk with rfl|rfl
    ·exact .inr h1
    ·exact .inl h1
   ·exact .inl h1
  rcases h with h|h
  ·exact go _ (.inl rfl) h
  ·exact go _ (.inr rfl) h
 have apart:∀x y c,(cellsFrom (s.heap.objs.size+1) scope.names []).lookup x=some c→(cellsFrom (s.heap.objs.size+1) scope.names []).lookup y=some c→x=y:=λx y c h1 h2=>by
  have m1:=Zv h1;have m2:=Zv h2;have ap:=hcl.apart;generalize cellsFrom (s.heap.objs.size+1) scope.names []=l at m1 m2 ap
  induction l with
  |nil=>cases m1
  |cons p l ih=>
   obtain⟨a1,a2⟩:=ZE.mp ap;rcases Zm.mp m1 with rfl|n1
   ·rcases Zm.mp m2 with z|n2
    ·injection z with z _;exact z.symm
    ·exact(a1 (y,c) n2 rfl).elim
   ·rcases Zm.mp m2 with rfl|n2
    ·exact(a1 (x,c) n1 rfl).elim
    ·exact ih n1 n2 a2
 refine⟨⟨I.ok.mod,?_,I.ok.glob,I.ok.blt,Zi _,λx y c h1 h2=>?_,λx h=>?_,λx c h h2=>?_,I.ok.hd,I.ok.frames,.inl rfl,λb hb=>?_,I.bs,ZT I.ok.bsz I.sz,λb o e hb=>?_,λb hb=>?_,I.stack,I.stkFree⟩,
  rfl,I.bare,Un.kept old,⟨m,hn,λi x v e1 e2 e3=>?_⟩,λx c h=>?_,I.hok.fresh (Zi _),λx c h=>?_,λp hp=>?_,I.hok.kept old,hl⟩
 ·show(relabel scope X.env).kind=.function;unfold relabel;exact sc.kind
 ·rcases a0Q' h1 with z| ⟨_,z⟩<;>rcases a0Q' h2 with y'| ⟨_,y'⟩
  ·exact apart x y c z y'
  ·exact absurd (cellLt _ _ (cl1 _ _ y')) (Nat.not_lt.mpr (Nat.le_of_succ_le (ownC _ _ z).2))
  ·exact absurd (cellLt _ _ (cl1 _ _ z)) (Nat.not_lt.mpr (Nat.le_of_succ_le (ownC _ _ y').2))
  ·exact I.ok.inj x y c (cl1 x c z) (cl1 y c y')
 ·rcases kindC x h with h|h
  ·obtain⟨z,c,hc2⟩:=has x h;exact⟨c,a8Y' z hc2⟩
  ·have:=PySem.W.cellsFrom_some (x:=x) scope.names (s.heap.objs.size+1) [] (.inl h);obtain⟨c,hc2⟩:=Option.isSome_iff_exists.mp this;exact⟨c,b0y' hc2⟩
 ·have hk:scope.names.lookup x=some .cell:=by simpa[cxC]using h
  rcases a0Q' h2 with z| ⟨z,_⟩
  ·exact Nat.le_of_succ_le (ownC _ _ z).2
  ·have:=PySem.W.cellsFrom_some (x:=x) scope.names (s.heap.objs.size+1) [] (.inl hk);rw[z]at this;cases this
 ·obtain⟨f0,f1,f2,f3,f4,f5⟩:=hf b hb;obtain⟨o,ho⟩:=hfo b hb;refine⟨lt ho,λx c h=>?_⟩;rcases a0Q' h with z| ⟨_,z⟩
  ·exact λq=>absurd (Zj ho) (Nat.not_lt.mpr (q▸Nat.le_of_succ_le (ownC _ _ z).2))
  ·exact f4 x c (cl1 x c z)
 ·obtain⟨f0,f1,f2,f3,f4,f5⟩:=hf b hb;rcases f3 with f3|f3
  ·exact I.ok.noex b o e f3
  ·exact absurd (Zj (I.ok.bs b o e).1) (Nat.not_lt.mpr f3)
 ·obtain⟨f0,f1,f2,f3,f4,f5⟩:=hf b hb;exact fs_of I f1 f2
 ·obtain⟨g1,j,g2,g3⟩:=hσ i v x e1 e2;obtain⟨m0,_,l0⟩:=I.loc
  have hv:Vis X.env.scope x:=by
   rcases sc.free _ (Zv g1) rfl with q|q
   ·exact .inr (.inl q)
   ·exact .inr (.inr q)
  obtain⟨u,r,q⟩:=l0 j x v g2 g3 hv;refine⟨u,r,.inr ⟨a1p' g1,?_⟩⟩;obtain⟨z,c,hcl⟩:=has x g1;have hcc:=cl1 x c hcl;refine⟨c,a8Y' z hcl,?_⟩;have kx:=sc.free _ (Zv g1) rfl;rcases q with⟨q,_⟩| ⟨_,c',q1,q2⟩
  ·rcases kx with kx|kx
   ·rw[q]at kx;cases kx
   ·rw[q]at kx;cases kx
  ·rw[hcc]at q1;cases q1;obtain⟨o,ho,hd⟩:=q2;exact⟨o,old _ _ ho,hd⟩
 ·rcases a0Q' h with z| ⟨_,z⟩
  ·exact⟨none,(ownC _ _ z).1⟩
  ·obtain⟨v,o,ho,hd⟩:=I.cell x c (cl1 x c z);exact⟨v,o,old _ _ ho,hd⟩
 ·rcases a0Q' h with z| ⟨_,z⟩
  ·exact I.hok.fresh (Nat.le_of_succ_le (ownC _ _ z).2)
  ·exact I.freeC x c (cl1 x c z)
 ·have hp':p∈X.pn++pq:=by simpa[cxC]using hp
  obtain⟨e,n,ne,nf,d⟩:=I.pin p hp';exact⟨old _ _ e,n,lt e,fs_of I ne nf,d⟩
theorem b2v'{C:Addr}(I:Inv X pq σ H s)(hf:∀b∈fp,FpOk X pq H b)(hC:C=s.heap.objs.size)(J:Inv (cxC X scope N C s H fp) pins' σ' H' s')(hs:Heap.SameBut C s'.heap h'):
  Inv X pq σ H' {s' with heap:=h'}:=by
 have ne:∀{b:Addr} {o:Obj},s.heap.get? b=some o→b≠C:=λe=>by rw[hC];exact ZA (Zj e)
 have B:Un (frs X.stack) fp H H' s.heap s'.heap:=J.base
 have u:Un (frs X.stack) fp H H' s.heap h':=
  ⟨λb o e n hb he=>(hs.2 b (ne e)).trans (B.keep b o e n hb he),λb o e n hb he=>by obtain⟨sl,q⟩:=B.slot b o e n hb he;exact⟨sl,(hs.2 b (ne e)).trans q⟩,B.free,
   λb o e he=>by obtain⟨o',q⟩:=B.there b o e he;exact⟨o',(hs.2 b (ne e)).trans q⟩,B.tups,B.frzs,B.tbls⟩
 have hfree:H' C=none:=J.free
 have hok:HOk X.prog X.w H' h':=λb ob e=>by
  refine(J.hok b ob e).stay (λc w' hc q=>(hs.2 c ?_).trans q) (λ_ q=>q) λ_ _ q=>q;rintro rfl;rcases hc with rfl|hc
  ·rw[hfree]at e;cases e
  ·rw[hfree]at hc;cases hc
 exact I.call' (s':={s' with heap:=h'}) (ch:=fp) J.os u hok J.bare λb hb=>by obtain⟨f0,f1,f2,f3,f4,f5⟩:=hf b hb;exact⟨f3,f1,f4,f5⟩
def PB(X:Cx)(body:Sem Unit)(t:L2.St→Hp→(L2.St→Hp→Prop)→Prop):Prop:=
 ∀(pq:Lp) (s:Shared) (σ:L2.St) (H:Hp) (Q:L2.St→Hp→Prop),Inv X pq σ H s→t σ H Q→wpAny (model X.prog X.w) X.A body (λ_ s'=>∃σ' H',Inv X pq σ' H' s'∧Q σ' H') X.xe s
theorem noteF{m:Sem α}{Q:α→Shared→Prop}(hx:X.xe=λ_ _=>False)(h:wpAny M A m Q X.xe s):wpAny M A m Q E s:=by rw[hx]at h;exact wpAny_mono h (λ_ _ q=>q) λ_ _ z=>z.elim
theorem a7w'{epos:Pos}{d:Nat}{acc:Value}{p:Pos}{body:Sem Unit}{R:Result→Shared→Prop}{Fin:L2.St→Hp→Prop}
  (hx:X.xe=λ_ _=>False) (hc:X.calm=true)
  (heq:compTurn (.ListComp elt gens scope epos) d (.ref it) acc X.env=(standAt p>>=λ_=>pyNext (.ref it)>>=λr=>match r with
   |none=>pure (.done .next)
   |some v=>letOwnedTupleGo tg (.ref it) v>>=λ_=>assign tg X.env v>>=λ_=>body>>=λ_=>again (.compLoop (.ListComp elt gens scope epos) d (.ref it) acc X.env)))
  (T:Turn X.prog X.w X.K tg J fp it tn) (hg:PG X tg g) (hb:PB X body tb) (I:Inv X pq σ H s) (st:tn 0 s.heap) (hf:∀b∈fp,FpOk X pq H b)
  (W:∃W:Nat→Nat→L2.St→Hp→Prop,(∃m,W 0 m σ H)∧∀i m σ H,W i m σ H→
   (J.stop i H∧Fin σ H)∨(J.go i H∧∃Nx:L2.St→Hp→Prop,(∀σ' H',Nx σ' H'→∃m',m'<m∧W (i+1) m' σ' H')∧∀x H',J.yld i H x H'→g x σ H' λσ2 H2=>tb σ2 H2 Nx))
  (hR:∀s' σ' H',Inv X pq σ' H' s'→(∀b∈fp,H' b=none)→Fin σ' H'→R (.ok .next) s'):codeAny (model X.prog X.w) X.A (.compLoop (.ListComp elt gens scope epos) d (.ref it) acc X.env) R s:=by
 obtain⟨W,⟨m0,w0⟩,turn⟩:=W;have stat:∀{H':Hp},(∀b∈fp,H' b=none)→∀b∈fp,FpOk X pq H' b:=λhn b hb=>⟨hn b hb,(hf b hb).2⟩;refine codeAny_loop rfl (λn s'=>∃i σ' H',Inv X pq σ' H' s'∧tn i s'.heap∧(∀b∈fp,H' b=none)∧W i n σ' H') ?_ m0 ⟨0,σ,H,I,st,λb hb=>(hf b hb).1,w0⟩;rintro n s3 ⟨i,σ3,H3,I3,st3,fr3,w3⟩;show wpAny _ X.A ((compTurn (.ListComp elt gens scope epos) d (.ref it) acc X.env).onRaise (λx=>do noteFrame x X.env;theTreesLotGoes x)) _ _ s3;refine wpAny_noted ?_;rw[heq];refine Za (wpAny_standAt ?_);rcases turn i n σ3 H3 w3 with⟨stop,qn⟩| ⟨go,Nx,hN,step⟩
 ·refine Za (noteF hx (thn (T.done X rfl rfl rfl hc i pq s3 σ3 H3 X.xe I3 (stat fr3) st3 stop) λr s4 ⟨hr,I4⟩=>?_));subst hr;exact Zg (hR s4 σ3 H3 I4 fr3 qn)
 ·refine Za (noteF hx (thn (T.item X rfl rfl rfl hc i pq s3 σ3 H3 X.xe I3 (stat fr3) st3 go) λr s4 ⟨u,hr,h4⟩=>?_));subst hr;refine Za (noteF hx (thn h4 λ_ s5 ⟨x,H5,I5,r5,y5,st5,fr5⟩=>?_));have I5':=I5.pinned (stat fr5) (T.obj _ _ st5);refine Za (noteF hx (thn (hg _ s5 σ3 H5 x u _ I5' r5 (step x H5 y5)) λ_ s6 ⟨σ6,H6,I6,q6⟩=>?_));refine Za (noteF hx (thn (hb _ s6 σ6 H6 _ I6 q6) λ_ s7 ⟨σ7,H7,I7,n7⟩=>?_));refine Zg ?_;obtain⟨m',hm,w7⟩:=hN σ7 H7 n7;refine⟨rfl,m',hm,i+1,σ7,H7,I7.unpinned,T.keep _ _ _ st5 λb hb o e=>(I7.pin (b,o) (Zq _ (Zq _ (a2U' hb e)))).1,λb hb=>?_,w7⟩;obtain⟨o,e,d⟩:=T.obj _ _ st5 b hb;exact(I7.pin (b,o) (Zq _ (Zq _ (a2U' hb e)))).2.1
abbrev TU:=L2.St→Hp→(L2.St→Hp→Prop)→Prop
noncomputable def b0z':List TT→(L2.St→Hp→(Bool→Hp→Prop)→Prop)
 | []=>λ_ H Q=>Q true H
 |t::r=>λσ H Q=>t σ H λb H1=>if b=true then b0z' r σ H1 Q else Q false H1
def PTs(X:Cx):Lx→List TT→Prop
 | [],[]=>True
 |e::es,t::ts=>PT X e t∧PTs X es ts
 |_,_=>False
theorem a4G'{M:Model}{A:Around}{E:Vs}{env:Env}{Q:Bool→Shared→Prop}{s:Shared}:∀(ifs:Lx),Q false s→
  wpAny M A (forIn ifs false λc r=>if r=true then do let ok ←isTrue c env (eval c env);pure (ForInStep.yield ok)else pure (ForInStep.yield r)) Q E s
 | [],h=>Zg h
 |c::r,h=>by rw[List.forIn_cons];simp only[Zo,ZR];exact Za (Zg (a4G' r h))
theorem a8Z':∀(ifs:Lx) (ts:List TT),PTs X ifs ts→∀(pq:Lp) (s:Shared) (σ:L2.St) (H:Hp) (Q:Bool→Hp→Prop),Inv X pq σ H s→b0z' ts σ H Q→
  wpAny (model X.prog X.w) X.A (forIn ifs true λc r=>if r=true then do let ok ←isTrue c X.env (eval c X.env);pure (ForInStep.yield ok)else pure (ForInStep.yield r)) (TP X pq σ Q) X.xe s
 | [],[],_,pq,s,σ,H,Q,I,h=>Zg ⟨H,I,h⟩
 |e::es,t::ts,p,pq,s,σ,H,Q,I,h=>by
  rw[List.forIn_cons];simp only[if_true];refine Za (Za (thn (p.1 pq s σ H _ I h) λb s1 ⟨H1,I1,q1⟩=>Zg ?_));cases b with
  |true=>rw[if_pos rfl]at q1;exact a8Z' es ts p.2 pq s1 σ H1 Q I1 q1
  |false=>rw[if_neg (by decide)]at q1;exact a4G' es ⟨H1,I1,q1⟩
 | [],_::_,p,_,_,_,_,_,_,_=>p.elim
 |_::_,[],p,_,_,_,_,_,_,_=>p.elim
noncomputable def tEmit(acc:Addr)(te:TE):TU:=λσ H Q=>te σ H λv H1=>∃ys,H1 acc=some (.lst ys)∧ys.length<sizeLine∧Q σ (upd H1 acc (.lst (ys++[v])))
noncomputable def tWhen(ts:List TT)(t:TU):TU:=λσ H Q=>b0z' ts σ H λb H1=>if b=true then t σ H1 Q else Q σ H1
noncomputable def tInner(wi:TI)(g:TG)(tb:TU):TU:=λσ H Q=>wi σ H λJ H1=>∃W:Nat→Nat→L2.St→Hp→Prop,(∃m,W 0 m σ H1)∧∀i m σ H,W i m σ H→
   (J.stop i H∧Q σ H)∨(J.go i H∧∃Nx:L2.St→Hp→Prop,(∀σ' H',Nx σ' H'→∃m',m'<m∧W (i+1) m' σ' H')∧∀x H',J.yld i H x H'→g x σ H' λσ2 H2=>tb σ2 H2 Nx)
def tComp(cs:L2.St→L2.St)(wi:TI)(g:TG)(tb:Addr→TU):TE:=λσ H Q=>wi σ H λJ H1=>∀acc,H1 acc=none→
 ∃W:Nat→Nat→L2.St→Hp→Prop,(∃m,W 0 m (cs σ) (upd H1 acc (.lst [])))∧∀i m σ H,W i m σ H→
   (J.stop i H∧Q (.ref acc) H)∨(J.go i H∧∃Nx:L2.St→Hp→Prop,(∀σ' H',Nx σ' H'→∃m',m'<m∧W (i+1) m' σ' H')∧∀x H',J.yld i H x H'→g x σ H' λσ2 H2=>tb acc σ2 H2 Nx)
def CsOk(X:Cx)(scope:Scope)(N:Ls)(cs:L2.St→L2.St):Prop:=∀σ:L2.St,σ.length=X.N.length→(cs σ).length=N.length∧
 ∀(i:Nat) (v:V) (x:Str),N[i]?=some x→(cs σ)[i]?=some (some v)→scope.names.lookup x=some .free∧∃j:Nat,X.N[j]?=some x∧σ[j]?=some (some v)
theorem b1y'(I:Inv X pq σ H s)(sc:CScope X scope):closureFor scope X.env=pure (clOf X.env scope.names []):=
 a5T' λx hx hk=>I.ok.has x.1 (sc.free x hx hk)
theorem b0A'(h3:Heap)(d:Obj)(names:List (Str×NameKind)):CellsOk (pushCells (h3.push d) names) (h3.objs.size+1) (cellsFrom (h3.objs.size+1) names []):=by have e:(h3.push d).objs.size=h3.objs.size+1:=Heap.size_push ..;have:=cellsFrom_ok names (h3.push d) (h3.objs.size+1) [] ⟨(λ_ _ h=>by cases h),.nil⟩ (by rw[e];exact Zi _);rw[e]at this;exact this
theorem a7x'{rest:List Comprehension}{pos:Pos}{cs:L2.St→L2.St}{tb:Addr→TU}{R:Value→Addr→Result→Shared→Prop}{Fin:V→Hp→Prop}
         {E:Vs} (hc:X.calm=true) (sc:CScope X scope) (hcs:CsOk X scope N cs) (I:Inv X pq σ H s) (T:Turn X.prog X.w X.K tg J fp it tn) (st:tn 0 s.heap) (hf:∀b∈fp,FpOk X pq H b)
  (body:Addr→Env→Sem Unit)
  (heq:∀(acc:Addr) (env:Env),compTurn (.ListComp elt (⟨tg,iter,ifs,0⟩::rest) scope pos) 0 (.ref it) (.ref acc) env=(standAt iter.pos>>=λ_=>pyNext (.ref it)>>=λr=>match r with
   |none=>pure (.done .next)
   |some v=>letOwnedTupleGo tg (.ref it) v>>=λ_=>assign tg env v>>=λ_=>body acc env>>=λ_=>again (.compLoop (.ListComp elt (⟨tg,iter,ifs,0⟩::rest) scope pos) 0 (.ref it) (.ref acc) env)))
  (hin:∀(C:Addr) (s0:Shared) (H0:Hp) (fp:La) (acc:Addr),PG (cxC X scope N C s0 H0 fp) tg g∧PB (cxC X scope N C s0 H0 fp) (body acc (cxC X scope N C s0 H0 fp).env) (tb acc))
  (W:∀acc,H acc=none→∃W:Nat→Nat→L2.St→Hp→Prop,(∃m,W 0 m (cs σ) (upd H acc (.lst [])))∧∀i m σ H,W i m σ H→
   (J.stop i H∧Fin (.ref acc) H)∨(J.go i H∧∃Nx:L2.St→Hp→Prop,(∀σ' H',Nx σ' H'→∃m',m'<m∧W (i+1) m' σ' H')∧∀x H',J.yld i H x H'→g x σ H' λσ2 H2=>tb acc σ2 H2 Nx))
  (hR:∀(acc C:Addr) (s':Shared) (H':Hp) (m:Mg),s'.heap.Ns C m→C≠X.env.locals→(∀x c,X.env.cells.lookup x=some c→c≠C)→H' C=none→X.s₀.heap.objs.size≤C→(∀p∈X.pn++pq,p.1≠C)→(∀h',Heap.SameBut C s'.heap h'→Inv X pq σ H' {s' with heap:=h'})→Fin (.ref acc) H'→R (.ref acc) C (.ok .next) s'):
  wpAny (model X.prog X.w) X.A (newList []) (λacc s₃=>wpAny (model X.prog X.w) X.A (newFunctionEnv scope X.env.globals (clOf X.env scope.names []) [] X.env.qual none .none (some X.env)) (λcenv s₄=>
   codeAny (model X.prog X.w) X.A (.compStart (.ListComp elt (⟨tg,iter,ifs,0⟩::rest) scope pos) 0 (.ref it) acc {cenv with scope:=relabel scope X.env}) (R acc cenv.locals) s₄) E s₃) E s:=by
 refine ZY (b0x' ?_);have hfr:H s.heap.objs.size=none:=I.hok.fresh (Zi _);have I3:Inv X pq σ (upd H s.heap.objs.size (.lst [])) {s with heap:=s.heap.push {cls:=.type "list",data:=.seq ([]:Lv).toArray},toks:=s.toks}:=I.lnew (its:=[]) (ys:=[]) .nil (Nat.zero_le _);have fpl:∀b∈fp,∃o,s.heap.get? b=some o:=λb hb=>by obtain⟨o,e,_⟩:=T.obj _ _ st b hb;exact⟨o,e⟩
 have hf3:∀b∈fp,FpOk X pq (upd H s.heap.objs.size (.lst [])) b:=λb hb=>by obtain⟨f0,f1⟩:=hf b hb;obtain⟨o,ho⟩:=fpl b hb;exact⟨by rw[a0u' (ZA (Zj ho))];exact f0,f1⟩
 have fpl3:∀b∈fp,∃o,(s.heap.push {cls:=.type "list",data:=.seq ([]:Lv).toArray}).get? b=some o:=λb hb=>by obtain⟨o,ho⟩:=fpl b hb;exact⟨o,Zc _ ho⟩
 obtain⟨k1,k2⟩:=hcs σ I.len;obtain⟨h₁,eh⟩:∃h₁,h₁=pushCells ((s.heap.push {cls:=.type "list",data:=.seq ([]:Lv).toArray}).push {cls:=.type "dict",data:=.dict #[]}) scope.names:=⟨_,rfl⟩;have old3:∀b o,(s.heap.push {cls:=.type "list",data:=.seq ([]:Lv).toArray}).get? b=some o→h₁.get? b=some o:=λb o e=>by rw[eh];exact pushCells_keeps _ _ _ _ (Zc _ e)
 have hns₁:h₁.Ns (s.heap.push {cls:=.type "list",data:=.seq ([]:Lv).toArray}).objs.size λ_=>none:=by rw[eh];exact⟨_,_,_,pushCells_keeps _ _ _ _ (Zk _ rfl),rfl,(λx h=>by simp at h),λ_=>rfl⟩
 have hcl:CellsOk h₁ ((s.heap.push {cls:=.type "list",data:=.seq ([]:Lv).toArray}).objs.size+1) (cellsFrom ((s.heap.push {cls:=.type "list",data:=.seq ([]:Lv).toArray}).objs.size+1) scope.names []):=by rw[eh];exact b0A' _ _ _
 rw[←eh];have J0:=b2u' (tk:=s.toks) (N:=N) (scope:=scope) (σ':=cs σ) hc I3 sc hf3 fpl3 hns₁ old3 hcl k1 k2;have old:∀b o,s.heap.get? b=some o→h₁.get? b=some o:=λb o e=>old3 b o (Zc _ e);have st1:tn 0 h₁:=T.keep _ _ _ st λb _ o e=>old b o e;have hlt:X.env.locals<(s.heap.push {cls:=.type "list",data:=.seq ([]:Lv).toArray}).objs.size:=I3.lt
 have loop:codeAny (model X.prog X.w) X.A (.compLoop (.ListComp elt (⟨tg,iter,ifs,0⟩::rest) scope pos) 0 (.ref it) (.ref s.heap.objs.size) (cxC X scope N (s.heap.push {cls:=.type "list",data:=.seq ([]:Lv).toArray}).objs.size {s with heap:=s.heap.push {cls:=.type "list",data:=.seq ([]:Lv).toArray},toks:=s.toks} (upd H s.heap.objs.size (.lst [])) fp).env)
   (R (.ref s.heap.objs.size) (s.heap.push {cls:=.type "list",data:=.seq ([]:Lv).toArray}).objs.size) {s with heap:=h₁,toks:=s.toks}:=by
  obtain⟨p1,p2⟩:=hin (s.heap.push {cls:=.type "list",data:=.seq ([]:Lv).toArray}).objs.size {s with heap:=s.heap.push {cls:=.type "list",data:=.seq ([]:Lv).toArray},toks:=s.toks} (upd H s.heap.objs.size (.lst [])) fp s.heap.objs.size;refine a7w' (X:=cxC X scope N _ _ _ fp) (Fin:=λ_ H'=>Fin (.ref s.heap.objs.size) H') rfl hc (heq _ _) T p1 p2 J0 st1 (λb hb=>?_) ?_ ?_
  ·obtain⟨f0,f1,f2,f3,f4,f5⟩:=hf3 b hb;obtain⟨o,ho⟩:=fpl3 b hb;refine⟨f0,ZA (Zj ho),fs_of I3 f1 f2,.inl hb,λx c h=>?_,λp hp=>f5 p (by simpa[cxC]using hp)⟩;rcases a0Q' h with z| ⟨_,z⟩
   ·exact λq=>absurd (Zj ho) (Nat.not_lt.mpr (q▸Nat.le_of_succ_le (hcl.empty x c (Zv z)).2))
   ·exact f4 x c (a6M' scope.names [] (λ_ z=>nomatch z) (x,c) (Zv z))
  ·exact W _ hfr
  ·intro s' σ' H' J1 _ fin;obtain⟨m,hm,_⟩:=id J1.loc;refine hR _ _ s' H' m hm (Nat.ne_of_gt hlt) (λx c h z=>?_) J1.free I3.sz (λp hp z=>?_) (λh' hs'=>?_) fin
   ·obtain⟨v,q⟩:=I3.cell x c h;exact absurd q.lt (by rw[z];exact ZN _)
   ·exact absurd (Zj (I3.pin p hp).1) (by rw[z];exact ZN _)
   ·exact b2v' I3 hf3 rfl J1 hs'
 exact codeAny_compStart_list loop (T.self _ 0 _ _ _ st1 loop)
theorem pe_comp{rest:List Comprehension}{pos:Pos}{cs:L2.St→L2.St}{tb:Addr→TU}(hc:X.calm=true)(sc:CScope X scope)(hcs:CsOk X scope N cs)(hi:PI X tg iter wi)(body:Addr→Env→Sem Unit)
  (heq:∀(it acc:Addr) (env:Env),compTurn (.ListComp elt (⟨tg,iter,ifs,0⟩::rest) scope pos) 0 (.ref it) (.ref acc) env=(standAt iter.pos>>=λ_=>pyNext (.ref it)>>=λr=>match r with
   |none=>pure (.done .next)
   |some v=>letOwnedTupleGo tg (.ref it) v>>=λ_=>assign tg env v>>=λ_=>body acc env>>=λ_=>again (.compLoop (.ListComp elt (⟨tg,iter,ifs,0⟩::rest) scope pos) 0 (.ref it) (.ref acc) env)))
  (hin:∀(C:Addr) (s0:Shared) (H0:Hp) (fp:La) (acc:Addr),PG (cxC X scope N C s0 H0 fp) tg g∧PB (cxC X scope N C s0 H0 fp) (body acc (cxC X scope N C s0 H0 fp).env) (tb acc))
  (hs:∀x,foldedSetIterable iter X.env x=pure x:=by intro _;rfl):PE X (.ListComp elt (⟨tg,iter,ifs,0⟩::rest) scope pos) (tComp cs wi g tb):=by
 intro pq s σ H Q I h;rw[eval_ListComp];refine wpAny_comprehension_free (use:=none) rfl hs (b1y' I sc) sc.kind sc.loc (wpAny_mono (hi pq s σ H _ I h) (λv s1 h1=>wpAny_mono h1 (λitv s2 h2=>?_) λ_ _ e=>e) λ_ _ e=>e);obtain⟨it,fp,tn,J,H2,e,I2,T,st2,f2,W⟩:=h2;subst e;refine a7x' (R:=λacc C=>compPost (model X.prog X.w) X.A X.xe none (EP X pq σ Q) acc C) (Fin:=Q) hc sc hcs I2 T st2 f2 body (heq it) hin W ?_;intro acc C s' H' m hm _ _ _ _ _ hI fin;exact⟨m,hm,λh' hs'=>⟨.ref acc,H',hI h' hs',rfl,fin⟩⟩
theorem ps_comp{rest:List Comprehension}{pos spos px:Pos}{cs:L2.St→L2.St}{tb:Addr→TU}{x:Str}{j:Nat}(hc:X.calm=true)(hN:X.N.Nodup)(hj:X.N[j]?=some x)(hx:X.env.scope.names.lookup x=some .local)
  (hsw:swapsWith (.ListComp elt (⟨tg,iter,ifs,0⟩::rest) scope pos) (some (.Name x px)) spos.line X.env=pure true)
  (sc:CScope X scope) (hcs:CsOk X scope N cs) (hi:PI X tg iter wi) (body:Addr→Env→Sem Unit)
  (heq:∀(it acc:Addr) (env:Env),compTurn (.ListComp elt (⟨tg,iter,ifs,0⟩::rest) scope pos) 0 (.ref it) (.ref acc) env=(standAt iter.pos>>=λ_=>pyNext (.ref it)>>=λr=>match r with
   |none=>pure (.done .next)
   |some v=>letOwnedTupleGo tg (.ref it) v>>=λ_=>assign tg env v>>=λ_=>body acc env>>=λ_=>again (.compLoop (.ListComp elt (⟨tg,iter,ifs,0⟩::rest) scope pos) 0 (.ref it) (.ref acc) env)))
  (hin:∀(C:Addr) (s0:Shared) (H0:Hp) (fp:La) (acc:Addr),PG (cxC X scope N C s0 H0 fp) tg g∧PB (cxC X scope N C s0 H0 fp) (body acc (cxC X scope N C s0 H0 fp).env) (tb acc))
  (hs:∀x,foldedSetIterable iter X.env x=pure x:=by intro _;rfl):PS X (.Assign [.Name x px] (.ListComp elt (⟨tg,iter,ifs,0⟩::rest) scope pos) spos) (tAsg (tComp cs wi g tb) (gName j)):=by
 intro pq s σ H D I h;rw[exec_Assign_Name_used _ _ _ _ hsw];refine Za (wpAny_standAt (Za ?_));show wpAny _ X.A (do let _ ←comprehension (.ListComp elt (⟨tg,iter,ifs,0⟩::rest) scope pos) scope X.env _ (newList []) false (eval iter X.env) (some (assign (.Name x px) X.env))) _ _ s
 refine Za (wpAny_mono (wpAny_comprehension_free (use:=some (assign (.Name x px) X.env)) (Q:=λ_ s'=>SP X pq D .next s') rfl hs (b1y' I sc) sc.kind sc.loc
  (wpAny_mono (hi pq s σ H _ I h) (λv s1 h1=>wpAny_mono h1 (λitv s2 h2=>?_) λ_ _ e=>e) λ_ _ e=>e)) (λ_ s' hq=>Zg (Zg hq)) λ_ _ e=>e)
 obtain⟨it,fp,tn,J,H2,e,I2,T,st2,f2,W⟩:=h2;subst e;refine a7x' (R:=λacc C=>compPost (model X.prog X.w) X.A X.xe (some (assign (.Name x px) X.env)) (λ_ s'=>SP X pq D .next s') acc C) (Fin:=λv H'=>gName j v σ H' D.nx) hc sc hcs I2 T st2 f2 body (heq it) hin W ?_;intro acc C s' H' m hm hCL hCc hC1 hC2 hC3 hI fin;show wpAny _ X.A (assign (.Name x px) X.env (.ref acc)) _ _ s'
 have I4:Inv X pq σ H' s':=by have:=hI s'.heap (.refl ..);simpa using this
 refine wpAny_assign_Name (a7l' I4 hN hj (.inl hx) (v:=.ref acc) rfl (λs'' I5 hch=>?_) (.inr hx));obtain⟨a,hsb,ha⟩:=hch
 have hCa:C≠a:=by
  rcases ha with rfl|ha
  ·exact hCL
  ·exact λz=>hCc x a ha z.symm
 refine⟨m,hm.sameBut hsb hCa,λh' hs'=>?_⟩;exact⟨_,H',I5.turned (h':=h') (t':=s''.toks) (it:=C) (λb o hb e=>(hs'.2 b hb).trans e) hC1 hCL (.inr hC2) hCc hC3,fin⟩
theorem RepL.eraseIdx{mg:GS}:∀{ds:List D} {vs:List V} (i:Nat),RepL K mg μ H ds vs→RepL K mg μ H (ds.eraseIdx i) (vs.eraseIdx i)
 | [],vs,i,h=>by unfold RepL at h;subst h;simpa using RepL.nil
 |d::ds,vs,0,h=>by obtain⟨v,us,rfl,r,q⟩:=h.uncons;exact q
 |d::ds,vs,i+1,h=>by obtain⟨v,us,rfl,r,q⟩:=h.uncons;exact .cons r (RepL.eraseIdx i q)
noncomputable def b2w'(d:D)(ds:List D)(S:Store):Res D:=match d,ds with
 | .ref n,[.int i]=>match S[n]? with
  |some xs=>match ixN xs.length i with
   |some k=>match xs[k]? with
    |some y=>if xs.length≤big then .ok y (S.set n (xs.eraseIdx k))else .fail
    |none=>.fail
   |none=>.fail
  |none=>.fail
 |_,_=>.fail
theorem popAt_D:MtR X "list.pop" (rM X.K X.mg b2w'):=by
 intro pq s σ H x xs v us Q I rx rs h;obtain⟨F,μ,S,d,ds,sk,rd,rds,w⟩:=h;unfold b2w' at w;split at w
 ·split at w
  ·rename_i n i _ ys e;split at w
   ·rename_i k ek;split at w
    ·rename_i y e2;split at w
     ·rename_i hz;obtain⟨a,vs,rfl,hn,ha,r⟩:=a5R' sk rd e;obtain⟨vi,rfl,ri⟩:=rds.one;cases a0c' ri;obtain⟨z,h1,h2⟩:=r.get e2;obtain⟨q1,q2,q3,q4⟩:=a8L' ek;rw[r.length]at q1;exact b2m' pq s σ H _ _ v us Q I rx rs ⟨a,vs,i,k,z,rfl,rfl,ha,by have:=Nat.pow_pos (n:=63) (show 0<2 by decide);unfold big at hz;omega,by unfold big at hz;omega,q1,h1,w.wrote sk hn ha (r.eraseIdx k) h2⟩
     ·exact w.elim
    ·exact w.elim
   ·exact w.elim
  ·exact w.elim
 ·exact w.elim
def a7y'(ds:List D)(S:Store):Res D:=maxD ds S
theorem max_any(hc:X.calm=true):CallR X (.builtin "max") (rC X.K X.mg a7y'):=max_D hc
def a5l'(ds:List D)(S:Store):Res D:=minD ds S
theorem b2x'(hc:X.calm=true)(hu:1=1):CallR X (.builtin "min") (rC X.K X.mg a5l'):=min_D hc
mutual
noncomputable def toPy:D→Option PyData
 | .non=>some .none
 | .bl b=>some (.bool b)
 | .int i=>some (.int i)
 | .str x=>some (.str x)
 | .tup ds=>(toPyL ds).map .tuple
 | .lst ds=>(toPyL ds).map .list
 |_=>none
noncomputable def toPyL:List D→Option (List PyData)
 | []=>some []
 |d::ds=>match toPy d,toPyL ds with
  |some p,some ps=>some (p::ps)
  |_,_=>none
end
mutual
theorem b2y'(I:Inv X pq σ H s):∀(d:D) (v:V) (u:Value) (p:PyData),Rep X.K ⟨X.mg,F⟩ μ H d v→RelV v u→toPy d=some p→p.hasDict=false∧∃as,Reads s.heap u p as
 | .non,v,u,p,r,q,h=>by cases a3U' r;have q:u=.none:=q;subst q;cases h;exact⟨rfl,_,.none⟩
 | .bl b,v,u,p,r,q,h=>by cases a5P' r;have q:u=.bool b:=q;subst q;cases h;exact⟨rfl,_,.bool b⟩
 | .int i,v,u,p,r,q,h=>by cases a0c' r;obtain⟨t,rfl⟩:=q;cases h;exact⟨rfl,_,.int i t⟩
 | .str x,v,u,p,r,q,h=>by cases a3w' r;obtain⟨t,rfl⟩:=q;cases h;exact⟨rfl,_,.str x t⟩
 | .tup ds,v,u,p,r,q,h=>by
  obtain⟨a,vs,rfl,ha,rr⟩:=a0C' r;have q:u=.ref a:=q;subst q;obtain⟨its,rv,⟨o,h1,h2,n,h3⟩,_⟩:=I.tuple ha;have h:(toPyL ds).map PyData.tuple=some p:=h;cases e:toPyL ds with
  |none=>rw[e]at h;cases h
  |some ps=>rw[e]at h;cases h;obtain⟨k1,as,k2⟩:=a5m' I ds vs its ps rr rv e;exact⟨k1,as,.tuple h1 h2 h3 (by simpa using k2)⟩
 | .lst ds,v,u,p,r,q,h=>by
  unfold Rep at r;obtain⟨a,vs,rfl,ha,_,rr⟩:=r;have q:u=.ref a:=q;subst q;obtain⟨its,rv,pl,_⟩:=I.list (.of ha);obtain⟨o,h1,h2,n,h3⟩:=pl.isList;have h:(toPyL ds).map PyData.list=some p:=h;cases e:toPyL ds with
  |none=>rw[e]at h;cases h
  |some ps=>rw[e]at h;cases h;obtain⟨k1,as,k2⟩:=a5m' I ds vs its ps rr rv e;exact⟨k1,_,.list h1 h2 h3 (by simpa using k2)⟩
 | .ref _,v,u,p,r,q,h=>by cases h
 | .scr _,v,u,p,r,q,h=>by cases h
 | .fn _,v,u,p,r,q,h=>by cases h
 | .dct,v,u,p,r,q,h=>by cases h
 | .ty _,v,u,p,r,q,h=>by cases h
theorem a5m'(I:Inv X pq σ H s):∀(ds:List D) (vs:List V) (us:Lv) (ps:List PyData),RepL X.K ⟨X.mg,F⟩ μ H ds vs→Vals vs us→toPyL ds=some ps→PyData.hasDictAll ps=false∧∃as,ReadsAll s.heap us ps as
 | [],vs,us,ps,r,q,h=>by unfold RepL at r;subst r;cases q.zero;cases h;exact⟨rfl,_,.nil⟩
 |d::ds,vs,us,ps,r,q,h=>by
  obtain⟨w,ws,rfl,r1,r2⟩:=r.uncons;obtain⟨u,us',rfl,q1,q2⟩:=q.un;unfold toPyL at h;split at h
  ·rename_i p ps' e1 e2;cases h;obtain⟨k1,as,k2⟩:=b2y' I d w u p r1 q1 e1;obtain⟨k3,bs,k4⟩:=a5m' I ds ws us' ps' r2 q2 e2;exact⟨by show(PyData.hasDict p||PyData.hasDictAll ps')=false;rw[k1,k3];rfl,_,.cons k2 k4⟩
  ·cases h
end
open PySem.SeqAt PySem.MeetsSeq PySem.MeetsSeq2 PySem.MeetsSeq3
open PySem.AutoSeq1 (wpAny_loadPart')
end Py
namespace Py
section
open PySem.AutoSeq1 (wpAny_loadPart')
open PySem.MeetsSeq PySem.MeetsSeq2 PySem.MeetsSeq3
open PySem.AutoSeq1
end
inductive KTy where
 |int|seq (t:KTy)
 deriving DecidableEq
inductive Blt where
 |len|tuple|list (box:Bool)|int|min|max|isinst|all|any|sum|repr|abs|sorted (box:Bool) (t:KTy)
 deriving DecidableEq
inductive Mth where
 |append|extend|pop|count|insert
 deriving DecidableEq
inductive CT where
 |var (i:Nat)
 |tup (ts:List CT)
inductive CE where
 |var (i:Nat)
 |lit (d:D)
 |glob (x:Str)
 |ty (n:String)
 |bin (op:Operator) (a b:CE)
 |binB (a b:CE)
 |neg (a:CE)
 |cmp (op:CmpOp) (a b:CE)
 |chain (op op':CmpOp) (a b c:CE)
 |band (a b:CE)
 |bor (a b:CE)
 |bnot (a:CE)
 |ite (c a b:CE)
 |tup (es:List CE)
 |lst (box:Bool) (es:List CE)
 |idx (a b:CE)
 |sl (a:CE) (lo hi:List CE)
 |call (f:Str) (es:List CE)
 |blt (b:Blt) (es:List CE)
 |meth (m:Mth) (o:CE) (es:List CE)
 |tix (o:CE) (es:List CE)
 |lenset (a:CE)
 |sumL (a:CE)
 |rng (tup box:Bool) (es:List CE)
 |comp (box:Bool) (N:Ls) (fr:List (Option Nat)) (tg:CT) (it:CE) (ifs:List CE) (body:CE)
 |emit (e:CE)
 |inner (tg:CT) (it:CE) (ifs:List CE) (body:CE)
 |seq (e:CE)
 |range (es:List CE)
 |zip (es:List CE)
 |down (es:List CE)
 |dct
 |rev (a b:CE)
 |odd (a b c:CE)
 |rv0 (a b c:CE)
 |enum (es:List CE)
 |revl (es:List CE)
 |by2 (es:List CE)
inductive CS where
 |asg (i:Nat) (e:CE)
 |asgT (t:CT) (e:CE)
 |par (is:List Nat) (es:List CE)
 |aug (i:Nat) (e:CE)
 |set (o i v:CE)
 |set2 (o i o' i' v:CE)
 |expr (e:CE)
 |ret (e:CE)
 |retN
 |pass
 |brk
 |cont
 |ite (c:CE) (a b:List CS)
 |for_ (t:CT) (it:CE) (body:List CS)
 |while_ (n:Nat) (c:CE) (body:List CS)
 |never
abbrev Rho:=List (Option D)
abbrev FT:=Str→Option (List D→Store→Res D)
noncomputable def Res.bind{α β:Type}(r:Res α)(f:α→Store→Res β):Res β:=match r with
 | .ok a S=>f a S
 | .err x S=>.err x S
 | .fail=>.fail
noncomputable def Res.noErr{α:Type}:Res α→Res α
 | .ok a S=>.ok a S
 |_=>.fail
noncomputable def onBl{α:Type}(d:D)(f:Bool→Res α):Res α:=match d with
 | .bl k=>f k
 |_=>.fail
noncomputable def asgVs:List CT→List D→Rho→Option Rho
 | [],ds,ρ=>if ds.isEmpty=true then some ρ else none
 |t::ts,ds,ρ=>match t,ds with
  | .var i,d::ds=>asgVs ts ds (ρ.set i (some d))
  |_,_=>none
noncomputable def asgCT:CT→D→Rho→Option Rho
 | .var i,d,ρ=>some (ρ.set i (some d))
 | .tup ts,d,ρ=>match d with
  | .tup ds=>asgVs ts ds ρ
  |_=>none
noncomputable def a1h':List CT→List Nat
 | []=>[]
 |t::ts=>match t with
  | .var i=>i::a1h' ts
  | .tup _=>a1h' ts
def slots:CT→List Nat
 | .var i=>[i]
 | .tup ts=>a1h' ts
noncomputable def isNew:Rho→List Nat→Bool
 |ρ,is=>is.all λi=>match ρ[i]? with
  |some none=>true
  |_=>false
noncomputable def a0q'(t:CT)(d:D)(ρ:Rho):Option Rho:=if isNew ρ (slots t)=true then asgCT t d ρ else none
inductive Its where
 |items (xs:List D)|live (f:Nat) (get:Store→Nat→Option (Option D))
noncomputable def compD(step:D→List D→Store→Res (List D)):List D→List D→Store→Res (List D)
 | [],acc,S=>.ok acc S
 |x::xs,acc,S=>(step x acc S).bind λacc' S'=>compD step xs acc' S'
noncomputable def compB(step:D→List D→Store→Res (List D))(get:Store→Nat→Option (Option D)):Nat→Nat→List D→Store→Res (List D)
 |0,_,_,_=>.fail
 |f+1,i,acc,S=>match get S i with
  |none=>.fail
  |some none=>.ok acc S
  |some (some x)=>(step x acc S).bind λacc' S'=>compB step get f (i+1) acc' S'
noncomputable def compI(step:D→List D→Store→Res (List D))(its:Its)(acc:List D)(S:Store):Res (List D):=match its with
 | .items xs=>compD step xs acc S
 | .live f get=>compB step get f 0 acc S
noncomputable def a1t'(n:Nat):Store→Nat→Option (Option D):=λS i=>(S[n]?).map λxs=>xs[i]?
noncomputable def a1y'(S:Store):D→Option Its
 | .tup xs=>some (.items xs)
 | .lst xs=>some (.items xs)
 | .scr xs=>some (.items xs)
 | .ref n=>some (.live (((S[n]?).getD []).length+1) (a1t' n))
 |_=>none
noncomputable def b0B':D→Option (List D)
 | .tup xs=>some xs
 | .lst xs=>some xs
 | .scr xs=>some xs
 |_=>none
noncomputable def b0C'(d e:D):Store→Nat→Option (Option D):=λS i=>match seqOf S d,seqOf S e with
 |some xs,some ys=>some (match xs[i]?,ys[i]? with
  |some x,some y=>some (.tup [x,y])
  |_,_=>none)
 |_,_=>none
def isLst:D→Bool
 | .tup _=>false
 |_=>true
noncomputable def zipOf(S:Store)(d e:D):Option Its:=match b0B' d,b0B' e with
  |some xs,some ys=>some (.items (List.zipWith (λx y=>.tup [x,y]) xs ys))
  |_,_=>match seqOf S d,seqOf S e with
   |some xs,some ys=>some (.live (min xs.length ys.length+1) (b0C' d e))
   |_,_=>none
noncomputable def a1G'(lo:Int):Nat→List D
 |0=>[]
 |n+1=>.int lo::a1G' (lo+1) n
noncomputable def toOpt:List D→Option (Option Int)
 | []=>some none
 | [.int i]=>some (some i)
 |_=>none
noncomputable def optL(ds:List D)(S:Store):Res (Option Int):=match toOpt ds with
 |some o=>.ok o S
 |none=>.fail
noncomputable def hasTy:KTy→D→Bool
 | .int,.int _=>true
 | .seq t,.tup xs=>xs.all (hasTy t)
 |_,_=>false
noncomputable def lexB(f:D→D→Bool):List D→List D→Bool
 | [],[]=>false
 | [],_::_=>true
 |_::_,[]=>false
 |x::xs,y::ys=>if f x y=true then true else if f y x=true then false else lexB f xs ys
noncomputable def ltK:KTy→D→D→Bool
 | .int,.int i,.int j=>decide (i<j)
 | .seq t,.tup xs,.tup ys=>lexB (ltK t) xs ys
 |_,_,_=>false
noncomputable def insB(f:D→D→Bool)(x:D):List D→List D
 | []=>[x]
 |y::ys=>if f x y=true then x::y::ys else y::insB f x ys
noncomputable def a5n'(f:D→D→Bool)(xs:List D):List D:=xs.foldl (λacc x=>insB f x acc) []
def noStr:KTy→Bool
 | .int=>true
 | .seq t=>noStr t
def isNil:D→Bool
 | .tup []=>true
 |_=>false
noncomputable def a5o':KTy→List D→Bool
 | .int,_=>true
 | .seq t,xs=>noStr t&&((xs.all λd=> !isNil d)||isNil (xs.headD .non))
noncomputable def a3y'(box:Bool)(t:KTy)(ds:List D)(S:Store):Res D:=match ds with
 | [d]=>match seqOf S d with
  |some xs=>if xs.all (hasTy t)=true∧xs.length<64∧a5o' t xs=true then(if box=true then .ok (.ref S.length) (S++[a5n' (ltK t) xs])else .ok (.lst (a5n' (ltK t) xs)) S)else .fail
  |none=>.fail
 |_=>.fail
noncomputable def lstsD:List D→Option (List (List D))
 | []=>some []
 | .lst ds::r=>(lstsD r).map (ds:: ·)
 |_=>none
noncomputable def catD(d:D)(S:Store):Res D:=match d with
 | .lst xs=>match lstsD xs with
  |some yss=>if 1≤xs.length∧yss.flatten.length≤big then .ok (.lst yss.flatten) S else .fail
  |none=>.fail
 |_=>.fail
noncomputable def rngR(tup box:Bool)(i j:Int)(S:Store):Res D:=if(-(2^62)≤i∧i<2^62∧-(2^62)≤j∧j<2^62)∧(j-i).toNat≤1000 then
  (if tup=true then .ok (.tup (a1G' i (j-i).toNat)) S else if box=true then .ok (.ref S.length) (S++[a1G' i (j-i).toNat])else .ok (.lst (a1G' i (j-i).toNat)) S)else .fail
noncomputable def rngD(tup box:Bool)(ds:List D)(S:Store):Res D:=match ds with
 | [.int j]=>rngR tup box 0 j S
 | [.int i,.int j]=>rngR tup box i j S
 |_=>.fail
def depth:KTy→Nat
 | .int=>1
 | .seq t=>depth t+1
noncomputable def bltB:Blt→Bool
 | .sorted _ t=>decide (depth t≤40)
 | .sum=>false
 | .repr=>false
 | .abs=>false
 |_=>true
noncomputable def bltD:Blt→List D→Store→Res D
 | .len=>lenD| .tuple=>a8b'| .list b=>listD b| .int=>intD| .min=>a5l'| .max=>a7y'| .isinst=>a4F'| .all=>allD| .any=>anyD| .sum=>λ_ _=>.fail | .repr=>λ_ _=>.fail | .abs=>λ_ _=>.fail
 | .sorted b t=>a3y' b t
noncomputable def b1z'(d:D)(ds:List D)(S:Store):Res D:=match ds with
 | []=>popD d [] S
 |ds=>b2w' d ds S
noncomputable def methD:Mth→D→List D→Store→Res D
 | .append=>a5S'| .extend=>a3V'| .pop=>b1z'| .count=>λ_ _ _=>.fail | .insert=>λ_ _ _=>.fail
section
variable (Φ:FT)(Γ:Str→Option D)
mutual
noncomputable def den:CE→Rho→Store→Res D
 | .var i,ρ,S=>match ρ[i]? with
  |some (some d)=>.ok d S
  |_=>.fail
 | .dct,ρ,S=>.ok .dct S
 | .lit d,ρ,S=>.ok d S
 | .glob x,ρ,S=>match Γ x with
  |some d=>.ok d S
  |none=>.fail
 | .ty n,ρ,S=>.ok (.ty n) S
 | .bin op a b,ρ,S=>(den a ρ S).bind λd S1=>(den b ρ S1).bind λe S2=>(opD op d e S2).noErr
 | .binB _ _,_,_=>.fail
 | .neg a,ρ,S=>(den a ρ S).bind λd S1=>match d with
  | .int i=>.ok (.int (-i)) S1
  |_=>.fail
 | .cmp op a b,ρ,S=>(den a ρ S).bind λd S1=>(den b ρ S1).bind λe S2=>(cmpD op d e S2).noErr
 | .chain op op' a b c,ρ,S=>(den a ρ S).bind λd S1=>(den b ρ S1).bind λe S2=>(cmpD op d e S2).noErr.bind λk S3=>onBl k λk=>if k=true then(den c ρ S3).bind λf S4=>(cmpD op' e f S4).noErr else .ok (.bl false) S3
 | .band a b,ρ,S=>(den a ρ S).bind λd S1=>onBl d λk=>if k=true then den b ρ S1 else .ok (.bl false) S1
 | .bor a b,ρ,S=>(den a ρ S).bind λd S1=>onBl d λk=>if k=true then .ok (.bl true) S1 else den b ρ S1
 | .bnot a,ρ,S=>(den a ρ S).bind λd S1=>match truD S1 d with
  |some k=>.ok (.bl (!k)) S1
  |none=>.fail
 | .ite c a b,ρ,S=>(denT c ρ S).bind λk S1=>if k=true then den a ρ S1 else den b ρ S1
 | .tup es,ρ,S=>(denL es ρ S).bind λds S1=>.ok (.tup ds) S1
 | .lst box es,ρ,S=>(denL es ρ S).bind λds S1=>if box=true then .ok (.ref S1.length) (S1++[ds])else .ok (.lst ds) S1
 | .rev _ _,_,_=>.fail
 | .rv0 _ _ _,_,_=>.fail
 | .odd _ _ _,_,_=>.fail
 | .idx a b,ρ,S=>(den a ρ S).bind λd S1=>(den b ρ S1).bind λe S2=>(idxD d e S2).noErr
 | .sl a lo hi,ρ,S=>(den a ρ S).bind λd S1=>((denL lo ρ S1).bind optL).bind λl S2=>((denL hi ρ S2).bind optL).bind λh S3=>(slD d l h S3).noErr
 | .call f es,ρ,S=>match Φ f with
  |some φ=>(denL es ρ S).bind λds S1=>φ ds S1
  |none=>.fail
 | .blt b es,ρ,S=>(denL es ρ S).bind λds S1=>(bltD b ds S1).noErr
 | .meth m o es,ρ,S=>(den o ρ S).bind λd S1=>match d with
  | .ref n=>(denL es ρ S1).bind λds S2=>(methD m (.ref n) ds S2).noErr
  |_=>.fail
 | .tix _ _,_,_=>.fail
 | .lenset _,_,_=>.fail
 | .sumL a,ρ,S=>(den a ρ S).bind λd S1=>(catD d S1).noErr
 | .rng tup box es,ρ,S=>(denL es ρ S).bind λds S1=>(rngD tup box ds S1).noErr
 | .comp box N fr tg it ifs body,ρ,S=>(denI it ρ S).bind λits S1=>
   (compI (λx acc S2=>match a0q' tg x (fr.map λj=>j.bind λj=>(ρ[j]?).join)with
    |some ρ'=>(denTs ifs ρ' S2).bind λk S3=>if k=true then denB body ρ' acc S3 else .ok acc S3
    |none=>.fail) its [] S1).noErr.bind λys S5=>if box=true then .ok (.ref S5.length) (S5++[ys])else .ok (.lst ys) S5
 | .emit _,_,_=>.fail
 | .inner _ _ _ _,_,_=>.fail
 | .seq _,_,_=>.fail
 | .range _,_,_=>.fail
 | .zip _,_,_=>.fail
 | .down _,_,_=>.fail
 | .enum _,_,_=>.fail
 | .revl _,_,_=>.fail
 | .by2 _,_,_=>.fail
noncomputable def denT:CE→Rho→Store→Res Bool
 | .band a b,ρ,S=>(denT a ρ S).bind λk S1=>if k=true then denT b ρ S1 else .ok false S1
 | .bor a b,ρ,S=>(denT a ρ S).bind λk S1=>if k=true then .ok true S1 else denT b ρ S1
 | .bnot a,ρ,S=>(denT a ρ S).bind λk S1=>.ok (!k) S1
 | .cmp op a b,ρ,S=>(den a ρ S).bind λd S1=>(den b ρ S1).bind λe S2=>(cmpD op d e S2).noErr.bind λk S3=>onBl k λk=>.ok k S3
 | .chain op op' a b c,ρ,S=>(den a ρ S).bind λd S1=>(den b ρ S1).bind λe S2=>(cmpD op d e S2).noErr.bind λk S3=>onBl k λk=>if k=true then(den c ρ S3).bind λf S4=>(cmpD op' e f S4).noErr.bind λk S5=>onBl k λk=>.ok k S5 else .ok false S3
 | .var i,ρ,S=>match ρ[i]? with
  |some (some d)=>match truD S d with
   |some k=>.ok k S
   |none=>.fail
  |_=>.fail
 | .call f es,ρ,S=>match Φ f with
  |some φ=>(denL es ρ S).bind λds S1=>(φ ds S1).bind λd S2=>match truD S2 d with
   |some k=>.ok k S2
   |none=>.fail
  |none=>.fail
 | .blt b es,ρ,S=>(denL es ρ S).bind λds S1=>(bltD b ds S1).noErr.bind λd S2=>match truD S2 d with
   |some k=>.ok k S2
   |none=>.fail
 | .lit d,ρ,S=>match truD S d with
   |some k=>.ok k S
   |none=>.fail
 |_,_,_=>.fail
noncomputable def denL:List CE→Rho→Store→Res (List D)
 | [],_,S=>.ok [] S
 |e::es,ρ,S=>(den e ρ S).bind λd S1=>(denL es ρ S1).bind λds S2=>.ok (d::ds) S2
noncomputable def denTs:List CE→Rho→Store→Res Bool
 | [],_,S=>.ok true S
 |e::es,ρ,S=>(denT e ρ S).bind λk S1=>if k=true then denTs es ρ S1 else .ok false S1
noncomputable def denI:CE→Rho→Store→Res Its
 | .seq e,ρ,S=>(den e ρ S).bind λd S1=>match a1y' S1 d with
  |some xs=>.ok xs S1
  |none=>.fail
 | .range es,ρ,S=>(denL es ρ S).bind λds S1=>match ds with
  | [.int j]=>if-(2^62)≤j∧j<2^62 then .ok (.items (a1G' 0 j.toNat)) S1 else .fail
  | [.int i,.int j]=>if-(2^62)≤i∧i<2^62∧-(2^62)≤j∧j<2^62 then .ok (.items (a1G' i (j-i).toNat)) S1 else .fail
  |_=>.fail
 | .enum _,_,_=>.fail
 | .by2 _,_,_=>.fail
 | .revl _,_,_=>.fail
 | .down _,_,_=>.fail
 | .zip es,ρ,S=>(denL es ρ S).bind λds S2=>match ds with
  | [d,e]=>(match zipOf S2 d e with
   |some its=>.ok its S2
   |none=>.fail)
  |_=>.fail
 |_,_,_=>.fail
noncomputable def denB:CE→Rho→List D→Store→Res (List D)
 | .emit e,ρ,acc,S=>(den e ρ S).bind λy S1=>if acc.length<big then .ok (acc++[y]) S1 else .fail
 | .inner tg it ifs body,ρ,acc,S=>(denI it ρ S).bind λits S1=>
   compI (λx acc S2=>match a0q' tg x ρ with
    |some ρ'=>(denTs ifs ρ' S2).bind λk S3=>if k=true then denB body ρ' acc S3 else .ok acc S3
    |none=>.fail) its acc S1
 |_,_,_,_=>.fail
end
inductive Fl where
 |next(ρ:Rho)|ret (d:D)|brk (ρ:Rho)|cont (ρ:Rho)
noncomputable def forD(step:D→Rho→Store→Res Fl):List D→Rho→Store→Res Fl
 | [],ρ,S=>.ok (.next ρ) S
 |x::xs,ρ,S=>(step x ρ S).bind λf S'=>match f with
  | .next ρ'=>forD step xs ρ' S'
  | .cont ρ'=>forD step xs ρ' S'
  | .brk ρ'=>.ok (.next ρ') S'
  | .ret d=>.ok (.ret d) S'
noncomputable def forB(step:D→Rho→Store→Res Fl)(get:Store→Nat→Option (Option D)):Nat→Nat→Rho→Store→Res Fl
 |0,_,_,_=>.fail
 |f+1,i,ρ,S=>match get S i with
  |none=>.fail
  |some none=>.ok (.next ρ) S
  |some (some x)=>(step x ρ S).bind λfl S'=>match fl with
    | .next ρ'=>forB step get f (i+1) ρ' S'
    | .cont ρ'=>forB step get f (i+1) ρ' S'
    | .brk ρ'=>.ok (.next ρ') S'
    | .ret d=>.ok (.ret d) S'
noncomputable def forI(step:D→Rho→Store→Res Fl)(its:Its)(ρ:Rho)(S:Store):Res Fl:=match its with
 | .items xs=>forD step xs ρ S
 | .live f get=>forB step get f 0 ρ S
noncomputable def a4z'(c:Rho→Store→Res Bool)(step:Rho→Store→Res Fl):Nat→Rho→Store→Res Fl
 |0,_,_=>.fail
 |n+1,ρ,S=>(c ρ S).bind λk S1=>if k=true then(step ρ S1).bind λf S'=>match f with
   | .next ρ'=>a4z' c step n ρ' S'
   | .cont ρ'=>a4z' c step n ρ' S'
   | .brk ρ'=>.ok (.next ρ') S'
   | .ret d=>.ok (.ret d) S'
  else .ok (.next ρ) S1
mutual
noncomputable def denS:CS→Rho→Store→Res Fl
 | .asg i e,ρ,S=>(den Φ Γ e ρ S).bind λd S1=>.ok (.next (ρ.set i (some d))) S1
 | .asgT t e,ρ,S=>(den Φ Γ e ρ S).bind λd S1=>match asgCT t d ρ with
  |some ρ'=>.ok (.next ρ') S1
  |none=>.fail
 | .par _ _,_,_=>.fail
 | .aug _ _,_,_=>.fail
 | .set o i v,ρ,S=>(den Φ Γ v ρ S).bind λf S1=>(den Φ Γ o ρ S1).bind λd S2=>(den Φ Γ i ρ S2).bind λe S3=>match setD d e f S3 with
  |some S4=>.ok (.next ρ) S4
  |none=>.fail
 | .set2 _ _ _ _ _,_,_=>.fail
 | .expr e,ρ,S=>(den Φ Γ e ρ S).bind λ_ S1=>.ok (.next ρ) S1
 | .ret e,ρ,S=>(den Φ Γ e ρ S).bind λd S1=>.ok (.ret d) S1
 | .retN,_,S=>.ok (.ret .non) S
 | .pass,ρ,S=>.ok (.next ρ) S
 | .brk,ρ,S=>.ok (.brk ρ) S
 | .cont,ρ,S=>.ok (.cont ρ) S
 | .ite c a b,ρ,S=>(denT Φ Γ c ρ S).bind λk S1=>if k=true then denSs a ρ S1 else denSs b ρ S1
 | .for_ t it body,ρ,S=>(denI Φ Γ it ρ S).bind λxs S1=>forI (λx ρ S=>match asgCT t x ρ with
   |some ρ'=>denSs body ρ' S
   |none=>.fail) xs ρ S1
 | .while_ n c body,ρ,S=>a4z' (denT Φ Γ c) (denSs body) n ρ S
 | .never,_,_=>.fail
noncomputable def denSs:List CS→Rho→Store→Res Fl
 | [],ρ,S=>.ok (.next ρ) S
 |c::cs,ρ,S=>(denS c ρ S).bind λf S1=>match f with
  | .next ρ'=>denSs cs ρ' S1
  |f=>.ok f S1
end
end
end Py
variable {body cs:List Py.CS}{ρ ρ' r0:Py.Rho}{Φ:Py.FT}
namespace Py
def ExcIs(mg:Mg)(x:Exc)(cls:Value)(dict:Option Addr)(H:Hp):Prop:=mg x.cls=some cls∧x.fs=[]
def exOf(mg:Mg)(E:XK)(x:Exc)(H:Hp):Prop:=∀cls dict,ExcIs mg x cls dict H→E cls dict H
def WantG{α β:Type}(K:Fg)(mg:GS)(E:XK)(Rel:La→Hp→α→β→Prop)(μ:La)(H:Hp)(Q:β→Hp→Prop):Res α→Prop
 | .ok a S'=>∀μ' H' b,Ext μ H μ' H'→SOk K mg μ' S' H'→Rel μ' H' a b→Q b H'
 | .err x S'=>∀μ' H',Ext μ H μ' H'→SOk K mg μ' S' H'→exOf mg.mg E x H'
 | .fail=>False
section
variable {mg:GS}{E:XK}
theorem a1z'{Q:VK}{r:Res D}(w:WantG K mg E (Rep K mg) μ H Q r.noErr):Want K mg μ H Q r:=by cases r<;>first|exact w|exact w.elim
theorem WantG.ext{Rel:La→Hp→α→β→Prop}{Q:β→Hp→Prop}{r:Res α}(x:Ext μ H μ' H')(w:WantG K mg E Rel μ H Q r):WantG K mg E Rel μ' H' Q r:=by
 cases r with
 |ok d S'=>exact λμ2 H2 v x2 s2 r2=>w μ2 H2 v (x.trans x2) s2 r2
 |err y S'=>exact λμ2 H2 x2 s2=>w μ2 H2 (x.trans x2) s2
 |fail=>exact w
theorem WantG.bind{γ δ:Type}{Rel:La→Hp→α→β→Prop}{Rel':La→Hp→γ→δ→Prop}{Q:δ→Hp→Prop}{r:Res α}{f:α→Store→Res γ}(w:WantG K mg E Rel' μ H Q (r.bind f)):
  WantG K mg E Rel μ H (λb H'=>∃μ' S' a,Ext μ H μ' H'∧SOk K mg μ' S' H'∧Rel μ' H' a b∧WantG K mg E Rel' μ' H' Q (f a S')) r:=by
 cases r with
 |ok a S'=>exact λμ2 H2 b x s r=>⟨μ2,S',a,x,s,r,WantG.ext x (show WantG K mg E Rel' μ H Q (f a S')from w)⟩
 |err y S'=>exact w
 |fail=>exact w
theorem WantG.mono{Rel:La→Hp→α→β→Prop}{Q Q':β→Hp→Prop}{r:Res α}(w:WantG K mg E Rel μ H Q r)(h:∀b H',Q b H'→Q' b H'):WantG K mg E Rel μ H Q' r:=by
 cases r with
 |ok a S'=>exact λμ2 H2 b x s r=>h b H2 (w μ2 H2 b x s r)
 |err y S'=>exact w
 |fail=>exact w
def EnvR(K:Fg)(mg:GS)(μ:La)(H:Hp)(ρ:Rho)(σ:L2.St):Prop:=
 ρ.length=σ.length∧∀(i:Nat) (d:D),ρ[i]?=some (some d)→∃v,σ[i]?=some (some v)∧Rep K mg μ H d v
theorem EnvR.mono(x:Ext μ H μ' H')(h:EnvR K mg μ H ρ σ):EnvR K mg μ' H' ρ σ:=
 ⟨h.1,λi d e=>let⟨v,a,b⟩:=h.2 i d e;⟨v,a,Rep.mono x _ _ b⟩⟩
theorem EnvR.set{i:Nat}(h:EnvR K mg μ H ρ σ)(r:Rep K mg μ H d v):EnvR K mg μ H (ρ.set i (some d)) (σ.set i (some v)):=by
 refine⟨by simp[h.1],λj e he=>?_⟩;by_cases hj:j=i
 ·subst hj;have hl:j<ρ.length:=by have:=(Zf.mp he).1;simpa using this
  rw[ZV hl]at he;cases he;exact⟨v,ZV (by rw[←h.1];exact hl),r⟩
 ·rw[List.getElem?_set_ne (Ne.symm hj)]at he⊢;exact h.2 j e he
end
section
variable (K:Fg)(mg:Mg)(E:XK)(Φ:FT)(Γ:Str→Option D)
def tE(c:CE):TE:=λσ H Q=>∃F μ ρ S,SOk K ⟨mg,F⟩ μ S H∧EnvR K ⟨mg,F⟩ μ H ρ σ∧WantG K ⟨mg,F⟩ E (Rep K ⟨mg,F⟩) μ H Q (den Φ Γ c ρ S)
def tT(c:CE):TT:=λσ H Q=>∃F μ ρ S,SOk K ⟨mg,F⟩ μ S H∧EnvR K ⟨mg,F⟩ μ H ρ σ∧WantG K ⟨mg,F⟩ E (λ_ _ a b=>a=b) μ H Q (denT Φ Γ c ρ S)
def tL(cs:List CE):TA:=λσ H Q=>∃F μ ρ S,SOk K ⟨mg,F⟩ μ S H∧EnvR K ⟨mg,F⟩ μ H ρ σ∧WantG K ⟨mg,F⟩ E (RepL K ⟨mg,F⟩) μ H Q (denL Φ Γ cs ρ S)
end
theorem weakE{t t':TE}(h:PE X e t)(w:∀σ H Q,t' σ H Q→t σ H Q):PE X e t':=λpq s σ H Q I q=>h pq s σ H Q I (w σ H Q q)
theorem weakT{t t':TT}(h:PT X e t)(w:∀σ H Q,t' σ H Q→t σ H Q):PT X e t':=λpq s σ H Q I q=>h pq s σ H Q I (w σ H Q q)
theorem weakA{e:Lx}{t t':TA}(h:PA X e t)(w:∀σ H Q,t' σ H Q→t σ H Q):PA X e t':=λpos pq s σ H Q I q=>h pos pq s σ H Q I (w σ H Q q)
noncomputable def visB(sc:List (Str×NameKind))(x:Str):Bool:=match sc.lookup x with
 |some .local=>true|some .cell=>true|some .free=>true
 |_=>false
noncomputable def gloB(sc:List (Str×NameKind))(x:Str):Bool:=sc.lookup x==some .globalImplicit&& !(x==("__debug__":Str))&& !(x==("__name__":Str))
noncomputable def b0D'(x:Str):Bool:= !(x==("__debug__":Str))&& !(x==("__classdict__":Str))
def a0M':Expr→Bool
 | .Starred _ _=>false
 |_=>true
noncomputable def litIs:D→Const→Bool
 | .non,.none=>true
 | .bl b,.bool c=>b==c
 | .int i,.int j=>i==j
 | .str x,.str y=>x==y
 |_,_=>false
noncomputable def a3W':Blt→Str
 | .len=>"len"| .tuple=>"tuple"| .list _=>"list"| .int=>"int"| .min=>"min"| .max=>"max"| .isinst=>"isinstance"| .all=>"all"| .any=>"any"| .sum=>"sum"| .repr=>"repr"| .abs=>"abs"| .sorted _ _=>"sorted"
noncomputable def bltIs:Blt→Value
 | .len=>.builtin "len"| .tuple=>.type "tuple"| .list _=>.type "list"| .int=>.type "int"| .min=>.builtin "min"| .max=>.builtin "max"| .isinst=>.builtin "isinstance"| .all=>.builtin "all"| .any=>.builtin "any"| .sum=>.builtin "sum"| .repr=>.builtin "repr"| .abs=>.builtin "abs"| .sorted _ _=>.builtin "sorted"
theorem b2z'(b:Blt):bootBuiltins (a3W' b)=some (bltIs b):=by
 cases b with
 |list box=>show bootBuiltins (Str.ofString "list")=some (.type "list");decide+kernel
 |sorted box t=>show bootBuiltins (Str.ofString "sorted")=some (.builtin "sorted");decide+kernel
 |_=>decide+kernel
noncomputable def a4H':List String:=["int","bool","str","tuple","list","dict"]
theorem ty_boot{n:String}(h:a4H'.contains n=true):bootBuiltins (Str.ofString n)=some (.type n):=by simp[a4H']at h;rcases h with rfl|rfl|rfl|rfl|rfl|rfl<;>decide+kernel
abbrev Sc:=List (Str×NameKind)
noncomputable def relB(names sc:Sc):Sc:=names.map λ(n,k)=>if(k== .free&&sc.lookup n==some .cell)then(n,.cell)else(n,k)
noncomputable def ownB(names:Sc):Str→Bool:=λx=>names.lookup x==some .cell
noncomputable def scB(scope:Scope)(sc:Sc):Bool:=scope.kind== .function&&scope.names.all λ(n,k)=>(k !=.cell||scope.names.lookup n==some .cell)&&(k !=.local||scope.names.lookup n==some .local)&&(k !=.free||(sc.lookup n==some .cell||sc.lookup n==some .free))
noncomputable def frB(names:Sc)(N' N:Ls)(fr:List (Option Nat)):Bool:=fr.length==N'.length&&(List.range N'.length).all λi=>match fr[i]? with
 |some (some j)=>(match N'[i]? with
  |some x=>names.lookup x==some .free&&N[j]?==some x
  |none=>false)
 |_=>true
noncomputable def a8c':Ls→Bool
 | []=>true
 |x::r=> !r.contains x&&a8c' r
def a3k':Expr→Bool
 | .Slice _ _ _ _=>false
 |_=>true
theorem b2A'{b:Expr}(h:a3k' b=true):b1v' b:=by intro o i;cases b<;>first|rfl|cases h
noncomputable def a7z':Mth→Str
 | .append=>"append"| .extend=>"extend"| .pop=>"pop"| .count=>"count"| .insert=>"insert"
def isNm:Expr→Bool
 | .Name _ _=>true
 |_=>false
def isTup:Expr→Bool
 | .Tuple _ _ _=>true
 |_=>false
def b0E':Expr→Bool
 | .Set _ _ _=>false
 |_=>true
def dE:Expr:=.Name "" ⟨0,0,0,0⟩
def dG:Comprehension:=⟨dE,dE,[],0⟩
structure Nd where
 e0:Expr:=dE
 e1:Expr:=dE
 e2:Expr:=dE
 es:Lx:=[]
 lo:Option Expr:=none
 hi:Option Expr:=none
 gs:List Comprehension:=[]
 sc:Scope:=default
 k:Nat:=0
 pos:Pos:=⟨0,0,0,0⟩
noncomputable def vw:Expr→Nd
 | .BoolOp _ vs p=>{es:=vs,pos:=p}
 | .BinOp l _ r p=>{e0:=l,e1:=r,pos:=p}
 | .UnaryOp _ x p=>{e0:=x,pos:=p}
 | .IfExp t x y p=>{e0:=t,e1:=x,e2:=y,pos:=p}
 | .ListComp el gs sc p=>{e0:=el,gs:=gs,sc:=sc,pos:=p}
 | .Compare l _ rs p=>{e0:=l,es:=rs,pos:=p}
 | .Call f xs ks p=>{e0:=f,es:=xs,e1:=(ks.headD ⟨none,dE,⟨0,0,0,0⟩⟩).value,e2:=.Name "" (ks.headD ⟨none,dE,⟨0,0,0,0⟩⟩).pos,pos:=p}
 | .Constant _ k p=>{k:=k,pos:=p}
 | .Attribute v _ p=>{e0:=v,pos:=p}
 | .Subscript v s p=>{e0:=v,e1:=s,pos:=p}
 | .Name _ p=>{pos:=p}
 | .List es p=>{es:=es,pos:=p}
 | .Tuple es k p=>{es:=es,k:=k,pos:=p}
 | .Slice l u s p=>{lo:=l,hi:=u,e2:=s.getD dE,pos:=p}
 | .Dict _ _ p=>{pos:=p}
 |_=>{}
noncomputable def b1A':D→Const
 | .bl b=>.bool b
 | .int i=>.int i
 | .str x=>.str x
 |_=>.none
def b0F':CT→Bool
 | .tup _=>true
 |_=>false
def b2B':CE→Bool
 | .band _ _=>true
 |_=>false
def isBor:CE→Bool
 | .bor _ _=>true
 |_=>false
def isCmp:CE→Bool
 | .comp .. =>true
 |_=>false
mutual
noncomputable def emT:CT→Ls→Expr→Expr
 | .var i,N,e=>.Name (N.getD i "") (vw e).pos
 | .tup ts,N,e=>.Tuple (emTL ts N (vw e).es) (vw e).k (vw e).pos
noncomputable def emTL:List CT→Ls→Lx→Lx
 | [],_,_=>[]
 |t::ts,N,es=>emT t N (es.headD dE)::emTL ts N es.tail
end
mutual
noncomputable def sdT(cell:Str→Bool)(N:Ls)(sc:Sc):CT→Bool
 | .var i=>N[i]?==some (N.getD i "")&&(sc.lookup (N.getD i "")==some .local||(cell (N.getD i "")&&sc.lookup (N.getD i "")==some .cell))
 | .tup ts=>sdTL cell N sc ts
noncomputable def sdTL(cell:Str→Bool)(N:Ls)(sc:Sc):List CT→Bool
 | []=>true
 |t::ts=>sdT cell N sc t&&sdTL cell N sc ts
end
mutual
noncomputable def emE:CE→Ls→Expr→Expr
 | .var i,N,e=>.Name (N.getD i "") (vw e).pos
 | .dct,_,e=>.Dict [] [] (vw e).pos
 | .rv0 _ _ _,_,e=>e
 | .odd _ _ _,_,e=>e
 | .rev _ _,_,e=>e
 | .lit d,_,e=>.Constant (b1A' d) (vw e).k (vw e).pos
 | .glob y,_,e=>.Name y (vw e).pos
 | .ty n,_,e=>.Name (Str.ofString n) (vw e).pos
 | .bin op a b,N,e=>.BinOp (emE a N (vw e).e0) op (emE b N (vw e).e1) (vw e).pos
 | .binB _ _,_,e=>e
 | .neg a,N,e=>.UnaryOp .USub (emE a N (vw e).e0) (vw e).pos
 | .cmp op a b,N,e=>.Compare (emE a N (vw e).e0) [op] [emE b N ((vw e).es.headD dE)] (vw e).pos
 | .chain op op' a b c,N,e=>.Compare (emE a N (vw e).e0) [op,op'] [emE b N ((vw e).es.headD dE),emE c N ((vw e).es.tail.headD dE)] (vw e).pos
 | .band a b,N,e=>.BoolOp .And (emE a N ((vw e).es.headD dE)::cond ((vw e).es.length==2) [emE b N ((vw e).es.tail.headD dE)] (vw (emE b N (.BoolOp .And (vw e).es.tail (vw e).pos))).es) (vw e).pos
 | .bor a b,N,e=>.BoolOp .Or (emE a N ((vw e).es.headD dE)::cond ((vw e).es.length==2) [emE b N ((vw e).es.tail.headD dE)] (vw (emE b N (.BoolOp .Or (vw e).es.tail (vw e).pos))).es) (vw e).pos
 | .bnot a,N,e=>.UnaryOp .Not (emE a N (vw e).e0) (vw e).pos
 | .ite c a b,N,e=>.IfExp (emE c N (vw e).e0) (emE a N (vw e).e1) (emE b N (vw e).e2) (vw e).pos
 | .tup es,N,e=>.Tuple (emL es N (vw e).es) (vw e).k (vw e).pos
 | .lst _ es,N,e=>.List (emL es N (vw e).es) (vw e).pos
 | .idx a b,N,e=>.Subscript (emE a N (vw e).e0) (emE b N (vw e).e1) (vw e).pos
 | .sl a lo hi,N,e=>.Subscript (emE a N (vw e).e0) (.Slice (emL lo N (vw (vw e).e1).lo.toList).head? (emL hi N (vw (vw e).e1).hi.toList).head? none (vw (vw e).e1).pos) (vw e).pos
 | .call f es,N,e=>.Call (.Name f (vw (vw e).e0).pos) (emL es N (vw e).es) [] (vw e).pos
 | .blt b es,N,e=>.Call (.Name (a3W' b) (vw (vw e).e0).pos) (emL es N (vw e).es) [] (vw e).pos
 | .tix _ _,_,e=>e
 | .meth m o es,N,e=>.Call (.Attribute (emE o N (vw (vw e).e0).e0) (a7z' m) (vw (vw e).e0).pos) (emL es N (vw e).es) [] (vw e).pos
 | .lenset _,_,e=>e
 | .sumL a,N,e=>.Call (.Name "sum" (vw (vw e).e0).pos) [emE a N ((vw e).es.headD dE)] [⟨some "start",.List [] (vw (vw e).e1).pos,(vw (vw e).e2).pos⟩] (vw e).pos
 | .rng tup _ es,N,e=>.Call (.Name (if tup=true then("tuple":Str)else("list":Str)) (vw (vw e).e0).pos) [.Call (.Name "range" (vw (vw ((vw e).es.headD dE)).e0).pos) (emL es N (vw ((vw e).es.headD dE)).es) [] (vw ((vw e).es.headD dE)).pos] [] (vw e).pos
 | .comp _ N' _ tg it ifs body,N,e=>.ListComp (emBe body N' (vw e).e0) (⟨emT tg N' ((vw e).gs.headD dG).target,emI it N ((vw e).gs.headD dG).iter,emL ifs N' ((vw e).gs.headD dG).ifs,0⟩::emBg body N' (vw e).gs.tail) (vw e).sc (vw e).pos
 | .emit _,_,e=>e
 | .inner _ _ _ _,_,e=>e
 | .seq _,_,e=>e
 | .range _,_,e=>e
 | .zip _,_,e=>e
 | .down _,_,e=>e
 | .enum _,_,e=>e
 | .revl _,_,e=>e
 | .by2 _,_,e=>e
noncomputable def emBe:CE→Ls→Expr→Expr
 | .emit a,N,e=>emE a N e
 | .inner _ _ _ body,N,e=>emBe body N e
 |_,_,e=>e
noncomputable def emBg:CE→Ls→List Comprehension→List Comprehension
 | .inner tg it ifs body,N,gs=>⟨emT tg N (gs.headD dG).target,emI it N (gs.headD dG).iter,emL ifs N (gs.headD dG).ifs,0⟩::emBg body N gs.tail
 |_,_,_=>[]
noncomputable def emL:List CE→Ls→Lx→Lx
 | [],_,_=>[]
 |c::cs,N,es=>emE c N (es.headD dE)::emL cs N es.tail
noncomputable def emI:CE→Ls→Expr→Expr
 | .seq c,N,e=>emE c N e
 | .range es,N,e=>.Call (.Name "range" (vw (vw e).e0).pos) (emL es N (vw e).es) [] (vw e).pos
 | .enum _,_,e=>e
 | .by2 _,_,e=>e
 | .revl _,_,e=>e
 | .down _,_,e=>e
 | .zip es,N,e=>.Call (.Name "zip" (vw (vw e).e0).pos) (emL es N (vw e).es) [] (vw e).pos
 |_,_,e=>e
end
mutual
noncomputable def sdE:CE→Ls→Sc→Expr→Bool
 | .var i,N,sc,_=>N[i]?==some (N.getD i "")&&(visB sc (N.getD i "")&&b0D' (N.getD i ""))
 | .dct,_,_,_=>true
 | .rv0 _ _ _,_,_,_=>false
 | .odd _ _ _,_,_,_=>false
 | .rev _ _,_,_,_=>false
 | .lit d,_,_,_=>litIs d (b1A' d)
 | .glob y,_,sc,_=>gloB sc y
 | .ty n,_,sc,_=>gloB sc (Str.ofString n)&&a4H'.contains n
 | .bin _ a b,N,sc,e=>sdE a N sc (vw e).e0&&sdE b N sc (vw e).e1
 | .binB _ _,_,_,_=>false
 | .neg a,N,sc,e=>sdE a N sc (vw e).e0
 | .cmp op a b,N,sc,e=>sdE a N sc (vw e).e0&&(sdE b N sc ((vw e).es.headD dE)&& !behindInMarks op (emE b N ((vw e).es.headD dE)))
 | .chain _ op' a b c,N,sc,e=>sdE a N sc (vw e).e0&&(sdE b N sc ((vw e).es.headD dE)&&(sdE c N sc ((vw e).es.tail.headD dE)&& !behindInMarks op' (emE c N ((vw e).es.tail.headD dE))))
 | .band a b,N,sc,e=>sdE a N sc ((vw e).es.headD dE)&&cond ((vw e).es.length==2) (sdE b N sc ((vw e).es.tail.headD dE)) (b2B' b&&sdE b N sc (.BoolOp .And (vw e).es.tail (vw e).pos))
 | .bor a b,N,sc,e=>sdE a N sc ((vw e).es.headD dE)&&cond ((vw e).es.length==2) (sdE b N sc ((vw e).es.tail.headD dE)) (isBor b&&sdE b N sc (.BoolOp .Or (vw e).es.tail (vw e).pos))
 | .bnot a,N,sc,e=>sdE a N sc (vw e).e0
 | .ite c a b,N,sc,e=>sdE c N sc (vw e).e0&&(sdE a N sc (vw e).e1&&sdE b N sc (vw e).e2)
 | .tup es,N,sc,e=>sdL es N sc (vw e).es&&decide (es.length<1000)
 | .lst _ es,N,sc,e=>sdL es N sc (vw e).es&&decide (es.length<1000)
 | .idx a b,N,sc,e=>sdE a N sc (vw e).e0&&(sdE b N sc (vw e).e1&&a3k' (emE b N (vw e).e1))
 | .sl a lo hi,N,sc,e=>sdE a N sc (vw e).e0&&(sdL lo N sc (vw (vw e).e1).lo.toList&&(sdL hi N sc (vw (vw e).e1).hi.toList&&(decide (lo.length<2)&&decide (hi.length<2))))
 | .call f es,N,sc,e=>gloB sc f&&(sdL es N sc (vw e).es&& !es.isEmpty)
 | .blt b es,N,sc,e=>gloB sc (a3W' b)&&(sdL es N sc (vw e).es&&(!es.isEmpty&&bltB b))
 | .tix _ _,_,_,_=>false
 | .meth m o es,N,sc,e=>isNm (emE o N (vw (vw e).e0).e0)&&((vw (vw e).e0).pos.endLine==(vw e).pos.line&&(sdE o N sc (vw (vw e).e0).e0&&(sdL es N sc (vw e).es&&decide (es.length<20))))
 | .lenset _,_,_,_=>false
 | .sumL a,N,sc,e=>gloB sc "sum"&&(sdE a N sc ((vw e).es.headD dE)&&a0M' (emE a N ((vw e).es.headD dE)))
 | .rng tup _ es,N,sc,e=>gloB sc (if tup=true then("tuple":Str)else("list":Str))&&(gloB sc "range"&&(sdL es N sc (vw ((vw e).es.headD dE)).es&& !es.isEmpty))
 | .comp _ N' fr tg it ifs body,N,sc,e=>scB (vw e).sc sc&&(frB (vw e).sc.names N' N fr&&(a8c' N'&&(sdT (ownB (vw e).sc.names) N' (relB (vw e).sc.names sc) tg&&(sdI it N sc tg ((vw e).gs.headD dG).iter&&(b0E' (emI it N ((vw e).gs.headD dG).iter)&&(sdL ifs N' (relB (vw e).sc.names sc) ((vw e).gs.headD dG).ifs&&sdB body (ownB (vw e).sc.names) N' (relB (vw e).sc.names sc) (vw e).gs.tail (vw e).e0))))))
 | .emit _,_,_,_=>false
 | .inner _ _ _ _,_,_,_=>false
 | .seq _,_,_,_=>false
 | .range _,_,_,_=>false
 | .zip _,_,_,_=>false
 | .down _,_,_,_=>false
 | .enum _,_,_,_=>false
 | .revl _,_,_,_=>false
 | .by2 _,_,_,_=>false
noncomputable def sdB:CE→(Str→Bool)→Ls→Sc→List Comprehension→Expr→Bool
 | .emit a,_,N,sc,_,e=>sdE a N sc e
 | .inner tg it ifs body,cell,N,sc,gs,e=>sdT cell N sc tg&&(sdI it N sc tg (gs.headD dG).iter&&(b0E' (emI it N (gs.headD dG).iter)&&(sdL ifs N sc (gs.headD dG).ifs&&sdB body cell N sc gs.tail e)))
 |_,_,_,_,_,_=>false
noncomputable def sdL:List CE→Ls→Sc→Lx→Bool
 | [],_,_,_=>true
 |c::cs,N,sc,es=>sdE c N sc (es.headD dE)&&(a0M' (emE c N (es.headD dE))&&sdL cs N sc es.tail)
noncomputable def sdI:CE→Ls→Sc→CT→Expr→Bool
 | .seq c,N,sc,_,e=>sdE c N sc e
 | .range es,N,sc,_,e=>gloB sc "range"&&(sdL es N sc (vw e).es&&(es.length==1||es.length==2))
 | .enum _,_,_,_,_=>false
 | .by2 _,_,_,_,_=>false
 | .revl _,_,_,_,_=>false
 | .down _,_,_,_,_=>false
 | .zip es,N,sc,t,e=>gloB sc "zip"&&(sdL es N sc (vw e).es&&(es.length==2&&b0F' t))
 |_,_,_,_,_=>false
end
theorem andB{a b:Bool}(h:(a&&b)=true):a=true∧b=true:=Bool.and_eq_true_iff.mp h
theorem decB{p:Prop} [Decidable p] (h:decide p=true):p:=of_decide_eq_true h
theorem notB{a:Bool}(h:(!a)=true):a=false:=by cases a;rfl;cases h
end Py
variable {sc:Py.Sc}
namespace Py
noncomputable def spOf(K:Fg)(mg:Mg)(n:Nat)(φ:List D→Store→Res D):Sp:=λvs H Q E=>vs.length=n∧∃F μ S ds,SOk K ⟨mg,F⟩ μ S H∧RepL K ⟨mg,F⟩ μ H ds vs∧WantG K ⟨mg,F⟩ E (Rep K ⟨mg,F⟩) μ H Q (φ ds S)
structure FOk (P:Program)(w:World)(K:Fg)(mg:Mg)(base:Heap)(CX:CXT)(k:Nat)(f:Str)(φ:List D→Store→Res D):Prop where
 ex:∃fa fd ps,mg f=some (.ref fa)∧PySem.W.keepIn K (.ref fa)=true∧Binds K fd ps []∧FnOk P w K mg base CX k fa fd ps (spOf K mg ps.length φ)∧∀ds S,φ ds S≠.fail→ds.length=ps.length
noncomputable def a1V':Ls:=["len","tuple","list","int","min","max","isinstance","all","any","sorted","bool","str","dict","range","zip","set","sum","reversed","repr","abs","enumerate"]
structure MOk (P:Program)(w:World)(K:Fg)(mg:Mg)(base:Heap)(CX:CXT)(Φ:FT)(Γ:Str→Option D)(k:Nat):Prop where
 fns:∀f φ,Φ f=some φ→FOk P w K mg base CX k f φ
 gl:∀x d,Γ x=some d→∃v u,mg x=some u∧RelV v u∧∀F μ H,Rep K ⟨mg,F⟩ μ H d v
 bl:∀x∈a1V',mg x=none
structure XOk (X:Cx)(cell:Str→Bool)(N:Ls)(sc:Sc)(CX:CXT)(E:XK)(Φ:FT)(Γ:Str→Option D)(k:Nat):Prop where
 n:X.N=N
 nd:N.Nodup
 sc:X.env.scope.names=sc
 kd:X.env.scope.kind=.function
 calm:X.calm=true
 room:Room k X.A
 fn:∀x,cell x=true→X.fn x=true
 mod:MOk X.prog X.w X.K X.mg X.base CX Φ Γ k
 pass:b2h' CX X E
 cx0:∀outer H s e s',CX outer H s E0 e s'→False
section
variable {E:XK}{l r:Expr}{pos:Pos}{a b c:CE}
theorem s_bin{op:Operator}(ha:PE X l (tE X.K X.mg E Φ Γ a))(hb:PE X r (tE X.K X.mg E Φ Γ b)):PE X (.BinOp l op r pos) (tE X.K X.mg E Φ Γ (.bin op a b)):=
 weakE (pe_op (op_D op) ha hb) λσ H Q zz=>ex43 zz λF μ ρ S sk en w=>
  ⟨F,μ,ρ,S,sk,en,(WantG.bind w).mono λv1 H1 zz=>ex34 zz λμ1 S1 d1 x1 s1 r1 w1=>⟨F,μ1,ρ,S1,s1,en.mono x1,(WantG.bind w1).mono λv2 H2 zz=>ex34 zz λμ2 S2 d2 x2 s2 r2 w2=>⟨F,μ2,S2,d1,d2,s2,Rep.mono x2 _ _ r1,r2,a1z' w2⟩⟩⟩
theorem s_cmp{op:CmpOp}(hu:X.A.units+64<cLine)(ha:PE X l (tE X.K X.mg E Φ Γ a))(hb:PE X r (tE X.K X.mg E Φ Γ b))(hm:behindInMarks op r=false):PE X (.Compare l [op] [r] pos) (tE X.K X.mg E Φ Γ (.cmp op a b)):=
 weakE (pe_cmpR (cmp_D op hu) ha hb hm) λσ H Q zz=>ex43 zz λF μ ρ S sk en w=>
  ⟨F,μ,ρ,S,sk,en,(WantG.bind w).mono λv1 H1 zz=>ex34 zz λμ1 S1 d1 x1 s1 r1 w1=>⟨F,μ1,ρ,S1,s1,en.mono x1,(WantG.bind w1).mono λv2 H2 zz=>ex34 zz λμ2 S2 d2 x2 s2 r2 w2=>⟨F,μ2,S2,d1,d2,s2,Rep.mono x2 _ _ r1,r2,a1z' w2⟩⟩⟩
theorem a4I'{mg:GS}{E:XK}{Rel:La→Hp→α→β→Prop}{Q:β→Hp→Prop}{f:Bool→Res α}
  (w:WantG K mg E Rel μ H Q (onBl d f)) (r:Rep K mg μ H d v):∃k,v=.bl k∧d=.bl k∧WantG K mg E Rel μ H Q (f k):=by
 cases d with
 |bl k=>exact⟨k,a5P' r,rfl,w⟩
 |_=>exact w.elim
theorem t_cmp{op:CmpOp}(hu:X.A.units+64<cLine)(ha:PE X l (tE X.K X.mg E Φ Γ a))(hb:PE X r (tE X.K X.mg E Φ Γ b))(hm:behindInMarks op r=false):PT X (.Compare l [op] [r] pos) (tT X.K X.mg E Φ Γ (.cmp op a b)):=
 weakT (pt_cmpR (cmp_D op hu) ha hb hm) λσ H Q zz=>ex43 zz λF μ ρ S sk en w=>
  ⟨F,μ,ρ,S,sk,en,(WantG.bind w).mono λv1 H1 zz=>ex34 zz λμ1 S1 d1 x1 s1 r1 w1=>⟨F,μ1,ρ,S1,s1,en.mono x1,(WantG.bind w1).mono λv2 H2 zz=>ex34 zz λμ2 S2 d2 x2 s2 r2 w2=>
   ⟨F,μ2,S2,d1,d2,s2,Rep.mono x2 _ _ r1,r2,a1z' ((WantG.bind w2).mono λv3 H3 zz=>ex34 zz λμ3 S3 d3 x3 s3 r3 w3=>by obtain⟨k,rfl,rfl,w4⟩:=a4I' w3 r3;exact⟨k,rfl,w4 μ3 H3 k .refl s3 rfl⟩)⟩⟩⟩
theorem s_chain{op:CmpOp}(hu:X.A.units+64<cLine)(ha:PE X l (tE X.K X.mg E Φ Γ a))(hb:PE X r (tE X.K X.mg E Φ Γ b))(hc:PE X r' (tE X.K X.mg E Φ Γ c))(hm:behindInMarks op' r'=false):PE X (.Compare l [op,op'] [r,r'] pos) (tE X.K X.mg E Φ Γ (.chain op op' a b c)):=
 weakE (b2d' (cmp_D op hu) (cmp_D op' hu) ha hb hc hm) λσ H Q zz=>ex43 zz λF μ ρ S sk en w=>
  ⟨F,μ,ρ,S,sk,en,(WantG.bind w).mono λv1 H1 zz=>ex34 zz λμ1 S1 d1 x1 s1 r1 w1=>⟨F,μ1,ρ,S1,s1,en.mono x1,(WantG.bind w1).mono λv2 H2 zz=>ex34 zz λμ2 S2 d2 x2 s2 r2 w2=>
   ⟨F,μ2,S2,d1,d2,s2,Rep.mono x2 _ _ r1,r2,a1z' ((WantG.bind w2).mono λv3 H3 zz=>ex34 zz λμ3 S3 d3 x3 s3 r3 w3=>by
    obtain⟨k,rfl,rfl,w4⟩:=a4I' w3 r3;refine⟨k,rfl,?_⟩;cases k with
    |true=>rw[if_pos rfl]at w4⊢;exact⟨F,μ3,ρ,S3,s3,(en.mono x1).mono (x2.trans x3),(WantG.bind w4).mono λv4 H4 zz=>ex34 zz λμ4 S4 d4 x4 s4 r4 w5=>⟨F,μ4,S4,d2,d4,s4,Rep.mono (x3.trans x4) _ _ r2,r4,a1z' w5⟩⟩
    |false=>rw[if_neg (by decide)]at w4⊢;exact w4 μ3 H3 _ .refl s3 repBl)⟩⟩⟩
theorem t_chain{op:CmpOp}(hu:X.A.units+64<cLine)(ha:PE X l (tE X.K X.mg E Φ Γ a))(hb:PE X r (tE X.K X.mg E Φ Γ b))(hc:PE X r' (tE X.K X.mg E Φ Γ c))(hm:behindInMarks op' r'=false):PT X (.Compare l [op,op'] [r,r'] pos) (tT X.K X.mg E Φ Γ (.chain op op' a b c)):=
 weakT (b2e' (cmp_D op hu) (cmp_D op' hu) ha hb hc hm) λσ H Q zz=>ex43 zz λF μ ρ S sk en w=>
  ⟨F,μ,ρ,S,sk,en,(WantG.bind w).mono λv1 H1 zz=>ex34 zz λμ1 S1 d1 x1 s1 r1 w1=>⟨F,μ1,ρ,S1,s1,en.mono x1,(WantG.bind w1).mono λv2 H2 zz=>ex34 zz λμ2 S2 d2 x2 s2 r2 w2=>
   ⟨F,μ2,S2,d1,d2,s2,Rep.mono x2 _ _ r1,r2,a1z' ((WantG.bind w2).mono λv3 H3 zz=>ex34 zz λμ3 S3 d3 x3 s3 r3 w3=>by
    obtain⟨k,rfl,rfl,w4⟩:=a4I' w3 r3;refine⟨k,rfl,?_⟩;cases k with
    |true=>rw[if_pos rfl]at w4⊢;exact⟨F,μ3,ρ,S3,s3,(en.mono x1).mono (x2.trans x3),(WantG.bind w4).mono λv4 H4 zz=>ex34 zz λμ4 S4 d4 x4 s4 r4 w5=>⟨F,μ4,S4,d2,d4,s4,Rep.mono (x3.trans x4) _ _ r2,r4,a1z' ((WantG.bind w5).mono λv5 H5 zz=>ex34 zz λμ5 S5 d5 x5 s5 r5 w6=>by obtain⟨k,rfl,rfl,w7⟩:=a4I' w6 r5;exact⟨k,rfl,w7 μ5 H5 k .refl s5 rfl⟩)⟩⟩
    |false=>rw[if_neg (by decide)]at w4⊢;exact⟨false,rfl,w4 μ3 H3 _ .refl s3 rfl⟩)⟩⟩⟩
theorem s_and(ha:PE X l (tE X.K X.mg E Φ Γ a))(hb:PE X (.BoolOp .And (r::rest) pos) (tE X.K X.mg E Φ Γ b)):PE X (.BoolOp .And (l::r::rest) pos) (tE X.K X.mg E Φ Γ (.band a b)):=
 weakE (pe_and ha hb) λσ H Q zz=>ex43 zz λF μ ρ S sk en w=>
  ⟨F,μ,ρ,S,sk,en,(WantG.bind w).mono λv1 H1 zz=>ex34 zz λμ1 S1 d1 x1 s1 r1 w1=>by
   obtain⟨k,rfl,rfl,w2⟩:=a4I' w1 r1;refine⟨k,rfl,?_⟩;cases k with
   |true=>rw[if_pos rfl]at w2⊢;exact⟨F,μ1,ρ,S1,s1,en.mono x1,w2⟩
   |false=>rw[if_neg (by decide)]at w2⊢;exact w2 μ1 H1 _ .refl s1 repBl⟩
theorem s_or(ha:PE X l (tE X.K X.mg E Φ Γ a))(hb:PE X (.BoolOp .Or (r::rest) pos) (tE X.K X.mg E Φ Γ b)):PE X (.BoolOp .Or (l::r::rest) pos) (tE X.K X.mg E Φ Γ (.bor a b)):=
 weakE (pe_or ha hb) λσ H Q zz=>ex43 zz λF μ ρ S sk en w=>
  ⟨F,μ,ρ,S,sk,en,(WantG.bind w).mono λv1 H1 zz=>ex34 zz λμ1 S1 d1 x1 s1 r1 w1=>by
   obtain⟨k,rfl,rfl,w2⟩:=a4I' w1 r1;refine⟨k,rfl,?_⟩;cases k with
   |true=>rw[if_pos rfl]at w2⊢;exact w2 μ1 H1 _ .refl s1 repBl
   |false=>rw[if_neg (by decide)]at w2⊢;exact⟨F,μ1,ρ,S1,s1,en.mono x1,w2⟩⟩
theorem pe_notT(ha:PE X l ta):PE X (.UnaryOp .Not l pos) (λσ H Q=>ta σ H λx H'=>∃k,TruV X.K x H' k∧Q (.bl (!k)) H'):=by intro pq s σ H Q I h;refine UnaryOp_ (thn (ha pq s σ H _ I h) λv s1 ⟨x,H1,I1,r1,k,t1,q1⟩=>?_);refine not_of (thn (tru_ok pq s1 σ H1 x v (λk H'=>Q (.bl (!k)) H') I1 r1 ⟨k,t1,q1⟩) λk' s2 ⟨H2,I2,q2⟩=>?_);exact⟨.bl (!k'),H2,I2,rfl,q2⟩
theorem a9a'{mg:GS}{E:XK}{Rel:La→Hp→α→β→Prop}{Q:β→Hp→Prop}{f:Bool→Res α}
  (w:WantG K mg E Rel μ H Q (match truD S d with|some k=>f k|none=>.fail)):∃k,truD S d=some k∧WantG K mg E Rel μ H Q (f k):=by
 cases e:truD S d with
 |none=>rw[e]at w;exact w.elim
 |some k=>rw[e]at w;exact⟨k,rfl,w⟩
theorem s_not(ha:PE X l (tE X.K X.mg E Φ Γ a)):PE X (.UnaryOp .Not l pos) (tE X.K X.mg E Φ Γ (.bnot a)):=
 weakE (pe_notT ha) λσ H Q zz=>ex43 zz λF μ ρ S sk en w=>⟨F,μ,ρ,S,sk,en,(WantG.bind w).mono λv1 H1 zz=>ex34 zz λμ1 S1 d1 x1 s1 r1 w1=>by obtain⟨k,e,w2⟩:=a9a' w1;exact⟨k,tru_D s1 r1 e,w2 μ1 H1 _ .refl s1 repBl⟩⟩
theorem s_neg(ha:PE X l (tE X.K X.mg E Φ Γ a)):PE X (.UnaryOp .USub l pos) (tE X.K X.mg E Φ Γ (.neg a)):=
 weakE (pe_un un_neg ha) λσ H Q zz=>ex43 zz λF μ ρ S sk en w=>⟨F,μ,ρ,S,sk,en,(WantG.bind w).mono λv1 H1 zz=>ex34 zz λμ1 S1 d1 x1 s1 r1 w1=>by
  cases d1 with
  |int i=>exact⟨i,a0c' r1,w1 μ1 H1 _ .refl s1 a1m'⟩
  |_=>exact w1.elim⟩
theorem t_and(ha:PT X l (tT X.K X.mg E Φ Γ a))(hb:PW X (.BoolOp .And (r::rest) pos) (tT X.K X.mg E Φ Γ b)):PW X (.BoolOp .And (l::r::rest) pos) (tT X.K X.mg E Φ Γ (.band a b)):=λwh pq s σ H Q I zz=>ex43 zz λF μ ρ S sk en w=>
 pw_and ha hb wh pq s σ H Q I ⟨F,μ,ρ,S,sk,en,(WantG.bind w).mono λk H1 zz=>ex34 zz λμ1 S1 k' x1 s1 e1 w1=>by
  subst e1;cases k' with
  |true=>rw[if_pos rfl]at w1⊢;exact⟨F,μ1,ρ,S1,s1,en.mono x1,w1⟩
  |false=>rw[if_neg (by decide)]at w1⊢;exact w1 μ1 H1 _ .refl s1 rfl⟩
theorem t_or(ha:PT X l (tT X.K X.mg E Φ Γ a))(hb:PW X (.BoolOp .Or (r::rest) pos) (tT X.K X.mg E Φ Γ b)):PW X (.BoolOp .Or (l::r::rest) pos) (tT X.K X.mg E Φ Γ (.bor a b)):=λwh pq s σ H Q I zz=>ex43 zz λF μ ρ S sk en w=>
 pw_or ha hb wh pq s σ H Q I ⟨F,μ,ρ,S,sk,en,(WantG.bind w).mono λk H1 zz=>ex34 zz λμ1 S1 k' x1 s1 e1 w1=>by
  subst e1;cases k' with
  |true=>rw[if_pos rfl]at w1⊢;exact w1 μ1 H1 _ .refl s1 rfl
  |false=>rw[if_neg (by decide)]at w1⊢;exact⟨F,μ1,ρ,S1,s1,en.mono x1,w1⟩⟩
theorem t_not(ha:PT X l (tT X.K X.mg E Φ Γ a)):PT X (.UnaryOp .Not l pos) (tT X.K X.mg E Φ Γ (.bnot a)):=
 weakT (pt_not ha) λσ H Q zz=>ex43 zz λF μ ρ S sk en w=>⟨F,μ,ρ,S,sk,en,(WantG.bind w).mono λk H1 zz=>ex34 zz λμ1 S1 k' x1 s1 e1 w1=>by subst e1;exact w1 μ1 H1 _ .refl s1 rfl⟩
theorem s_ite{t x y:Expr}(hc:PT X t (tT X.K X.mg E Φ Γ c))(ha:PE X x (tE X.K X.mg E Φ Γ a))(hb:PE X y (tE X.K X.mg E Φ Γ b)):PE X (.IfExp t x y pos) (tE X.K X.mg E Φ Γ (.ite c a b)):=
 weakE (b1Y' hc ha hb) λσ H Q zz=>ex43 zz λF μ ρ S sk en w=>⟨F,μ,ρ,S,sk,en,(WantG.bind w).mono λk H1 zz=>ex34 zz λμ1 S1 k' x1 s1 e1 w1=>by
  subst e1;cases k' with
  |true=>rw[if_pos rfl]at w1⊢;exact⟨F,μ1,ρ,S1,s1,en.mono x1,w1⟩
  |false=>rw[if_neg (by decide)]at w1⊢;exact⟨F,μ1,ρ,S1,s1,en.mono x1,w1⟩⟩
theorem s_nil:PA X [] (tL X.K X.mg E Φ Γ []):=weakA b2g' λσ H Q zz=>ex43 zz λF μ ρ S sk en w=>w μ H [] .refl sk .nil
theorem a0y'(h:a0M' e=true):starEach (e::es) env=(false,eval e env)::starEach es env:=by cases e<;>first|rfl|cases h
theorem s_cons{cs:List CE}(hn:a0M' e=true)(ha:PE X e (tE X.K X.mg E Φ Γ a))(hr:PA X es (tL X.K X.mg E Φ Γ cs)):PA X (e::es) (tL X.K X.mg E Φ Γ (a::cs)):=
 weakA (b1s' ha hr (a0y' hn)) λσ H Q zz=>ex43 zz λF μ ρ S sk en w=>⟨F,μ,ρ,S,sk,en,(WantG.bind w).mono λv1 H1 zz=>ex34 zz λμ1 S1 d1 x1 s1 r1 w1=>
  ⟨F,μ1,ρ,S1,s1,en.mono x1,(WantG.bind w1).mono λvs H2 zz=>ex34 zz λμ2 S2 ds x2 s2 r2 w2=>w2 μ2 H2 _ .refl s2 (.cons (Rep.mono x2 _ _ r1) r2)⟩⟩
end
theorem a9b':∀{cs:List CE} {N:Ls} {es:Lx},(emL cs N es).length=cs.length
 | [],N,es=>rfl
 |c::cs,N,es=>congrArg Nat.succ (a9b' (cs:=cs) (N:=N) (es:=es.tail))
theorem a1H':∀{cs:List CE} {N:Ls} {sc:Sc} {es:Lx},sdL cs N sc es=true→∀e∈emL cs N es,a0M' e=true
 | [],N,sc,es,h,e,he=>absurd he ZO
 |c::cs,N,sc,es,h,e,he=>by
  rcases Zm.mp he with rfl|he
  ·exact(andB (andB h).2).1
  ·exact a1H' (andB (andB h).2).2 e he
theorem a2Y':∀{es:Lx} {env:Env} {pos:Pos},(∀e∈es,a0M' e=true)→(backTo pos (starEach es env)).any (·.1)=false
 | [],env,pos,h=>rfl
 |e::es,env,pos,h=>by rw[a0y' (h e Zd)];show(false||(backTo pos (starEach es env)).any (·.1))=false;rw[a2Y' λe he=>h e (Zb _ he)];rfl
theorem a9c':∀{es:Lx} {env:Env} {pos:Pos},(∀e∈es,a0M' e=true)→(backTo pos (starEach es env)).all (λx=> !x.1)=true
 | [],env,pos,h=>rfl
 |e::es,env,pos,h=>by rw[a0y' (h e Zd)];show(!false&&(backTo pos (starEach es env)).all (λx=> !x.1))=true;rw[a9c' λe he=>h e (Zb _ he)];rfl
theorem a6O':∀{cs:List CE} {ρ:Rho} {S S':Store} {ds:List D},denL Φ Γ cs ρ S=.ok ds S'→ds.length=cs.length
 | [],ρ,S,S',ds,h=>by unfold denL at h;cases h;rfl
 |c::cs,ρ,S,S',ds,h=>by
  unfold denL at h;cases e:den Φ Γ c ρ S with
  |ok d S1=>
   rw[e]at h;cases e2:denL Φ Γ cs ρ S1 with
   |ok ds1 S2=>simp only[Res.bind,e2]at h;cases h;simp[a6O' e2]
   |err x S2=>simp only[Res.bind,e2]at h;cases h
   |fail=>simp only[Res.bind,e2]at h;cases h
  |err x S1=>rw[e]at h;cases h
  |fail=>rw[e]at h;cases h
theorem b0G'{x:Str}{s:Scope}(hs:s.names=sc)(h:visB sc x=true):Vis s x:=by unfold Vis;rw[hs];unfold visB at h;split at h<;>simp_all
theorem a4J'{x:Str}(h:b0D' x=true):(x==("__debug__":Str))=false∧(x==("__classdict__":Str))=false:=by unfold b0D' at h;simp only[ZB,Bool.not_eq_true']at h;exact h
theorem a0H'{x:Str}(h:gloB sc x=true):sc.lookup x=some .globalImplicit∧(x==("__debug__":Str))=false∧x≠"__name__":=by unfold gloB at h;simp only[ZB,Bool.not_eq_true',beq_iff_eq]at h;refine⟨h.1.1,h.1.2,λz=>?_⟩;subst z;exact absurd h.2 (by decide)
section
variable {E:XK}{l r:Expr}{pos:Pos}{a b c:CE}{cs:List CE}{x:Str}
theorem XOk.gl(O:XOk X cell N sc CX E Φ Γ k)(h:sc.lookup x=some .globalImplicit):Gl X x:=by show X.env.scope.names.lookup x=_;rw[O.sc];exact h
theorem s_var(O:XOk X cell N sc CX E Φ Γ k){i:Nat}(h1:(N[i]?==some x)=true)(h2:visB sc x=true)(h3:b0D' x=true):PE X (.Name x pos) (tE X.K X.mg E Φ Γ (.var i)):=by
 refine weakE (pe_var (i:=i) (by rw[O.n];simpa using h1) (b0G' O.sc h2) (a4J' h3).1 (a4J' h3).2) λσ H Q zz=>ex43 zz λF μ ρ S sk en w=>?_;simp only[den]at w;split at w
 ·rename_i d e;obtain⟨v,e1,r1⟩:=en.2 i d e;exact⟨v,e1,w μ H v .refl sk r1⟩
 ·exact w.elim
theorem s_lit{cn:Const}{j}(h:litIs d cn=true):PE X (.Constant cn j pos) (tE X.K X.mg E Φ Γ (.lit d)):=by
 unfold litIs at h;split at h
 ·exact weakE pe_non λσ H Q zz=>ex43 zz λF μ ρ S sk en w=>w μ H _ .refl sk a8P'
 ·have e:=(beq_iff_eq).mp h;subst e;exact weakE pe_bl λσ H Q zz=>ex43 zz λF μ ρ S sk en w=>w μ H _ .refl sk repBl
 ·have e:=(beq_iff_eq).mp h;subst e;exact weakE pe_int λσ H Q zz=>ex43 zz λF μ ρ S sk en w=>w μ H _ .refl sk a1m'
 ·have e:=(beq_iff_eq).mp h;subst e;exact weakE pe_str λσ H Q zz=>ex43 zz λF μ ρ S sk en w=>w μ H _ .refl sk repStr
 ·cases h
theorem s_glob(O:XOk X cell N sc CX E Φ Γ k)(h:gloB sc x=true):PE X (.Name x pos) (tE X.K X.mg E Φ Γ (.glob x)):=by
 obtain⟨h1,h2,h3⟩:=a0H' h;cases e:Γ x with
 |none=>intro pq s σ H Q I ⟨F,μ,ρ,S,sk,en,w⟩;simp only[den]at w;rw[e]at w;exact w.elim
 |some d=>obtain⟨v,u,m1,m2,m3⟩:=O.mod.gl x d e;refine weakE (pe_glob (O.gl h1) m1 m2 h2) λσ H Q zz=>ex43 zz λF μ ρ S sk en w=>?_;simp only[den]at w;rw[e]at w;exact w μ H v .refl sk (m3 F μ H)
theorem tyN_blt{n:String}(h:a4H'.contains n=true):(Str.ofString n)∈a1V':=by simp[a4H']at h;rcases h with rfl|rfl|rfl|rfl|rfl|rfl<;>decide+kernel
theorem s_ty(O:XOk X cell N sc CX E Φ Γ k){n:String}(h:gloB sc (Str.ofString n)=true)(h2:a4H'.contains n=true):PE X (.Name (Str.ofString n) pos) (tE X.K X.mg E Φ Γ (.ty n)):=by obtain⟨h1,h3,h4⟩:=a0H' h;refine weakE (pe_bltn (v:=.ty n) (O.gl h1) (O.mod.bl _ (tyN_blt h2)) (ty_boot h2) rfl h4 h3) λσ H Q zz=>ex43 zz λF μ ρ S sk en w=>?_;exact w μ H (.ty n) .refl sk (by unfold Rep;rfl)
theorem len_of{mg:GS}{Q:List V→Hp→Prop}(hl:cs.length<1000)(w:WantG K mg E (RepL K mg) μ H Q (denL Φ Γ cs ρ S)):WantG K mg E (RepL K mg) μ H (λvs H'=>vs.length≤sizeLine∧Q vs H') (denL Φ Γ cs ρ S):=by
 cases e:denL Φ Γ cs ρ S with
 |ok ds S'=>rw[e]at w;intro μ' H' vs x s r;refine⟨?_,w μ' H' vs x s r⟩;rw[←r.length,a6O' e];exact Nat.le_of_lt (Zu hl (by decide))
 |err y S'=>rw[e]at w;exact w
 |fail=>rw[e]at w;exact w
theorem s_tup{x1}(hl:cs.length<1000)(h:PA X es (tL X.K X.mg E Φ Γ cs)):PE X (.Tuple es x1 pos) (tE X.K X.mg E Φ Γ (.tup cs)):=
 weakE (pe_tup h) λσ H Q zz=>ex43 zz λF μ ρ S sk en w=>⟨F,μ,ρ,S,sk,en,(len_of hl (WantG.bind w)).mono λvs H1 ⟨hz,μ1,S1,ds,x1,s1,r1,w1⟩=>⟨hz,λp hp=>by exact Want.tup (show Want X.K ⟨X.mg,F⟩ μ1 H1 Q (.ok (.tup ds) S1)from w1) s1 r1 p hp⟩⟩
theorem s_lst{box:Bool}(hl:cs.length<1000)(h:PA X es (tL X.K X.mg E Φ Γ cs)):PE X (.List es pos) (tE X.K X.mg E Φ Γ (.lst box cs)):=
 weakE (pe_lst h) λσ H Q zz=>ex43 zz λF μ ρ S sk en w=>⟨F,μ,ρ,S,sk,en,(len_of hl (WantG.bind w)).mono λvs H1 ⟨hz,μ1,S1,ds,x1,s1,r1,w1⟩=>⟨hz,λp hp=>by
  cases box with
  |true=>exact Want.box (show Want X.K ⟨X.mg,F⟩ μ1 H1 Q (.ok (.ref S1.length) (S1++[ds]))from w1) s1 r1 p hp
  |false=>exact Want.lst (show Want X.K ⟨X.mg,F⟩ μ1 H1 Q (.ok (.lst ds) S1)from w1) s1 r1 p hp⟩⟩
theorem s_dct:PE X (.Dict [] [] pos) (tE X.K X.mg E Φ Γ .dct):=λpq s σ H Q I zz=>ex43 zz λF μ ρ S sk en w=>by
 have hlt:mainGlobals<s.heap.objs.size:=Zu I.mod.glob.lt (ZT I.ok.bsz I.sz);have hp:H s.heap.objs.size=none:=I.hok.fresh (Zi _);refine wpAny_Dict_empty ⟨.ref s.heap.objs.size,upd H s.heap.objs.size (.dK []),I.laid (t':=s.toks) (o:=.dK []) (λb ob q=>Zc _ q) (Zi _) ?_,rfl,?_⟩
 ·refine⟨Nat.zero_le _,?_,[],.nil,_, #[],_,Zk _ rfl,⟨rfl,rfl,rfl⟩,rfl,λe he=>by simp at he,.nil,.nil⟩;have h3:mainGlobals=3:=rfl;have h1:sysModules=1:=rfl;rw[beq_eq_false_iff_ne];intro z;rw[z,h1,h3]at hlt;exact absurd hlt (by decide)
 ·exact w μ _ _ (.laid hp) (sk.laid hp) (by unfold Rep;exact⟨_,rfl,a0L'⟩)
theorem s_idx(hs:a3k' r=true)(ha:PE X l (tE X.K X.mg E Φ Γ a))(hb:PE X r (tE X.K X.mg E Φ Γ b)):PE X (.Subscript l r pos) (tE X.K X.mg E Φ Γ (.idx a b)):=
 weakE (pe_ix ix_D ha hb (b2A' hs)) λσ H Q zz=>ex43 zz λF μ ρ S sk en w=>
  ⟨F,μ,ρ,S,sk,en,(WantG.bind w).mono λv1 H1 zz=>ex34 zz λμ1 S1 d1 x1 s1 r1 w1=>⟨F,μ1,ρ,S1,s1,en.mono x1,(WantG.bind w1).mono λv2 H2 zz=>ex34 zz λμ2 S2 d2 x2 s2 r2 w2=>⟨F,μ2,S2,d1,d2,s2,Rep.mono x2 _ _ r1,r2,a1z' w2⟩⟩⟩
def tPt(K:Fg)(mg:Mg)(E:XK)(Φ:FT)(Γ:Str→Option D)(cs:List CE):TO:=λσ H Q=>∃F μ ρ S,SOk K ⟨mg,F⟩ μ S H∧EnvR K ⟨mg,F⟩ μ H ρ σ∧
 WantG K ⟨mg,F⟩ E (λ_ _ o o'=>o=o') μ H Q ((denL Φ Γ cs ρ S).bind optL)
theorem s_part0:PO X none (tPt X.K X.mg E Φ Γ []):=by intro pq s σ H Q I ⟨F,μ,ρ,S,sk,en,w⟩;exact po_none pq s σ H Q I (w μ H none .refl sk rfl)
theorem s_part1(ha:PE X e (tE X.K X.mg E Φ Γ a)):PO X (some e) (tPt X.K X.mg E Φ Γ [a]):=by
 intro pq s σ H Q I ⟨F,μ,ρ,S,sk,en,w⟩;refine po_some ha pq s σ H Q I ⟨F,μ,ρ,S,sk,en,?_⟩
 have w':WantG X.K ⟨X.mg,F⟩ E (λ_ _ o o'=>o=o') μ H Q ((den Φ Γ a ρ S).bind λd S1=>optL [d] S1):=by
  have e1:(denL Φ Γ [a] ρ S).bind optL=(den Φ Γ a ρ S).bind λd S1=>optL [d] S1:=by rw[denL];cases den Φ Γ a ρ S<;>rfl
  rw[←e1];exact w
 refine(WantG.bind w').mono λv H1 zz=>ex34 zz λμ1 S1 d x1 s1 r1 w1=>?_;cases d with
 |int i=>exact⟨i,a0c' r1,w1 μ1 H1 (some i) .refl s1 rfl⟩
 |_=>exact w1.elim
theorem s_sl{lo hi:Option Expr}{cl ch:List CE}(ha:PE X l (tE X.K X.mg E Φ Γ a))(hl:PO X lo (tPt X.K X.mg E Φ Γ cl))(hh:PO X hi (tPt X.K X.mg E Φ Γ ch)):PE X (.Subscript l (.Slice lo hi none p2) pos) (tE X.K X.mg E Φ Γ (.sl a cl ch)):=
 weakE (b2k' sl_D ha hl hh) λσ H Q zz=>ex43 zz λF μ ρ S sk en w=>⟨F,μ,ρ,S,sk,en,(WantG.bind w).mono λv1 H1 zz=>ex34 zz λμ1 S1 d1 x1 s1 r1 w1=>⟨F,μ1,ρ,S1,s1,en.mono x1,
  (WantG.bind w1).mono λo H2 zz=>ex34 zz λμ2 S2 o' x2 s2 e2 w2=>⟨F,μ2,ρ,S2,s2,(en.mono x1).mono x2,(WantG.bind w2).mono λo2 H3 zz=>ex34 zz λμ3 S3 o2' x3 s3 e3 w3=>by subst e2;subst e3;exact⟨F,μ3,S3,d1,s3,Rep.mono (x2.trans x3) _ _ r1,a1z' w3⟩⟩⟩⟩
theorem s_call(O:XOk X cell N sc CX E Φ Γ k){f:Str}(h:gloB sc f=true)(hst:∀x∈e::es,a0M' x=true)(ha:PA X (e::es) (tL X.K X.mg E Φ Γ cs)):PE X (.Call (.Name f p2) (e::es) [] pos) (tE X.K X.mg E Φ Γ (.call f cs)):=by
 obtain⟨h1,h2,h3⟩:=a0H' h;cases ef:Φ f with
 |none=>intro pq s σ H Q I ⟨F,μ,ρ,S,sk,en,w⟩;simp only[den]at w;rw[ef]at w;exact w.elim
 |some φ=>obtain⟨fa,fd,ps,m1,m2,m3,m4,m5⟩:=(O.mod.fns f φ ef).ex;refine weakE (pe_call (E:=E) m4 O.room (O.gl h1) m1 m2 m3 .nil O.pass ha h2 (a0y' (hst e Zd)) (a2Y' λx hx=>hst x (Zb _ hx))) λσ H Q zz=>ex43 zz λF μ ρ S sk en w=>?_;simp only[den]at w;rw[ef]at w;refine⟨F,μ,ρ,S,sk,en,(WantG.bind w).mono λvs H1 zz=>ex34 zz λμ1 S1 ds x1 s1 r1 w1=>?_⟩;rw[List.append_nil];refine⟨?_,F,μ1,S1,ds,s1,r1,w1⟩;rw[←r1.length];exact m5 ds S1 λz=>by rw[z]at w1;exact w1
theorem s_blt(O:XOk X cell N sc CX E Φ Γ k){b:Blt}(hb:CallR X (bltIs b) (rC X.K X.mg (bltD b)))(h:gloB sc (a3W' b)=true)(hst:∀x∈e::es,a0M' x=true)(ha:PA X (e::es) (tL X.K X.mg E Φ Γ cs)):PE X (.Call (.Name (a3W' b) p2) (e::es) [] pos) (tE X.K X.mg E Φ Γ (.blt b cs)):=by
 obtain⟨h1,h2,h3⟩:=a0H' h
 have hm:X.mg (a3W' b)=none:=O.mod.bl _ (by
  cases b with
  |list box=>show(Str.ofString "list")∈a1V';decide+kernel
  |sorted box t=>show(Str.ofString "sorted")∈a1V';decide+kernel
  |_=>decide+kernel)
 have key:PE X (.Call (.Name (a3W' b) p2) (e::es) [] pos) (tCB (rC X.K X.mg (bltD b)) (tL X.K X.mg E Φ Γ cs)):=by
  have s1:=a0y' (env:=X.env) (es:=es) (hst e Zd);have s2:=a2Y' (env:=X.env) (pos:=pos) λx hx=>hst x (Zb _ hx);have hv:=b2z' b;cases b with
  |tuple=>exact a5j' hb (O.gl h1) hm hv ha h3 h2 s1 s2
  |list box=>exact a5j' hb (O.gl h1) hm hv ha h3 h2 s1 s2
  |int=>exact a5j' hb (O.gl h1) hm hv ha h3 h2 s1 s2
  |_=>exact b2i' hb (O.gl h1) hm hv ha h3 h2 s1 s2
 refine weakE key λσ H Q zz=>ex43 zz λF μ ρ S sk en w=>⟨F,μ,ρ,S,sk,en,(WantG.bind w).mono λvs H1 zz=>ex34 zz λμ1 S1 ds x1 s1 r1 w1=>⟨F,μ1,S1,ds,s1,r1,a1z' w1⟩⟩
theorem a9d'{mg:GS}(s:SOk K mg μ S H)(r:Rep K mg μ H (.ref n) v):tyV K "list" v H:=by
 unfold Rep at r;obtain⟨a,rfl,h⟩:=r;have hl:n<S.length:=by rw[←s.len];exact(Zf.mp h).1
 obtain⟨vs,h1,q⟩:=s.at_ n a _ h (Zh hl);exact .inl ⟨rfl,vs,.of h1⟩
noncomputable def mthId:Mth→String
 | .append=>"list.append"| .extend=>"list.extend"| .pop=>"list.pop"| .count=>"list.count"| .insert=>"list.insert"
theorem mth_ok(m:Mth):MtR X (mthId m) (rM X.K X.mg (methD m)):=by
 cases m with
 |append=>exact b2s'
 |count=>exact λ_ _ _ _ _ _ _ _ _ _ _ _ ⟨_,_,_,_,_,_,_,_,w⟩=>w.elim
 |insert=>exact λ_ _ _ _ _ _ _ _ _ _ _ _ ⟨_,_,_,_,_,_,_,_,w⟩=>w.elim
 |extend=>exact b2t'
 |pop=>
  intro pq s σ H x xs v us Q I rx rs h;obtain⟨F,μ,S,d,ds,sk,rd,rds,w⟩:=h;cases ds with
  |nil=>exact pop_D pq s σ H x xs v us Q I rx rs ⟨F,μ,S,d,[],sk,rd,rds,w⟩
  |cons e es=>exact popAt_D pq s σ H x xs v us Q I rx rs ⟨F,μ,S,d,e::es,sk,rd,rds,w⟩
theorem a9e'(m:Mth):Slot "list" (a7z' m) (mthId m):=by
 cases m with
 |append=>exact PySem.F.slot_list_append
 |count=>exact PySem.F.slot_list_count
 |insert=>exact PySem.F.slot_list_insert
 |extend=>exact PySem.F.slot_list_extend
 |pop=>exact PySem.F.slot_list_pop
theorem a9f'(m:Mth):typeOf (.builtin (mthId m))=pure (.type "method_descriptor"):=by
 cases m with
 |append=>exact PySem.F.type_list_append
 |count=>exact PySem.F.type_list_count
 |insert=>exact PySem.F.type_list_insert
 |extend=>exact PySem.F.type_list_extend
 |pop=>exact PySem.F.type_list_pop
theorem s_meth{m:Mth}{o:Expr}(hn:isNm o=true)(hl:(apos.endLine==pos.line)=true)(hst:∀x∈es,a0M' x=true)(hz:es.length<20)(hcs:cs.length=es.length)(ho:PE X o (tE X.K X.mg E Φ Γ a))(ha:PA X es (tL X.K X.mg E Φ Γ cs)):
  PE X (.Call (.Attribute o (a7z' m) apos) es [] pos) (tE X.K X.mg E Φ Γ (.meth m a cs)):=by
 have hbase:attributeBase o (a7z' m) X.env (eval o X.env)=eval o X.env:=by cases o<;>first|rfl|cases hn
 have key:∀{F μ1 S1 H1 ρ d1 Q v1},SOk X.K ⟨X.mg,F⟩ μ1 S1 H1→Rep X.K ⟨X.mg,F⟩ μ1 H1 d1 v1→WantG X.K ⟨X.mg,F⟩ E (Rep X.K ⟨X.mg,F⟩) μ1 H1 Q (match d1 with
   | .ref n=>(denL Φ Γ cs ρ S1).bind λds S2=>(methD m (.ref n) ds S2).noErr
   |_=>.fail)→tyV X.K "list" v1 H1∧WantG X.K ⟨X.mg,F⟩ E (RepL X.K ⟨X.mg,F⟩) μ1 H1 (λvs H2=>rM X.K X.mg (methD m) v1 vs H2 Q) (denL Φ Γ cs ρ S1):=by
  intro F μ1 S1 H1 ρ d1 Q v1 s1 r1 w1;cases d1 with
  |ref n=>exact⟨a9d' s1 r1,(WantG.bind w1).mono λvs H2 zz=>ex34 zz λμ2 S2 ds x2 s2 r2 w2=>⟨F,μ2,S2,_,ds,s2,Rep.mono x2 _ _ r1,r2,a1z' w2⟩⟩
  |_=>exact w1.elim
 cases es with
 |nil=>have e:cs=[]:=Zr hcs;subst e;refine weakE (pe_bm0 PySem.F.plainAttrs_list (a9e' m) (a9f' m) (mth_ok m) ho hbase hl) λσ H Q zz=>ex43 zz λF μ ρ S sk en w=>⟨F,μ,ρ,S,sk,en,(WantG.bind w).mono λv1 H1 zz=>ex34 zz λμ1 S1 d1 x1 s1 r1 w1=>?_⟩;obtain⟨k1,k2⟩:=key s1 r1 w1;exact⟨k1,k2 μ1 H1 [] .refl s1 .nil⟩
 |cons e es=>
  refine weakE (pe_bm PySem.F.plainAttrs_list (a9e' m) (a9f' m) (mth_ok m) ho ha hbase ?_ hl (a0y' (hst e Zd)) (a2Y' λx hx=>hst x (Zb _ hx))) λσ H Q zz=>ex43 zz λF μ ρ S sk en w=>⟨F,μ,ρ,S,sk,en,(WantG.bind w).mono λv1 H1 zz=>ex34 zz λμ1 S1 d1 x1 s1 r1 w1=>?_⟩
  ·rw[a9c' hst];have e1:(backToKw pos (keywordEach [] X.env)).all (λx=>x.1.isSome)=true:=rfl;rw[e1];simp only[Bool.true_and,decide_eq_true_eq];have e2:(if([]:List Keyword).isEmpty then 0 else 1)=0:=rfl;rw[e2];simp only[List.length_nil];omega
  ·obtain⟨k1,k2⟩:=key s1 r1 w1;exact⟨k1,F,μ1,ρ,S1,s1,en.mono x1,k2⟩
end
theorem a9g'{t:Addr}{i:Nat}{x:Value}(hit:s.heap.IsTupleIter it t i)(ht:s.heap.IsTuple t items)(hx:items[i]?=some x)
  (hQ:∀h',h'.IsTupleIter it t (i+1)→Heap.SameBut it s.heap h'→Q x {s with heap:=h'}):wpAny (model prog w) A (Builtin.SmallTypes.nextOf (.ref it)) Q E s:=by
 obtain⟨o,ho,hc,hd⟩:=id hit;obtain⟨ol,hol,_,nl,hdl⟩:=ht;unfold Builtin.SmallTypes.nextOf;refine Za (wpAny_callSpecial?_slot (name:=Str.ofString "__next__") hit.typeIs F.slot_tuple_iterator_next (wpAny_call_entry F.slot_tuple_iterator_next hit.typeIs F.entry_tuple_iterator_next ?_ (F.args_tuple_iterator_next_1 _)));show wpAny _ _ (field (.ref it) 0>>=_) _ _ s;refine Za (wpAny_field ho hd (x:=.ref t) rfl ?_);show wpAny _ _ (if(Value.ref t==Value.none)=true then _ else _) _ _ s;rw[if_neg (show ¬((Value.ref t==Value.none)=true)from ZS)];show wpAny _ _ (field (.ref it) 1>>=_) _ _ s;refine Za (wpAny_field ho hd (x:=.int i 0) rfl ?_);show wpAny _ _ (seqItems? (.ref t)>>=_) _ _ s;refine Za (wpAny_seqItems hol hdl ?_);simp only[Int.toNat_natCast,hx];refine Za (wpAny_setField ho hd (by simp) (Zg ⟨x,rfl,Zg (hQ _ ?_ (Heap.SameBut.update ..))⟩));exact⟨_,Heap.get?_update_self _ ho (Obj.isFreed_of_fields (Obj.data_mapFields hd _)),(Obj.cls_mapFields ..).trans hc,by rw[Obj.data_mapFields hd];simp[rawInt]⟩
theorem a7A'{t:Addr}{i:Nat}{Q:Vs}(hh:A.handled=none)(hit:s.heap.IsTupleIter it t i)(ht:s.heap.IsTuple t items)(hx:items[i]?=none)
  (hE:∀h' e,Heap.ExtBut it s.heap h'→(∃o,h'.get? e=some o∧o.cls=.type "StopIteration")→E (.ref e) {s with heap:=h'}):wpAny (model prog w) A (Builtin.SmallTypes.nextOf (.ref it)) Q E s:=by
 obtain⟨o,ho,hc,hd⟩:=id hit;obtain⟨ol,hol,_,nl,hdl⟩:=ht;unfold Builtin.SmallTypes.nextOf;refine Za (wpAny_callSpecial?_slot (name:=Str.ofString "__next__") hit.typeIs F.slot_tuple_iterator_next (wpAny_call_entry F.slot_tuple_iterator_next hit.typeIs F.entry_tuple_iterator_next ?_ (F.args_tuple_iterator_next_1 _)));show wpAny _ _ (field (.ref it) 0>>=_) _ _ s;refine Za (wpAny_field ho hd (x:=.ref t) rfl ?_);show wpAny _ _ (if(Value.ref t==Value.none)=true then _ else _) _ _ s;rw[if_neg (show ¬((Value.ref t==Value.none)=true)from ZS)];show wpAny _ _ (field (.ref it) 1>>=_) _ _ s;refine Za (wpAny_field ho hd (x:=.int i 0) rfl ?_);show wpAny _ _ (seqItems? (.ref t)>>=_) _ _ s;refine Za (wpAny_seqItems hol hdl ?_);simp only[Int.toNat_natCast,hx];refine Za (wpAny_rule (Za (wpAny_setField ho hd (by simp) ?_)));show wpAny _ _ (newExc (.type "StopIteration") []>>=_) _ _ _;refine Za ?_;simp only[newExc,newTuple];refine Za (ZY ?_ (by size_fits));refine Za (m:=firstArgMember _ _) (wpAny_of_eq (a:=Value.none) (by first|rfl| (simp only[firstArgMember];rfl)) ?_);refine ZY ?_ (by size_fits);simp only[raiseNew];refine Za (wpAny_handled ?_)
 first|rw[show A.in1.handled=none from hh]|rw[hh]
 refine Za (Zg (wpAny_throw ?_));exact hE _ _ (((Heap.SameBut.update ..).extBut.push _).push _) ⟨_,Zk _ rfl,rfl⟩
def IsSq(b:Bool)(h:Heap)(l:Addr)(xs:Av):Prop:=match b with
 |true=>h.IsList l xs
 |false=>h.IsTuple l xs
def IsIt(b:Bool)(h:Heap)(it l:Addr)(i:Nat):Prop:=match b with
 |true=>h.IsListIter it l i
 |false=>h.IsTupleIter it l i
theorem IsSq.at{b:Bool}{l:Addr}{xs:Av}(q:IsSq b h l xs)(k:∀o,h.get? l=some o→h'.get? l=some o):IsSq b h' l xs:=by
 cases b with
 |true=>exact Heap.IsList.at q k
 |false=>obtain⟨o,e,r⟩:=q;exact⟨o,k o e,r⟩
theorem IsIt.at{b:Bool}{l:Addr}{i:Nat}(q:IsIt b h it l i)(k:∀o,h.get? it=some o→h'.get? it=some o):IsIt b h' it l i:=by
 cases b with
 |true=>exact Heap.IsListIter.at q k
 |false=>exact Heap.IsTupleIter.at q k
theorem IsIt.obj{b:Bool}{l:Addr}{i:Nat}(q:IsIt b h it l i):∃o,h.get? it=some o∧∀v,o.data≠.cell v:=by
 cases b with
 |true=>obtain⟨o,e,c,d⟩:=q;exact⟨o,e,λv z=>by rw[d]at z;cases z⟩
 |false=>obtain⟨o,e,c,d⟩:=q;exact⟨o,e,λv z=>by rw[d]at z;cases z⟩
theorem draws(hh:A.handled=none)(b:Bool)(it l:Addr)(hne:l≠it)(items:Av):
  Draws prog w A it [it,l] items.size (λi v=>items[i]?=some v) (λi h=>IsIt b h it l i∧IsSq b h l items):=by
 cases b with
 |true=>exact Draws.list hh it l hne items
 |false=>exact{
   live:=λ_ _ st=>let⟨o,ho,_⟩:=st.1;⟨o,ho⟩
   frame:=λ_ _ _ st hk=>⟨st.1.at λo e=>hk it (by simp) o e,st.2.at λo e=>hk l (by simp) o e⟩
   item:=λi s Q E hi st hQ=>by refine a9g' st.1 st.2 (x:=items[i]) (by simp[hi]) λh' hit' hs'=>?_;exact hQ _ h' s.toks (by simp[hi]) ⟨hit',st.2.at λo e=>hs'.extBut _ _ hne e⟩ hs'
   done:=λs Q E st hE=>a7A' hh st.1 st.2 (by simp) hE}
structure ZApart (z TI TO i1 i2 l1 l2:Addr):Prop where
 TIz:TI≠z
 TOz:TO≠z
 i1z:i1≠z
 i2z:i2≠z
 TITO:TI≠TO
 TIi1:TI≠i1
 TIi2:TI≠i2
 TOi1:TO≠i1
 TOi2:TO≠i2
 i12:i1≠i2
 l1:l1≠z∧l1≠TO∧l1≠i1∧l1≠i2
 l2:l2≠z∧l2≠TO∧l2≠i1∧l2≠i2
theorem a5U'{prog:Program}{w:World}{b:Bool}{t:Addr}{i:Nat}{Q:Vs}(hh:A.handled=none)(hit:IsIt b s.heap it t i)(ht:IsSq b s.heap t items)(hx:items[i]?=none)
  (hE:∀h' e,Heap.ExtBut it s.heap h'→(∃o,h'.get? e=some o∧o.cls=.type "StopIteration")→E (.ref e) {s with heap:=h'}):wpAny (model prog w) A (Builtin.SmallTypes.nextOf (.ref it)) Q E s:=by
 cases b with
 |true=>exact wpAny_nextOf_list_end hh hit ht hx hE
 |false=>exact a7A' hh hit ht hx hE
section
variable {z TI TO i1 i2 l1 l2:Addr}{k1 k2:Nat}{xs ys:Av}{a b:Value}
theorem zip_go(D:ZApart z TI TO i1 i2 l1 l2)(hh:A.handled=none){x y:Value}
  (hz:IsZip s.heap z TI TO .none) (hTI:IsPair s.heap TI (.ref i1) (.ref i2)) (hTO:IsPair s.heap TO a b)
  (h1:IsIt b1 s.heap i1 l1 k1) (h2:IsIt b2 s.heap i2 l2 k2) (hl1:IsSq b1 s.heap l1 xs) (hl2:IsSq b2 s.heap l2 ys) (hx:xs[k1]?=some x) (hy:ys[k2]?=some y)
  (hQ:∀h',IsZip h' z TI TO (rawInt s.heap.objs.size)→IsPair h' TO x y→IsIt b1 h' i1 l1 (k1+1)→IsIt b2 h' i2 l2 (k2+1)→IsPair h' s.heap.objs.size x y→h'.objs.size=s.heap.objs.size+1→
   (∀c o,c≠z→c≠TO→c≠i1→c≠i2→s.heap.get? c=some o→h'.get? c=some o)→∀tk,Q (.ref s.heap.objs.size) {s with heap:=h',toks:=tk}):
  wpAny (model prog w) A (Builtin.«zip.__next__» ⟨[.ref z],[]⟩) (λfin s'=>∃v,fin=.done (.ret v)∧Q v s') E s:=by
 have D1:=draws (prog:=prog) (w:=w) (A:=A) hh b1 i1 l1 D.l1.2.2.1 xs;have D2:=draws (prog:=prog) (w:=w) (A:=A) hh b2 i2 l2 D.l2.2.2.2 ys;have n1:k1<xs.size:=(Array.getElem?_eq_some_iff.mp hx).1;have n2:k2<ys.size:=(Array.getElem?_eq_some_iff.mp hy).1;show wpAny _ _ (field (.ref z) 2>>=_) _ _ _;refine Za (wpAny_field hz rfl (x:=.bool false) rfl ?_);show wpAny _ _ (field (.ref z) 3>>=_) _ _ _;refine Za (wpAny_field hz rfl (x:=.ref TI) rfl ?_);refine Za (wpAny_seqItems hTI rfl ?_);show wpAny _ _ (Builtin.SmallTypes.ownedTupleIsFree (.ref z)>>=_) _ _ _;refine Za ?_;unfold Builtin.SmallTypes.ownedTupleIsFree;refine Za (wpAny_field hz rfl (x:=.none) rfl (Zg ?_));simp only[if_true];refine Za (wpAny_rule ?_);refine Za (wpAny_field hz rfl (x:=.ref TO) rfl ?_);refine Za (wpAny_setField_rec hz (by simp) λh₁ hz₁ hs₁=>?_);replace hz₁:IsZip h₁ z TI TO .ellipsis:=hz₁;refine Za ?_;simp only[List.zipIdx_cons,List.zipIdx_nil,List.forIn_cons,List.forIn_nil];refine Za (Za (wpAny_onRaise ?_));show wpAny _ _ (Builtin.SmallTypes.nextOf (.ref i1)>>=_) _ _ _;refine Za (D1.item k1 _ _ _ n1 ⟨h1.at λo e=>hs₁.extBut _ _ D.i1z e,hl1.at λo e=>hs₁.extBut _ _ D.l1.1 e⟩ λx' h₂ tk hx' st₂ hs₂=>Zg ?_);rw[hx]at hx';cases hx';have hTO₂:IsPair h₂ TO a b:=hs₂.extBut _ _ D.TOi1 (hs₁.extBut _ _ D.TOz hTO);refine Za (wpAny_seqItems hTO₂ rfl ?_);refine Za (wpAny_updateSeq_pair hTO₂ λh₃ hTO₃ hs₃=>?_);replace hTO₃:IsPair h₃ TO x b:=hTO₃;refine Za (wpAny_letGo (Zg ?_));refine Za (Za (wpAny_onRaise ?_));show wpAny _ _ (Builtin.SmallTypes.nextOf (.ref i2)>>=_) _ _ _;refine Za (D2.item k2 _ _ _ n2 ⟨h2.at λo e=>hs₃.extBut _ _ D.TOi2.symm (hs₂.extBut _ _ D.i12.symm (hs₁.extBut _ _ D.i2z e)),hl2.at λo e=>hs₃.extBut _ _ D.l2.2.1 (hs₂.extBut _ _ D.l2.2.2.1 (hs₁.extBut _ _ D.l2.1 e))⟩ λy' h₄ tk2 hy' st₄ hs₄=>Zg ?_);rw[hy]at hy';cases hy';have hTO₄:IsPair h₄ TO x b:=hs₄.extBut _ _ D.TOi2 hTO₃;refine Za (wpAny_seqItems hTO₄ rfl ?_);refine Za (wpAny_updateSeq_pair hTO₄ λh₅ hTO₅ hs₅=>?_);replace hTO₅:IsPair h₅ TO x y:=hTO₅;refine Za (wpAny_letGo (Zg (Zg ?_)));refine Za (wpAny_seqItems hTO₅ rfl ?_);refine Za (wpAny_newTuple ?_);have hsz:h₅.objs.size=s.heap.objs.size:=by rw[hs₅.1,hs₄.1,hs₃.1,hs₂.1,hs₁.1]
 have hz₅:IsZip h₅ z TI TO .ellipsis:=hs₅.extBut _ _ D.TOz.symm (hs₄.extBut _ _ D.i2z.symm (hs₃.extBut _ _ D.TOz.symm (hs₂.extBut _ _ D.i1z.symm hz₁)));have hk₅:∀c o,c≠z→c≠TO→c≠i1→c≠i2→s.heap.get? c=some o→h₅.get? c=some o:=λc o c1 c2 c3 c4 e=>hs₅.extBut _ _ c2 (hs₄.extBut _ _ c4 (hs₃.extBut _ _ c2 (hs₂.extBut _ _ c3 (hs₁.extBut _ _ c1 e))));have g1:IsIt b1 h₅ i1 l1 (k1+1):=st₂.1.at λo e=>hs₅.extBut _ _ D.TOi1.symm (hs₄.extBut _ _ D.i12 (hs₃.extBut _ _ D.TOi1.symm e));have g2:IsIt b2 h₅ i2 l2 (k2+1):=st₄.1.at λo e=>hs₅.extBut _ _ D.TOi2.symm e;have hzlt:z<h₅.objs.size:=Zj hz₅;show wpAny _ _ (Builtin.SmallTypes.ownedTupleHandOut (.ref z) (.ref h₅.objs.size)>>=_) _ _ _;refine Za ?_;unfold Builtin.SmallTypes.ownedTupleHandOut;have hz₆:IsZip (h₅.push {cls:=.type "tuple",data:=.seq #[x,y]}) z TI TO .ellipsis:=Zc _ hz₅;refine Za (wpAny_setField_rec hz₆ (by simp) λh₇ hz₇ hs₇=>?_);replace hz₇:IsZip h₇ z TI TO (rawInt h₅.objs.size):=hz₇;refine wpAny_setField_rec hz₇ (by simp) λh₈ hz₈ hs₈=>?_;replace hz₈:IsZip h₈ z TI TO (rawInt h₅.objs.size):=hz₈;have up:∀c o,c≠z→h₅.get? c=some o→h₈.get? c=some o:=λc o c1 e=>hs₈.extBut _ _ c1 (hs₇.extBut _ _ c1 (Zc _ e));have hT₈:IsPair h₈ h₅.objs.size x y:=hs₈.extBut _ _ (Nat.ne_of_gt hzlt) (hs₇.extBut _ _ (Nat.ne_of_gt hzlt) (Zk _ rfl));have hz8:h₈.objs.size=h₅.objs.size+1:=by rw[hs₈.1,hs₇.1,Heap.size_push]
 rw[hsz]at hz₈ hT₈ hz8;refine Zg ⟨_,rfl,?_⟩;show Q (.ref h₅.objs.size) _;rw[hsz];exact hQ h₈ hz₈ (up _ _ D.TOz hTO₅) (g1.at λo e=>up _ o D.i1z e) (g2.at λo e=>up _ o D.i2z e) hT₈ hz8 (λc o c1 c2 c3 c4 e=>up c o c1 (hk₅ c o c1 c2 c3 c4 e)) _
theorem b2C'(D:ZApart z TI TO i1 i2 l1 l2)(hh:A.handled=none){Q:Fin→Shared→Prop}
  (hz:IsZip s.heap z TI TO .none) (hTI:IsPair s.heap TI (.ref i1) (.ref i2)) (hTO:IsPair s.heap TO a b)
  (h1:IsIt b1 s.heap i1 l1 k1) (h2:IsIt b2 s.heap i2 l2 k2) (hl1:IsSq b1 s.heap l1 xs) (hl2:IsSq b2 s.heap l2 ys) (hend:xs[k1]?=none∨ys[k2]?=none)
  (hE:∀h' e tk,(∀c o,c≠z→c≠TO→c≠i1→c≠i2→s.heap.get? c=some o→h'.get? c=some o)→(∃o,h'.get? e=some o∧o.cls=.type "StopIteration")→E (.ref e) {s with heap:=h',toks:=tk}):
  wpAny (model prog w) A (Builtin.«zip.__next__» ⟨[.ref z],[]⟩) Q E s:=by
 have D1:=draws (prog:=prog) (w:=w) (A:=A) hh b1 i1 l1 D.l1.2.2.1 xs;have D2:=draws (prog:=prog) (w:=w) (A:=A) hh b2 i2 l2 D.l2.2.2.2 ys;show wpAny _ _ (field (.ref z) 2>>=_) _ _ _;refine Za (wpAny_field hz rfl (x:=.bool false) rfl ?_);show wpAny _ _ (field (.ref z) 3>>=_) _ _ _;refine Za (wpAny_field hz rfl (x:=.ref TI) rfl ?_);refine Za (wpAny_seqItems hTI rfl ?_);show wpAny _ _ (Builtin.SmallTypes.ownedTupleIsFree (.ref z)>>=_) _ _ _;refine Za ?_;unfold Builtin.SmallTypes.ownedTupleIsFree;refine Za (wpAny_field hz rfl (x:=.none) rfl (Zg ?_));simp only[if_true];refine Za (wpAny_rule ?_);refine Za (wpAny_field hz rfl (x:=.ref TO) rfl ?_);refine Za (wpAny_setField_rec hz (by simp) λh₁ hz₁ hs₁=>?_);replace hz₁:IsZip h₁ z TI TO .ellipsis:=hz₁;refine Za ?_;simp only[List.zipIdx_cons,List.zipIdx_nil,List.forIn_cons,List.forIn_nil];refine Za (Za (wpAny_onRaise ?_));show wpAny _ _ (Builtin.SmallTypes.nextOf (.ref i1)>>=_) _ _ _;by_cases n1:k1<xs.size
 ·have hy:ys[k2]?=none:=hend.resolve_left (by simp[n1]);refine Za (D1.item k1 _ _ _ n1 ⟨h1.at λo e=>hs₁.extBut _ _ D.i1z e,hl1.at λo e=>hs₁.extBut _ _ D.l1.1 e⟩ λx h₂ tk hx st₂ hs₂=>Zg ?_);have hTO₂:IsPair h₂ TO a b:=hs₂.extBut _ _ D.TOi1 (hs₁.extBut _ _ D.TOz hTO);refine Za (wpAny_seqItems hTO₂ rfl ?_);refine Za (wpAny_updateSeq_pair hTO₂ λh₃ hTO₃ hs₃=>?_);refine Za (wpAny_letGo (Zg ?_));refine Za (Za (wpAny_onRaise ?_));show wpAny _ _ (Builtin.SmallTypes.nextOf (.ref i2)>>=_) _ _ _;refine Za (a5U' hh (h2.at λo e=>hs₃.extBut _ _ D.TOi2.symm (hs₂.extBut _ _ D.i12.symm (hs₁.extBut _ _ D.i2z e))) (hl2.at λo e=>hs₃.extBut _ _ D.l2.2.1 (hs₂.extBut _ _ D.l2.2.2.1 (hs₁.extBut _ _ D.l2.1 e))) hy λh₄ e hs₄ he=>?_);obtain⟨oe,hoe,hce⟩:=he;have hz₄:IsZip h₄ z TI TO .ellipsis:=hs₄ _ _ D.i2z.symm (hs₃.extBut _ _ D.TOz.symm (hs₂.extBut _ _ D.i1z.symm hz₁));have hez:e≠z:=λx=>by subst x;rw[hz₄]at hoe;cases hoe;simp at hce
  exact wpAny_setField_rec hz₄ (by simp) λh₅ _ hs₅=>hE h₅ e _ (λc o c1 c2 c3 c4 x=>hs₅.extBut _ _ c1 (hs₄ _ _ c4 (hs₃.extBut _ _ c2 (hs₂.extBut _ _ c3 (hs₁.extBut _ _ c1 x))))) ⟨oe,hs₅.extBut _ _ hez hoe,hce⟩
 ·have hx:xs[k1]?=none:=by simp;omega
  refine Za (a5U' hh (h1.at λo e=>hs₁.extBut _ _ D.i1z e) (hl1.at λo e=>hs₁.extBut _ _ D.l1.1 e) hx λh₂ e hs₂ he=>?_);obtain⟨oe,hoe,hce⟩:=he;have hz₂:IsZip h₂ z TI TO .ellipsis:=hs₂ _ _ D.i1z.symm hz₁;have hez:e≠z:=λx=>by subst x;rw[hz₂]at hoe;cases hoe;simp at hce
  exact wpAny_setField_rec hz₂ (by simp) λh₃ _ hs₃=>hE h₃ e _ (λc o c1 _ c3 _ x=>hs₃.extBut _ _ c1 (hs₂ _ _ c3 (hs₁.extBut _ _ c1 x))) ⟨oe,hs₃.extBut _ _ hez hoe,hce⟩
theorem a8d'(D:ZApart z TI TO i1 i2 l1 l2)(hh:A.handled=none){x y:Value}{Q:Ov→Shared→Prop}
  (hz:IsZip s.heap z TI TO .none) (hTI:IsPair s.heap TI (.ref i1) (.ref i2)) (hTO:IsPair s.heap TO a b)
  (h1:IsIt b1 s.heap i1 l1 k1) (h2:IsIt b2 s.heap i2 l2 k2) (hl1:IsSq b1 s.heap l1 xs) (hl2:IsSq b2 s.heap l2 ys) (hx:xs[k1]?=some x) (hy:ys[k2]?=some y)
  (hQ:∀h',IsZip h' z TI TO (rawInt s.heap.objs.size)→IsPair h' TO x y→IsIt b1 h' i1 l1 (k1+1)→IsIt b2 h' i2 l2 (k2+1)→IsPair h' s.heap.objs.size x y→h'.objs.size=s.heap.objs.size+1→
   (∀c o,c≠z→c≠TO→c≠i1→c≠i2→s.heap.get? c=some o→h'.get? c=some o)→∀tk,Q (some (.ref s.heap.objs.size)) {s with heap:=h',toks:=tk}):
  wpAny (model prog w) A (pyNext (.ref z)) Q E s:=by
 have hT:s.TypeIs (.ref z) "zip":=⟨_,hz,rfl⟩;unfold pyNext
 exact Za (wpAny_attempt (wpAny_callSpecial?_slot (name:=Str.ofString "__next__") hT F.slot_zip_next
  (wpAny_call_entry F.slot_zip_next hT F.entry_zip_next (zip_go D (show A.in1.handled=none from hh) hz hTI hTO h1 h2 hl1 hl2 hx hy λh' a1 a2 a3 a4 a5 a6 a7 tk=>Zg (hQ h' a1 a2 a3 a4 a5 a6 a7 tk)) (F.args_zip_next_1 _))))
theorem a5V'(D:ZApart z TI TO i1 i2 l1 l2)(hh:A.handled=none){Q:Ov→Shared→Prop}
  (hz:IsZip s.heap z TI TO .none) (hTI:IsPair s.heap TI (.ref i1) (.ref i2)) (hTO:IsPair s.heap TO a b)
  (h1:IsIt b1 s.heap i1 l1 k1) (h2:IsIt b2 s.heap i2 l2 k2) (hl1:IsSq b1 s.heap l1 xs) (hl2:IsSq b2 s.heap l2 ys) (hend:xs[k1]?=none∨ys[k2]?=none)
  (hQ:∀h' tk,(∀c o,c≠z→c≠TO→c≠i1→c≠i2→s.heap.get? c=some o→h'.get? c=some o)→Q none {s with heap:=h',toks:=tk}):wpAny (model prog w) A (pyNext (.ref z)) Q E s:=by
 have hT:s.TypeIs (.ref z) "zip":=⟨_,hz,rfl⟩;unfold pyNext
 refine Za (wpAny_attempt (wpAny_callSpecial?_slot (name:=Str.ofString "__next__") hT F.slot_zip_next
  (wpAny_call_entry F.slot_zip_next hT F.entry_zip_next (b2C' D (show A.in1.handled=none from hh) hz hTI hTO h1 h2 hl1 hl2 hend λh' e tk hk he=>?_) (F.args_zip_next_1 _))))
 obtain⟨o,ho,hc⟩:=he;refine Za (wpAny_isInstance (T:="StopIteration") (b:=true) ⟨o,ho,hc⟩ isSubtype_stop ?_);exact Zg (hQ _ tk hk)
end
noncomputable def itObj(b:Bool)(l:Addr):Obj:={cls:=.type (match b with|true=>"list_iterator"|false=>"tuple_iterator"),data:=.fields #[.ref l,.int 0 0]}
noncomputable def zH1(h:Heap)(b1:Bool)(l1:Addr):Heap:=h.push (itObj b1 l1)
noncomputable def zH2(h:Heap)(b1 b2:Bool)(l1 l2:Addr):Heap:=(zH1 h b1 l1).push (itObj b2 l2)
noncomputable def zH3(h:Heap)(b1 b2:Bool)(l1 l2:Addr):Heap:=(zH2 h b1 b2 l1 l2).push {cls:=.type "tuple",data:=.seq #[.ref h.objs.size,.ref (zH1 h b1 l1).objs.size]}
noncomputable def zH4(h:Heap)(b1 b2:Bool)(l1 l2:Addr):Heap:=(zH3 h b1 b2 l1 l2).push {cls:=.type "tuple",data:=.seq #[.none,.none]}
noncomputable def zH5(h:Heap)(b1 b2:Bool)(l1 l2:Addr):Heap:=(zH4 h b1 b2 l1 l2).push {cls:=.type "zip",data:=.fields #[.none,.bool false,.bool false,.ref (zH2 h b1 b2 l1 l2).objs.size,.ref (zH3 h b1 b2 l1 l2).objs.size]}
theorem zip_new(b1 b2:Bool)(l1 l2:Addr)(xs ys:Av):
  Meets (Builtin.«zip.__new__» ⟨[.type "zip",.ref l1,.ref l2],[]⟩) (λ_ R s=>IsSq b1 s.heap l1 xs∧IsSq b2 s.heap l2 ys∧R (.ok (.ret (.ref (zH4 s.heap b1 b2 l1 l2).objs.size))) {s with heap:=zH5 s.heap b1 b2 l1 l2}):=
 .of_wp λprog w A R s h=>by
  obtain⟨hp,g,d,tk,os⟩:=s;obtain⟨hl1,hl2,h⟩:=h;have hsub:=sub_zip;have hL2:IsSq b2 (zH1 hp b1 l1) l2 ys:=hl2.at λo e=>Zc _ e;cases b1 with
  |true=>
   have hL1:Heap.IsList (Shared.heap ⟨hp,g,d,tk,os⟩) l1 xs:=hl1;cases b2 with
   |true=>
    have hL2:Heap.IsList (Shared.heap ⟨hp.push {cls:=.type "list_iterator",data:=.fields #[.ref l1,.int 0 0]},g,d,tk,os⟩) l2 ys:=hL2
    wp_walk using wpAny_pyIter_list hL1,wpAny_pyIter_list hL2
    exact⟨_,rfl,h⟩
   |false=>
    have hL2:Heap.IsTuple (Shared.heap ⟨hp.push {cls:=.type "list_iterator",data:=.fields #[.ref l1,.int 0 0]},g,d,tk,os⟩) l2 ys:=hL2
    wp_walk using wpAny_pyIter_list hL1,wpAny_pyIter_tuple hL2
    exact⟨_,rfl,h⟩
  |false=>
   have hL1:Heap.IsTuple (Shared.heap ⟨hp,g,d,tk,os⟩) l1 xs:=hl1;cases b2 with
   |true=>
    have hL2:Heap.IsList (Shared.heap ⟨hp.push {cls:=.type "tuple_iterator",data:=.fields #[.ref l1,.int 0 0]},g,d,tk,os⟩) l2 ys:=hL2
    wp_walk using wpAny_pyIter_tuple hL1,wpAny_pyIter_list hL2
    exact⟨_,rfl,h⟩
   |false=>
    have hL2:Heap.IsTuple (Shared.heap ⟨hp.push {cls:=.type "tuple_iterator",data:=.fields #[.ref l1,.int 0 0]},g,d,tk,os⟩) l2 ys:=hL2
    wp_walk using wpAny_pyIter_tuple hL1,wpAny_pyIter_tuple hL2
    exact⟨_,rfl,h⟩
theorem a9h'{b:Bool}{l:Addr}(e:h.get? it=some (itObj b l)):IsIt b h it l 0:=by
 cases b with
 |true=>exact⟨_,e,rfl,rfl⟩
 |false=>exact⟨_,e,rfl,rfl⟩
theorem b2D'{l1 l2:Addr}{xs ys:Av}(hl1:IsSq b1 s.heap l1 xs)(hl2:IsSq b2 s.heap l2 ys)
  (h:∀h',IsZip h' (s.heap.objs.size+4) (s.heap.objs.size+2) (s.heap.objs.size+3) .none→IsPair h' (s.heap.objs.size+2) (.ref s.heap.objs.size) (.ref (s.heap.objs.size+1))→
   IsPair h' (s.heap.objs.size+3) .none .none→IsIt b1 h' s.heap.objs.size l1 0→IsIt b2 h' (s.heap.objs.size+1) l2 0→h'.objs.size=s.heap.objs.size+5→
   (∀c o,s.heap.get? c=some o→h'.get? c=some o)→Q (.ref (s.heap.objs.size+4)) {s with heap:=h'}):
  wpAny (model prog w) A (call (.type "zip") [.ref l1,.ref l2]) Q E s:=by
 refine callType_new F.called_zip (by decide) (F.typeCall_zip_2 _ _) (F.newCall_zip_2 _ _) (λobj=>F.args_object_init_3 obj _ _) F.entry_zip_new (zip_new b1 b2 l1 l2 xs ys) ⟨hl1,hl2,?_⟩;have z1:(zH1 s.heap b1 l1).objs.size=s.heap.objs.size+1:=Heap.size_push ..;have z2:(zH2 s.heap b1 b2 l1 l2).objs.size=s.heap.objs.size+2:=by unfold zH2;rw[Heap.size_push,z1]
 have z3:(zH3 s.heap b1 b2 l1 l2).objs.size=s.heap.objs.size+3:=by unfold zH3;rw[Heap.size_push,z2]
 have z4:(zH4 s.heap b1 b2 l1 l2).objs.size=s.heap.objs.size+4:=by unfold zH4;rw[Heap.size_push,z3]
 have z5:(zH5 s.heap b1 b2 l1 l2).objs.size=s.heap.objs.size+5:=by unfold zH5;rw[Heap.size_push,z4]
 have g5:(zH5 s.heap b1 b2 l1 l2).get? (zH4 s.heap b1 b2 l1 l2).objs.size=some _:=Zk _ rfl;have g4:(zH5 s.heap b1 b2 l1 l2).get? (zH3 s.heap b1 b2 l1 l2).objs.size=some _:=Zc _ (Zk _ rfl);have g3:(zH5 s.heap b1 b2 l1 l2).get? (zH2 s.heap b1 b2 l1 l2).objs.size=some _:=Zc _ (Zc _ (Zk _ rfl));have g2:(zH5 s.heap b1 b2 l1 l2).get? (zH1 s.heap b1 l1).objs.size=some (itObj b2 l2):=Zc _ (Zc _ (Zc _ (Zk _ (by cases b2<;>rfl))));have g1:(zH5 s.heap b1 b2 l1 l2).get? s.heap.objs.size=some (itObj b1 l1):=Zc _ (Zc _ (Zc _ (Zc _ (Zk _ (by cases b1<;>rfl)))));show _∧_;rw[z2,z3,z4]at g5;rw[z1,z2]at g3;rw[z3]at g4;rw[z1]at g2;rw[z4]
 exact⟨⟨_,g5,rfl⟩,h _ g5 g3 g4 (a9h' g1) (a9h' g2) z5 λc o x=>
  Zc _ (Zc _ (Zc _ (Zc _ (Zc _ x))))⟩
def SqB(b:Bool)(K:Fg)(H:Hp)(l:Addr)(xs:List V):Prop:=match b with
 |true=>SqL K H l xs
 |false=>SqT K H l xs
noncomputable def Itz(K:Fg)(b1 b2:Bool)(l1 l2:Addr):It:=
 ⟨λi H=>∃xs ys x y,SqB b1 K H l1 xs∧SqB b2 K H l2 ys∧xs[i]?=some x∧ys[i]?=some y,
  λi H v H'=>∃T x y,v=.ref T∧H T=none∧H'=upd H T (.tup [x,y])∧(∀xs,SqB b1 K H l1 xs→xs[i]?=some x)∧(∀ys,SqB b2 K H l2 ys→ys[i]?=some y),
  λi H=>∃xs ys,SqB b1 K H l1 xs∧SqB b2 K H l2 ys∧(xs.length≤i∨ys.length≤i)⟩
theorem a8e'{b:Bool}{l:Addr}(I:Inv X pq σ H s)(h:SqB b X.K H l xs):∃its,Vals xs its∧IsSq b s.heap l its.toArray:=by
 cases b with
 |true=>obtain⟨its,r,p,_⟩:=I.list h;exact⟨its,r,p.isList⟩
 |false=>obtain⟨its,r,p,_⟩:=I.tuple h;exact⟨its,r,p⟩
theorem b1B'{b:Bool}{l:Addr}(I:Inv X pq σ H s)(h:SqB b X.K H l xs)(h':SqB b X.K H l ys):xs=ys:=by
 cases b with
 |true=>exact I.list_inj h h'
 |false=>exact I.tuple_inj h h'
theorem a2v'{b:Bool}{l c:Addr}(I:Inv X pq σ H s)(h:SqB b X.K H l xs)(hf:FpOk X pq H c):l≠c:=by
 have kl:∀{o:Obj},X.K.lookup l=some o→l≠c:=λ{o} e=>by
  have e1:X.base.get? l=some o:=I.mod.kin l o e;rintro rfl;rcases hf.2.2.2.1 with z|z
  ·exact I.ok.noex l o e1 z
  ·exact absurd (Zu (Zj e1) (ZT I.ok.bsz z)) (ZN _)
 have hl:∀{o:HO},H l=some o→l≠c:=λ{o} e=>by rintro rfl;rw[hf.1]at e;cases e
 cases b with
 |true=>
  rcases h with(h| ⟨o,h⟩)| ⟨o,its,n,h,_⟩
  ·exact hl h
  ·exact hl h
  ·exact kl h
 |false=>
  rcases h with(h| ⟨o,h⟩)| ⟨o,its,n,h,_⟩
  ·exact hl h
  ·exact hl h
  ·exact kl h
theorem a9i'{t':Nat}(I:Inv X pq σ H s)(k:∀b o,b∉ch→s.heap.get? b=some o→h'.get? b=some o)(hf:∀b∈ch,FpOk X pq H b):Inv X pq σ H {s with heap:=h',toks:=t'}:=by
 have nit:∀b u,H b=some u→b∉ch:=λb u e z=>by rw[(hf b z).1]at e;cases e
 refine I.step (g':=s.gens) (d':=s.drawn) (ch:=ch) (λb hb=>?_) (λb o _ _ hc e _=>k b o hc e) (λb o _ _ hc e _=>⟨o.slots,k b o hc e⟩) (λ_ _ _ _ n=>n)
  (λb o hc e=>⟨o,k b o hc e⟩) (λ_ _ e=>e) (λ_ _ _ e=>e) (λb ps e=>⟨#[],by rw[e];simp⟩) (λm hm=>?_) (λb u e=>?_) I.bare
 ·obtain⟨_,f1,_,f3,f4,f5⟩:=hf b hb;exact⟨f3,f1,f4,f5⟩
 ·obtain⟨o,es,ep,ho,r⟩:=hm;exact⟨o,es,ep,k _ o (λz=>(hf _ z).2.1 rfl) ho,r⟩
 ·refine(I.hok b u e).stay (λc v hc q=>k c v ?_ q) (λ_ q=>q) λ_ _ q=>q;rcases hc with z|z
  ·rw[z];exact nit b u e
  ·exact nit c _ z
def ztn(b b':Bool)(z TI TO i1 i2 l1 l2:Addr)(i:Nat)(h:Heap):Prop:=IsZip h z TI TO .none∧IsPair h TI (.ref i1) (.ref i2)∧(∃a b,IsPair h TO a b)∧IsIt b h i1 l1 i∧IsIt b' h i2 l2 i
theorem b2E'{P:Program}{x1}{pos:Pos}(b b':Bool)(z TI TO i1 i2 l1 l2:Addr)(n1:TI≠z)(n2:TO≠z)(n3:i1≠z)(n4:i2≠z)(n5:TI≠TO)(n6:TI≠i1)(n7:TI≠i2)(n8:TO≠i1)(n9:TO≠i2)(n10:i1≠i2):
  Turn P w K (.Tuple es x1 pos) (Itz K b b' l1 l2) [z,TI,TO,i1,i2] z (ztn b b' z TI TO i1 i2 l1 l2) where
 mem:=by simp
 obj:=λi h ⟨hz,hTI,⟨a,c,hTO⟩,h1,h2⟩ d hd=>by
  simp only[Zm,ZO,or_false]at hd;rcases hd with rfl|rfl|rfl|rfl|rfl
  ·exact⟨_,hz,λv q=>by have q':Data.fields _=Data.cell v:=q;cases q'⟩
  ·exact⟨_,hTI,λv q=>by have q':Data.seq _ _=Data.cell v:=q;cases q'⟩
  ·exact⟨_,hTO,λv q=>by have q':Data.seq _ _=Data.cell v:=q;cases q'⟩
  ·exact h1.obj
  ·exact h2.obj
 keep:=λi h h' ⟨hz,hTI,⟨a,c,hTO⟩,h1,h2⟩ k=>⟨k z (by simp) _ hz,k TI (by simp) _ hTI,⟨a,c,k TO (by simp) _ hTO⟩,h1.at λo e=>k i1 (by simp) o e,h2.at λo e=>k i2 (by simp) o e⟩
 item:=by
  intro X hP hw hK hc i pq s σ H E I hf st hg;subst hP hw hK;obtain⟨hz,hTI,⟨a,c,hTO⟩,h1,h2⟩:=st;obtain⟨xs,ys,x,y,q1,q2,ex,ey⟩:=hg;obtain⟨us,r1,s1⟩:=a8e' I q1;obtain⟨ws,r2,s2⟩:=a8e' I q2;obtain⟨u,eu,ru⟩:=r1.get ex;obtain⟨v,ev,rv⟩:=r2.get ey
  have Dp:ZApart z TI TO i1 i2 l1 l2:=⟨n1,n2,n3,n4,n5,n6,n7,n8,n9,n10,⟨a2v' I q1 (hf z (by simp)),a2v' I q1 (hf TO (by simp)),a2v' I q1 (hf i1 (by simp)),a2v' I q1 (hf i2 (by simp))⟩,
   ⟨a2v' I q2 (hf z (by simp)),a2v' I q2 (hf TO (by simp)),a2v' I q2 (hf i1 (by simp)),a2v' I q2 (hf i2 (by simp))⟩⟩
  refine a8d' Dp (I.ok.hd hc) hz hTI hTO h1 h2 s1 s2 (x:=u) (y:=v) (by simpa using eu) (by simpa using ev) λh' a1 a2 a3 a4 a5 a6 kk tk=>?_;refine⟨_,rfl,?_⟩;refine wpAny_letOwnedTupleGo_zip (s:={s with heap:=h',toks:=tk}) a1 λh2' b1 sb=>?_;have hTn:H s.heap.objs.size=none:=I.hok.fresh (Zi _)
  have kk2:∀c o,c∉[z,TI,TO,i1,i2]→s.heap.get? c=some o→h2'.get? c=some o:=λc o hc e=>by simp only[Zm,ZO,or_false,not_or]at hc;exact(sb.2 c hc.1).trans (kk c o hc.1 hc.2.2.1 hc.2.2.2.1 hc.2.2.2.2 e)
  have I1:Inv X pq σ H {s with heap:=h2',toks:=tk}:=a9i' I kk2 hf
  have hTz:∀c∈[z,TI,TO,i1,i2],s.heap.objs.size≠c:=λc hc e=>by
   obtain⟨o,q,_⟩:∃o,s.heap.get? c=some o∧True:=by
    simp only[Zm,ZO,or_false]at hc;rcases hc with rfl|rfl|rfl|rfl|rfl
    ·exact⟨_,hz,trivial⟩
    ·exact⟨_,hTI,trivial⟩
    ·exact⟨_,hTO,trivial⟩
    ·exact⟨_,h1.obj.choose_spec.1,trivial⟩
    ·exact⟨_,h2.obj.choose_spec.1,trivial⟩
   exact absurd (Zj q) (by rw[e];exact ZN _)
  have hT2:IsPair h2' s.heap.objs.size u v:=(sb.2 _ (hTz z (by simp))).trans a5
  have I2:Inv X pq σ (upd H s.heap.objs.size (.tup [x,y])) {s with heap:=h2',toks:=tk}:=by
   have Im:Inv X pq σ (upd H s.heap.objs.size (.tup [x,y])) {s with heap:=s.heap.push {cls:=.type "tuple",data:=.seq #[u,v]},toks:=s.toks}:=
    I.laid (λb o e=>Zc _ e) (Zi _) ⟨by show 2≤sizeLine;decide,[u,v],.cons ru (.cons rv .nil),⟨_,Zk _ rfl,rfl,_,rfl⟩,_,Zk _ rfl,rfl⟩
   refine a9i' (s:={s with heap:=s.heap.push {cls:=.type "tuple",data:=.seq #[u,v]},toks:=s.toks}) Im (ch:=[z,TI,TO,i1,i2]) (λb o hb e=>?_) λb hb=>?_
   ·rcases Heap.get?_push_cases e with⟨rfl,rfl⟩|e'
    ·exact hT2
    ·exact kk2 b o hb e'
   ·obtain⟨f0,f1⟩:=hf b hb;exact⟨by rw[a0u' (λe=>hTz b hb e.symm)];exact f0,f1⟩
  refine⟨.ref s.heap.objs.size,upd H s.heap.objs.size (.tup [x,y]),I2,rfl,⟨s.heap.objs.size,x,y,rfl,hTn,rfl,λzs hq=>by rw[b1B' I hq q1];exact ex,λzs hq=>by rw[b1B' I hq q2];exact ey⟩,
   ⟨b1,(sb.2 TI n1).trans (kk TI _ n1 n5 n6 n7 hTI),⟨u,v,(sb.2 TO n2).trans a2⟩,a3.at λo e=>(sb.2 i1 n3).trans e,a4.at λo e=>(sb.2 i2 n4).trans e⟩,λc hc=>?_⟩
  rw[a0u' (λe=>hTz c hc e.symm)];exact(hf c hc).1
 done:=by
  intro X hP hw hK hc i pq s σ H E I hf st hg;subst hP hw hK;obtain⟨hz,hTI,⟨a,c,hTO⟩,h1,h2⟩:=st;obtain⟨xs,ys,q1,q2,en⟩:=hg;obtain⟨us,r1,s1⟩:=a8e' I q1;obtain⟨ws,r2,s2⟩:=a8e' I q2;have hl1:=r1.length;have hl2:=r2.length
  have Dp:ZApart z TI TO i1 i2 l1 l2:=⟨n1,n2,n3,n4,n5,n6,n7,n8,n9,n10,⟨a2v' I q1 (hf z (by simp)),a2v' I q1 (hf TO (by simp)),a2v' I q1 (hf i1 (by simp)),a2v' I q1 (hf i2 (by simp))⟩,
   ⟨a2v' I q2 (hf z (by simp)),a2v' I q2 (hf TO (by simp)),a2v' I q2 (hf i1 (by simp)),a2v' I q2 (hf i2 (by simp))⟩⟩
  refine a5V' Dp (I.ok.hd hc) hz hTI hTO h1 h2 s1 s2 (en.elim (λen=>.inl (by simp;omega)) λen=>.inr (by simp;omega)) λh' tk kk=>?_;refine⟨rfl,a9i' I (ch:=[z,TI,TO,i1,i2]) (λc o hc e=>?_) hf⟩;simp only[Zm,ZO,or_false,not_or]at hc;exact kk c o hc.1 hc.2.2.1 hc.2.2.2.1 hc.2.2.2.2 e
 self:=λ_ _ _ _ _ st h=>wpAny_pyIter_zip st.1 h
structure Chg (K:Fg)(F:La)(μ:La)(H:Hp)(F':La)(μ':La)(H':Hp):Prop where
 tup:∀a vs,SqT K H a vs→SqT K H' a vs
 lst:∀a vs,H a=some (.lst vs)→a∉μ→a∉F→H' a=some (.lst vs)∧a∉μ'∧a∉F'
 frz:∀a vs,Frz K H a vs→Frz K H' a vs
 box:∀(n:Nat) a,μ[n]?=some a→μ'[n]?=some a
 dct:∀a,H a=some (.dK [])→H' a=some (.dK [])
section
variable {F':La}
mutual
theorem Rep.chg(x:Chg K F μ H F' μ' H'):∀(d:D) (v:V),Rep K ⟨mg,F⟩ μ H d v→Rep K ⟨mg,F'⟩ μ' H' d v
 | .non,_,h=>h
 | .bl _,_,h=>h
 | .int _,_,h=>h
 | .str _,_,h=>h
 | .tup ds,v,h=>by unfold Rep at h⊢;obtain⟨a,vs,e,q,r⟩:=h;exact⟨a,vs,e,x.tup a vs q,RepL.chg x ds vs r⟩
 | .lst ds,v,h=>by unfold Rep at h⊢;obtain⟨a,vs,e,q,n,r⟩:=h;obtain⟨h1,h2,h3⟩:=x.lst a vs q n.1 n.2;exact⟨a,vs,e,h1,⟨h2,h3⟩,RepL.chg x ds vs r⟩
 | .scr ds,v,h=>by unfold Rep at h⊢;obtain⟨a,vs,e,q,r⟩:=h;exact⟨a,vs,e,x.frz a vs q,RepL.chg x ds vs r⟩
 | .ref n,v,h=>by unfold Rep at h⊢;obtain⟨a,e,q⟩:=h;exact⟨a,e,x.box n a q⟩
 | .fn y,v,h=>h
 | .ty y,v,h=>h
 | .dct,v,h=>by unfold Rep at h⊢;obtain⟨a,e,q⟩:=h;exact⟨a,e,x.dct a q⟩
theorem RepL.chg(x:Chg K F μ H F' μ' H'):∀(ds:List D) (vs:List V),RepL K ⟨mg,F⟩ μ H ds vs→RepL K ⟨mg,F'⟩ μ' H' ds vs
 | [],vs,h=>h
 |d::ds,vs,h=>by unfold RepL at h⊢;obtain⟨w,ws,e,r,q⟩:=h;exact⟨w,ws,e,Rep.chg x d w r,RepL.chg x ds ws q⟩
end
theorem EnvR.chg(x:Chg K F μ H F' μ' H')(h:EnvR K ⟨mg,F⟩ μ H ρ σ):EnvR K ⟨mg,F'⟩ μ' H' ρ σ:=
 ⟨h.1,λi d e=>let⟨v,a,b⟩:=h.2 i d e;⟨v,a,Rep.chg x _ _ b⟩⟩
theorem Chg.start(h:H acc=none):Chg K F μ H (acc::F) μ (upd H acc o):=by
 have x:Ext μ H μ (upd H acc o):=.laid h;refine⟨λa vs q=>x.sqT q,λa vs q h1 h2=>⟨(x.lst q h1).1,h1,λz=>?_⟩,λa vs q=>x.frz q,λn a q=>q,λa q=>x.keep _ _ q (.inl λ_ z=>by cases z)⟩;rcases Zm.mp z with rfl|z
 ·rw[h]at q;cases q
 ·exact h2 z
theorem Chg.more(ha:acc∈F)(h:H acc=some (.lst xs)):Chg K F μ H F μ (upd H acc (.lst ys)):=by
 have ne:∀{a:Addr} {o:HO},H a=some o→(∀zs,o≠.lst zs)→a≠acc:=λe n z=>by subst z;rw[h]at e;cases e;exact n _ rfl
 refine⟨λa vs q=>?_,λa vs q h1 h2=>⟨?_,h1,h2⟩,λa vs q=>?_,λn a q=>q,λa q=>?_⟩
 ·rcases q with(q| ⟨o,q⟩)|q
  ·exact .inl (.inl (by rw[a0u' (ne q λ_ z=>by cases z)];exact q))
  ·exact .inl (.inr ⟨o,by rw[a0u' (ne q λ_ z=>by cases z)];exact q⟩)
  ·exact .inr q
 ·have:a≠acc:=λz=>by subst z;exact h2 ha
  rw[a0u' this];exact q
 ·rcases q with⟨o,q⟩|q
  ·exact .inl ⟨o,by rw[a0u' (ne q λ_ z=>by cases z)];exact q⟩
  ·exact .inr q
 ·rw[a0u' (ne q λ_ z=>by cases z)];exact q
theorem Chg.out:Chg K (acc::F) μ H F μ H:=
 ⟨λ_ _ q=>q,λa vs q h1 h2=>⟨q,h1,λz=>h2 (Zb _ z)⟩,λ_ _ q=>q,λ_ _ q=>q,λ_ q=>q⟩
theorem Chg.outBox:Chg K (acc::F) μ H F (μ++[acc]) H:=by
 refine⟨λ_ _ q=>q,λa vs q h1 h2=>⟨q,λz=>?_,λz=>h2 (Zb _ z)⟩,λ_ _ q=>q,λn a q=>?_,λ_ q=>q⟩
 ·rcases ZF.mp z with z|z
  ·exact h1 z
  ·have:a=acc:=by simpa using z
   subst this;exact h2 Zd
 ·rw[Zl (Zf.mp q).1];exact q
theorem SOk.start(s:SOk K ⟨mg,F⟩ μ S H)(h:H acc=none):SOk K ⟨mg,acc::F⟩ μ S (upd H acc o):=by
 have x:Ext μ H μ (upd H acc o):=.laid h;refine⟨λa ha=>?_,s.len,s.nd,λn a ds h1 h2=>?_⟩
 ·rcases Zm.mp ha with rfl|ha
  ·exact⟨o,a0L'⟩
  ·obtain⟨o',q⟩:=s.live a ha;exact x.there a o' q
 ·obtain⟨vs,q,r⟩:=s.at_ n a ds h1 h2;exact⟨vs,by rw[a0u' (a0m' q h)];exact q,RepL.chg (.start h) _ _ r⟩
theorem SOk.more(s:SOk K ⟨mg,F⟩ μ S H)(ha:acc∈F)(hm:acc∉μ)(h:H acc=some (.lst xs)):SOk K ⟨mg,F⟩ μ S (upd H acc (.lst ys)):=by
 refine⟨λa hb=>?_,s.len,s.nd,λn a ds h1 h2=>?_⟩
 ·by_cases e:a=acc
  ·subst e;exact⟨_,a0L'⟩
  ·obtain⟨o',q⟩:=s.live a hb;exact⟨o',by rw[a0u' e];exact q⟩
 ·obtain⟨vs,q,r⟩:=s.at_ n a ds h1 h2;have:a≠acc:=λz=>by subst z;exact hm (Zn h1)
  exact⟨vs,by rw[a0u' this];exact q,RepL.chg (.more ha h) _ _ r⟩
theorem SOk.out(s:SOk K ⟨mg,acc::F⟩ μ S H):SOk K ⟨mg,F⟩ μ S H:=
 ⟨λa ha=>s.live a (Zb _ ha),s.len,s.nd,λn a ds h1 h2=>by obtain⟨vs,q,r⟩:=s.at_ n a ds h1 h2;exact⟨vs,q,RepL.chg .out _ _ r⟩⟩
theorem SOk.outBox{ys:List D}{vs:List V}(s:SOk K ⟨mg,acc::F⟩ μ S H)(hm:acc∉μ)(h:H acc=some (.lst vs))(r:RepL K ⟨mg,acc::F⟩ μ H ys vs):SOk K ⟨mg,F⟩ (μ++[acc]) (S++[ys]) H:=by
 refine⟨λa ha=>s.live a (Zb _ ha),by simp[s.len],?_,λn a es h1 h2=>?_⟩
 ·rw[ZZ]
  exact⟨s.nd,by simp,λa ha b hb=>by
   have:b=acc:=by simpa using hb
   subst this;intro z;subst z;exact hm ha⟩
 ·have hl:=s.len;by_cases hn:n<μ.length
  ·rw[Zl hn]at h1;rw[Zl (by omega)]at h2;obtain⟨ws,q,r'⟩:=s.at_ n a es h1 h2;exact⟨ws,q,RepL.chg .outBox _ _ r'⟩
  ·have e1:n=μ.length:=by
    have:=(Zf.mp h1).1;simp at this;omega
   subst e1;rw[Zp (Zi _)]at h1;rw[Zp (by omega)]at h2;simp[hl]at h1 h2;subst h1;subst h2;exact⟨vs,h,RepL.chg .outBox _ _ r⟩
theorem Ext.more(x:Ext μ H μ1 H1)(h:H acc=none):Ext μ H μ1 (upd H1 acc o):=
 ⟨x.pre,λa u e c=>by rw[a0u' (a0m' e h)];exact x.keep a u e c,λa u e=>by rw[a0u' (a0m' e h)];exact x.there a u e,x.fresh⟩
theorem Ext.outBox(x:Ext μ H μ1 H1)(h:H acc=none):Ext μ H (μ1++[acc]) H1:=by
 obtain⟨r,e⟩:=x.pre;refine⟨⟨r++[acc],by rw[e,List.append_assoc]⟩,x.keep,x.there,λa ha=>?_⟩;rcases ZF.mp ha with ha|ha
 ·exact x.fresh a ha
 ·have:a=acc:=by simpa using ha
  subst this;exact .inr h
end
noncomputable def getOf:Its→Store→Nat→Option (Option D)
 | .items xs=>λ_ i=>some xs[i]?
 | .live _ get=>get
def ItOk(K:Fg)(mg:GS)(J:It)(get:Store→Nat→Option (Option D))(μ:La)(H:Hp):Prop:=
 ∀(i:Nat) μ' S' H' F',Chg K mg.F μ H F' μ' H'→SOk K ⟨mg.mg,F'⟩ μ' S' H'→
  (∀x,get S' i=some (some x)→J.go i H'∧∀y H'',J.yld i H' y H''→Ext μ' H' μ' H''∧SOk K ⟨mg.mg,F'⟩ μ' S' H''∧Rep K ⟨mg.mg,F'⟩ μ' H'' x y)∧(get S' i=some none→J.stop i H')
def tI(K:Fg)(mg:Mg)(E:XK)(Φ:FT)(Γ:Str→Option D)(c:CE):TI:=λσ H R=>∃F μ ρ S,SOk K ⟨mg,F⟩ μ S H∧EnvR K ⟨mg,F⟩ μ H ρ σ∧WantG K ⟨mg,F⟩ E (λμ' H' its J=>ItOk K ⟨mg,F⟩ J (getOf its) μ' H') μ H R (denI Φ Γ c ρ S)
theorem Chg.refl:Chg K F μ H F μ H:=⟨λ_ _ q=>q,λ_ _ q h1 h2=>⟨q,h1,h2⟩,λ_ _ q=>q,λ_ _ q=>q,λ_ q=>q⟩
theorem Chg.trans{F1 F2 μ2:La}{H2:Hp}(a:Chg K F μ H F1 μ1 H1)(b:Chg K F1 μ1 H1 F2 μ2 H2):Chg K F μ H F2 μ2 H2:=
 ⟨λx vs q=>b.tup x vs (a.tup x vs q),λx vs q h1 h2=>by obtain⟨p1,p2,p3⟩:=a.lst x vs q h1 h2;exact b.lst x vs p1 p2 p3,λx vs q=>b.frz x vs (a.frz x vs q),λn x q=>b.box n x (a.box n x q),λx q=>b.dct x (a.dct x q)⟩
theorem Chg.of_ext{F':La}(x:Ext μ H μ' H')(hF:∀a∈F',a∈F∨H a=none):Chg K F μ H F' μ' H':=by
 refine⟨λa vs q=>x.sqT q,λa vs q h1 h2=>⟨(x.lst q h1).1,(x.lst q h1).2,λz=>?_⟩,λa vs q=>x.frz q,λn a q=>x.get q,λa q=>x.keep _ _ q (.inl λ_ z=>by cases z)⟩;rcases hF a z with z|z
 ·exact h2 z
 ·rw[q]at z;cases z
section
variable {E:XK}{l:Expr}{pos:Pos}{c:CE}
theorem a5p'{R:It→Hp→Prop}(I:Inv X pq σ H s)(hq:SqL X.K H a xs)(q:R (Itl X.K a) H):wpAny (model X.prog X.w) X.A (pyIter (.ref a)) (PIE X pq σ tg R) E' s:=by
 obtain⟨its,rv,p,hz⟩:=I.list hq;refine wpAny_pyIter_list p.isList ?_;refine⟨s.heap.objs.size,[s.heap.objs.size],_,_,H,rfl,I.kept (t':=s.toks) λb o e=>Zc _ e,b0l' a _,⟨_,Zk _ rfl,rfl,rfl⟩,λb hb=>?_,q⟩;have e:b=s.heap.objs.size:=by simpa using hb
 subst e;exact I.fpOk (Zi _) (I.hok.fresh (Zi _))
theorem b2F'{R:It→Hp→Prop}(I:Inv X pq σ H s)(hq:SqT X.K H a xs)(q:R (Itt X.K a) H):wpAny (model X.prog X.w) X.A (pyIter (.ref a)) (PIE X pq σ tg R) E' s:=by
 obtain⟨its,rv,p,hz⟩:=I.tuple hq;refine wpAny_pyIter_tuple (show s.heap.IsTuple a its.toArray from p) ?_;refine⟨s.heap.objs.size,[s.heap.objs.size],_,_,H,rfl,I.kept (t':=s.toks) λb o e=>Zc _ e,a8C' a _,⟨_,Zk _ rfl,rfl,rfl⟩,λb hb=>?_,q⟩;have e:b=s.heap.objs.size:=by simpa using hb
 subst e;exact I.fpOk (Zi _) (I.hok.fresh (Zi _))
theorem a7B'{mg:GS}{vs:List V}{i:Nat}(r:RepL K mg μ H ds vs)(h:getOf (.items ds) S i=some none):vs.length≤i:=by
 have h1:ds[i]?=none:=by simpa[getOf]using h
 have h2:=List.getElem?_eq_none_iff.mp h1;have hl:=r.length;omega
theorem a7C'{mg:GS}{vs:List V}(hq:∀F' μ' H',Chg K mg.F μ H F' μ' H'→SqL K H' a vs)(r:RepL K mg μ H ds vs):ItOk K mg (Itl K a) (getOf (.items ds)) μ H:=by
 intro i μ' S' H' F' ch sk;have hl:=r.length;refine⟨λy hy=>?_,λhi=>⟨vs,hq _ _ _ ch,a7B' r hi⟩⟩;have hy:ds[i]?=some y:=by simpa[getOf]using hy
 obtain⟨v,h1,h2⟩:=r.get hy;refine⟨⟨vs,v,hq _ _ _ ch,h1⟩,λz H'' hz=>?_⟩;obtain⟨rfl,hz⟩:=hz;have e:=hz vs (hq _ _ _ ch);rw[h1]at e;cases e;exact⟨.refl,sk,Rep.chg ch _ _ h2⟩
theorem b2G'{mg:GS}{vs:List V}(hq:SqT K H a vs)(r:RepL K mg μ H ds vs):ItOk K mg (Itt K a) (getOf (.items ds)) μ H:=by
 intro i μ' S' H' F' ch sk;have hl:=r.length;refine⟨λy hy=>?_,λhi=>⟨vs,ch.tup _ _ hq,a7B' r hi⟩⟩;have hy:ds[i]?=some y:=by simpa[getOf]using hy
 obtain⟨v,h1,h2⟩:=r.get hy;refine⟨⟨vs,v,ch.tup _ _ hq,h1⟩,λz H'' hz=>?_⟩;obtain⟨rfl,hz⟩:=hz;have e:=hz vs (ch.tup _ _ hq);rw[h1]at e;cases e;exact⟨.refl,sk,Rep.chg ch _ _ h2⟩
theorem b2H'{mg:GS}(hn:μ[n]?=some a):ItOk K mg (Itl K a) (a1t' n) μ H:=by
 intro i μ' S' H' F' ch sk;have hl:n<S'.length:=by rw[←sk.len];exact(Zf.mp (ch.box _ _ hn)).1
 have hy:S'[n]?=some S'[n]:=Zh hl;obtain⟨vs,h1,r⟩:=sk.at_ n a _ (ch.box _ _ hn) hy;have hl:=r.length;refine⟨λy hy'=>?_,λhi=>⟨vs,.of h1,?_⟩⟩
 ·unfold a1t' at hy';rw[hy]at hy';simp only[Option.map_some,Option.some.injEq]at hy';obtain⟨v,h2,h3⟩:=r.get hy';refine⟨⟨vs,v,.of h1,h2⟩,λz H'' hz=>?_⟩;obtain⟨rfl,hz⟩:=hz;have e:=hz vs (.of h1);rw[h2]at e;cases e;exact⟨.refl,sk,h3⟩
 ·unfold a1t' at hi;rw[hy]at hi;simp only[Option.map_some,Option.some.injEq]at hi;have:=List.getElem?_eq_none_iff.mp hi;omega
theorem i_seq(ha:PE X l (tE X.K X.mg E Φ Γ c)):PI X tg l (tI X.K X.mg E Φ Γ (.seq c)):=by
 intro pq s σ H R I h;obtain⟨F,μ,ρ,S,sk,en,w⟩:=h;refine thn (ha pq s σ H _ I ⟨F,μ,ρ,S,sk,en,WantG.bind w⟩) λu s1 ⟨v,H1,I1,rv,μ1,S1,d,x1,s1k,rd,w1⟩=>?_;cases d with
 |tup ds=>obtain⟨a,vs,rfl,hq,r⟩:=a0C' rd;cases rv;exact b2F' I1 hq (w1 μ1 H1 _ .refl s1k (b2G' hq r))
 |lst ds=>unfold Rep at rd;obtain⟨a,vs,rfl,hq,hn,r⟩:=rd;cases rv;exact a5p' I1 (.of hq) (w1 μ1 H1 _ .refl s1k (a7C' (λF' μ' H' ch=>.of (ch.lst a vs hq hn.1 hn.2).1) r))
 |scr ds=>unfold Rep at rd;obtain⟨a,vs,rfl,hq,r⟩:=rd;cases rv;exact a5p' I1 hq.sq (w1 μ1 H1 _ .refl s1k (a7C' (λF' μ' H' ch=>(ch.frz a vs hq).sq) r))
 |ref n=>
  have rd':=rd;unfold Rep at rd;obtain⟨a,rfl,hn⟩:=rd;cases rv;have hl:n<S1.length:=by rw[←s1k.len];exact(Zf.mp hn).1
  obtain⟨vs,h1,r⟩:=s1k.at_ n a _ hn (Zh hl);exact a5p' I1 (.of h1) (w1 μ1 H1 _ .refl s1k (b2H' hn))
 |_=>exact w1.elim
theorem a3z'(lo:Int)(n:Nat):(a1G' lo n).length=n:=by
 induction n generalizing lo with
 |zero=>rfl
 |succ n ih=>unfold a1G';rw[Zz,ih]
theorem a9j'(lo:Int)(n i:Nat)(h:i<n):(a1G' lo n)[i]?=some (.int (lo+i)):=by
 induction n generalizing lo i with
 |zero=>omega
 |succ n ih=>
  unfold a1G';cases i with
  |zero=>simp
  |succ i=>rw[ZH,ih (lo+1) i (by omega)];congr 2;omega
theorem a5W'{mg:GS}(lo:Int)(n:Nat):ItOk K mg (Itr lo n) (getOf (.items (a1G' lo n))) μ H:=by
 intro i μ' S' H' F' ch sk;refine⟨λy hy=>?_,λhi=>?_⟩
 ·have hy:(a1G' lo n)[i]?=some y:=by simpa[getOf]using hy
  have hi:i<n:=by have:=(Zf.mp hy).1;rwa [a3z']at this
  rw[a9j' lo n i hi]at hy;cases hy;refine⟨hi,λz H'' hz=>?_⟩;obtain⟨rfl,rfl⟩:=hz;exact⟨.refl,sk,a1m'⟩
 ·have:(a1G' lo n)[i]?=none:=by simpa[getOf]using hi
  have:=List.getElem?_eq_none_iff.mp this;rw[a3z']at this;exact this
variable {cs:List CE}{a b:CE}{r:Expr}
theorem len_is{mg:GS}{Q:List V→Hp→Prop}(w:WantG K mg E (RepL K mg) μ H Q (denL Φ Γ cs ρ S)):WantG K mg E (RepL K mg) μ H (λvs H'=>vs.length=cs.length∧Q vs H') (denL Φ Γ cs ρ S):=by
 cases e:denL Φ Γ cs ρ S with
 |ok ds S'=>rw[e]at w;intro μ' H' vs x s r;refine⟨?_,w μ' H' vs x s r⟩;rw[←r.length,a6O' e]
 |err y S'=>rw[e]at w;exact w
 |fail=>rw[e]at w;exact w
theorem b2I'(O:XOk X cell N sc CX E Φ Γ k)(h:gloB sc "range"=true)(hn:a0M' l=true)(hcs:cs.length=1)(ha:PA X [l] (tL X.K X.mg E Φ Γ cs)):PI X tg (.Call (.Name "range" p2) [l] [] pos) (tI X.K X.mg E Φ Γ (.range cs)):=by
 obtain⟨h1,_,_⟩:=a0H' h;intro pq s σ H R I ⟨F,μ,ρ,S,sk,en,w⟩;refine b0m' (O.gl h1) (O.mod.bl _ (by decide+kernel)) ha (by rw[a0y' hn];rfl) pq s σ H R I ⟨F,μ,ρ,S,sk,en,(len_is (WantG.bind w)).mono λvs H1 ⟨hl,μ1,S1,ds,x1,s1,r1,w1⟩=>?_⟩;have hl2:=r1.length;split at w1
 ·rename_i j;split at w1
  ·rename_i hj;obtain⟨v,rfl,rv⟩:=r1.one;cases a0c' rv;exact⟨j,rfl,hj.1,hj.2,w1 μ1 H1 _ .refl s1 (a5W' 0 j.toNat)⟩
  ·exact w1.elim
 ·simp only[Zz,List.length_nil]at hl2;omega
 ·exact w1.elim
theorem b2J'(O:XOk X cell N sc CX E Φ Γ k)(h:gloB sc "range"=true)(hn:a0M' l=true)(hn2:a0M' r=true)(hcs:cs.length=2)(ha:PA X [l,r] (tL X.K X.mg E Φ Γ cs)):PI X tg (.Call (.Name "range" p2) [l,r] [] pos) (tI X.K X.mg E Φ Γ (.range cs)):=by
 obtain⟨h1,_,_⟩:=a0H' h;intro pq s σ H R I ⟨F,μ,ρ,S,sk,en,w⟩;refine b0n' (O.gl h1) (O.mod.bl _ (by decide+kernel)) ha (by rw[a0y' hn,a0y' hn2];rfl) (by rw[a0y' hn2];rfl) pq s σ H R I ⟨F,μ,ρ,S,sk,en,(len_is (WantG.bind w)).mono λvs H1 ⟨hl,μ1,S1,ds,x1,s1,r1,w1⟩=>?_⟩;have hl2:=r1.length;split at w1
 ·simp only[Zz,List.length_nil]at hl2;omega
 ·rename_i i j;split at w1
  ·rename_i hj;obtain⟨v,v',rfl,rv,rv'⟩:=r1.two;cases a0c' rv;cases a0c' rv';exact⟨i,j,rfl,hj,w1 μ1 H1 _ .refl s1 (a5W' i (j-i).toNat)⟩
  ·exact w1.elim
 ·exact w1.elim
theorem a9k'{mg:GS}{xs:List D}(s:SOk K mg μ S H)(r:Rep K mg μ H d v)(e:seqOf S d=some xs):∃a,v=.ref a∧
  ∀μ' S' H' F',Chg K mg.F μ H F' μ' H'→SOk K ⟨mg.mg,F'⟩ μ' S' H'→∃ys vs,seqOf S' d=some ys∧SqB (isLst d) K H' a vs∧RepL K ⟨mg.mg,F'⟩ μ' H' ys vs:=by
 cases d with
 |tup ds=>obtain⟨a,vs,rfl,hq,q⟩:=a0C' r;exact⟨a,rfl,λμ' S' H' F' ch sk=>⟨ds,vs,rfl,ch.tup _ _ hq,RepL.chg ch _ _ q⟩⟩
 |lst ds=>unfold Rep at r;obtain⟨a,vs,rfl,hq,hn,q⟩:=r;exact⟨a,rfl,λμ' S' H' F' ch sk=>⟨ds,vs,rfl,SqL.of (ch.lst a vs hq hn.1 hn.2).1,RepL.chg ch _ _ q⟩⟩
 |scr ds=>unfold Rep at r;obtain⟨a,vs,rfl,hq,q⟩:=r;exact⟨a,rfl,λμ' S' H' F' ch sk=>⟨ds,vs,rfl,(ch.frz a vs hq).sq,RepL.chg ch _ _ q⟩⟩
 |ref n=>
  unfold Rep at r;obtain⟨a,rfl,hn⟩:=r;refine⟨a,rfl,λμ' S' H' F' ch sk=>?_⟩;have hl:n<S'.length:=by rw[←sk.len];exact(Zf.mp (ch.box _ _ hn)).1
  obtain⟨vs,h1,q⟩:=sk.at_ n a _ (ch.box _ _ hn) (Zh hl);exact⟨_,vs,Zh hl,SqL.of h1,q⟩
 |_=>unfold seqOf at e;cases e
theorem a2Z'{xs:List D}(h:b0B' d=some xs)(S:Store):seqOf S d=some xs:=by unfold b0B' at h;split at h<;>first|exact h|cases h
theorem b0H'{e:D}{its:Its}(h:zipOf S d e=some its):(∃xs ys,seqOf S d=some xs∧seqOf S e=some ys)∧∀S' i,(∃xs ys,seqOf S' d=some xs∧seqOf S' e=some ys)→getOf its S' i=b0C' d e S' i:=by
 unfold zipOf at h;split at h
 ·rename_i xs ys e1 e2;cases h;refine⟨⟨xs,ys,a2Z' e1 S,a2Z' e2 S⟩,λS' i _=>?_⟩;show some (List.zipWith (λx y=>D.tup [x,y]) xs ys)[i]?=_;unfold b0C';rw[a2Z' e1 S',a2Z' e2 S',List.getElem?_zipWith]
  show some _=some (match xs[i]?,ys[i]? with
   |some x,some y=>some (D.tup [x,y])
   |_,_=>none)
  cases xs[i]? <;>cases ys[i]? <;>rfl
 ·split at h
  ·rename_i xs ys e1 e2;cases h;exact⟨⟨xs,ys,e1,e2⟩,λS' i _=>rfl⟩
  ·cases h
theorem b2K'{mg:GS}{e:D}{u:V}{its:Its}(sk:SOk K mg μ S H)(rd:Rep K mg μ H d v)(re:Rep K mg μ H e u)(h:zipOf S d e=some its):
  ∃a b,v=.ref a∧u=.ref b∧(∃vs,SqB (isLst d) K H a vs)∧(∃vs,SqB (isLst e) K H b vs)∧ItOk K mg (Itz K (isLst d) (isLst e) a b) (getOf its) μ H:=by
 obtain⟨⟨xs,ys,e1,e2⟩,hg⟩:=b0H' h;obtain⟨a,rfl,ka⟩:=a9k' sk rd e1;obtain⟨b,rfl,kb⟩:=a9k' sk re e2;obtain⟨_,va,_,qa,_⟩:=ka μ S H mg.F .refl sk;obtain⟨_,vb,_,qb,_⟩:=kb μ S H mg.F .refl sk;refine⟨a,b,rfl,rfl,⟨va,qa⟩,⟨vb,qb⟩,λi μ' S' H' F' ch sk'=>?_⟩;obtain⟨xs',vs,f1,q1,r1⟩:=ka μ' S' H' F' ch sk';obtain⟨ys',ws,f2,q2,r2⟩:=kb μ' S' H' F' ch sk';rw[hg S' i ⟨xs',ys',f1,f2⟩];unfold b0C';rw[f1,f2];have l1:=r1.length;have l2:=r2.length;refine⟨λy hy=>?_,λhy=>⟨vs,ws,q1,q2,?_⟩⟩
 ·have hy:=ZL hy;cases g1:xs'[i]? with
  |none=>rw[g1]at hy;cases hy
  |some p=>
   cases g2:ys'[i]? with
   |none=>rw[g1,g2]at hy;cases hy
   |some q=>rw[g1,g2]at hy;cases hy;obtain⟨v1,k1,rp⟩:=r1.get g1;obtain⟨v2,k2,rq⟩:=r2.get g2;refine⟨⟨vs,ws,v1,v2,q1,q2,k1,k2⟩,λz H'' hz=>?_⟩;obtain⟨T,x',y',rfl,hT,rfl,z1,z2⟩:=hz;have e3:=z1 vs q1;rw[k1]at e3;cases e3;have e4:=z2 ws q2;rw[k2]at e4;cases e4;refine⟨.laid hT,sk'.laid hT,?_⟩;unfold Rep;exact⟨T,[v1,v2],rfl,SqT.of a0L',.cons (Rep.mono (.laid hT) _ _ rp) (.cons (Rep.mono (.laid hT) _ _ rq) .nil)⟩
 ·have hy:=ZL hy;cases g1:xs'[i]? with
  |none=>exact .inl (by have:=List.getElem?_eq_none_iff.mp g1;omega)
  |some p=>
   cases g2:ys'[i]? with
   |none=>exact .inr (by have:=List.getElem?_eq_none_iff.mp g2;omega)
   |some q=>rw[g1,g2]at hy;cases hy
theorem ne5{i j:Nat}(h:i≠j):n+i≠n+j:=λe=>h (Nat.add_left_cancel e)
theorem ne5'{j:Nat}(h:0≠j):n≠n+j:=λe=>h (Nat.add_left_cancel (n:=n) (by rw[Nat.add_zero];exact e))
theorem ne5''{j:Nat}(h:0≠j):n+j≠n:=λe=>ne5' h e.symm
theorem b2L':bootBuiltins "zip"=some (.type "zip"):=by decide+kernel
theorem i_zip(O:XOk X cell N sc CX E Φ Γ k)(h:gloB sc "zip"=true)(ht:isTup tg=true)(hn:a0M' l=true)(hn2:a0M' r=true)(ha:PA X [l,r] (tL X.K X.mg E Φ Γ cs)):PI X tg (.Call (.Name "zip" p2) [l,r] [] pos) (tI X.K X.mg E Φ Γ (.zip cs)):=by
 obtain⟨h1,_,_⟩:=a0H' h;intro pq s σ H R I ⟨F,μ,ρ,S,sk,en,w⟩;refine Call_ (a5i' I (O.gl h1) (O.mod.bl _ (by decide+kernel)) b2L' (PyProof.Rows.callWith_type1 (thn (ha pos pq s σ H _ I ⟨F,μ,ρ,S,sk,en,WantG.bind w⟩) λus s1 ⟨vs,H1,I1,rv,μ1,S1,ds,x1,s1k,r1,w1⟩=>?_) (a0y' hn) (by rw[a0y' hn2];rfl)));split at w1
 ·rename_i d e;obtain⟨v,u,rfl,rd,re⟩:=r1.two;cases ez:zipOf S1 d e with
  |none=>rw[ez]at w1;exact w1.elim
  |some its=>
   rw[ez]at w1;obtain⟨a,b,rfl,rfl,⟨va,qa⟩,⟨vb,qb⟩,ok⟩:=b2K' s1k rd re ez;cases rv with
   |cons p q=>
    cases q with
    |cons p' q'=>
     cases q';cases p;cases p';obtain⟨as,ra,sa⟩:=a8e' I1 qa;obtain⟨bs,rb,sb⟩:=a8e' I1 qb;refine b2D' sa sb λh' z1 z2 z3 z4 z5 z6 kk=>?_;refine wpAny_pyIter_zip z1 ?_;have I2:Inv X pq σ H1 {s1 with heap:=h'}:=I1.kept (t':=s1.toks) kk;cases tg with
     |Tuple ts x1 tp=>
      refine⟨s1.heap.objs.size+4,[s1.heap.objs.size+4,s1.heap.objs.size+2,s1.heap.objs.size+3,s1.heap.objs.size,s1.heap.objs.size+1],_,_,H1,rfl,I2,
       b2E' (isLst d) (isLst e) (s1.heap.objs.size+4) (s1.heap.objs.size+2) (s1.heap.objs.size+3) s1.heap.objs.size (s1.heap.objs.size+1) a b (ne5 (by decide)) (ne5 (by decide)) (ne5' (by decide)) (ne5 (by decide)) (ne5 (by decide)) (ne5'' (by decide)) (ne5 (by decide)) (ne5'' (by decide)) (ne5 (by decide)) (ne5' (by decide)),⟨z1,z2,⟨_,_,z3⟩,z4,z5⟩,λc hc=>?_,w1 μ1 H1 _ .refl s1k ok⟩
      have hc':s1.heap.objs.size≤c:=by
       simp only[Zm,ZO,or_false]at hc;rcases hc with rfl|rfl|rfl|rfl|rfl
       ·exact Nat.le_add_right _ _
       ·exact Nat.le_add_right _ _
       ·exact Nat.le_add_right _ _
       ·exact Zi _
       ·exact Nat.le_add_right _ _
      exact I1.fpOk hc' (I1.hok.fresh hc')
     |_=>cases ht
 ·exact w1.elim
end
noncomputable def a5X'(ifs:Lx)(env:Env):Sem Bool:=forIn ifs true (λc r=>if r=true then do let ok ←isTrue c env (eval c env);pure (ForInStep.yield ok)else pure (ForInStep.yield r))
noncomputable def cRest(elt:Expr)(gens:List Comprehension)(scope:Scope)(pos:Pos)(d:Nat)(acc:Value)(env:Env):Sem Unit:=match gens[d+1]? with
 |some g'=>do
   let x ←eval g'.iter env
   standAt g'.iter.pos
   let x ←if g'.is_async !=0 then foldedIterable g'.iter x else foldedSetIterable g'.iter env x
   let _ ←runOwn (.compStart (.ListComp elt gens scope pos) (d+1) (←holding [x] (if g'.is_async !=0 then asyncIter x else pyIter x)) acc env) env
 |none=>do let _ ←call (.builtin "list.append") [acc,←eval elt env]
theorem a3l'{pos:Pos}{d:Nat}{it acc:Value}{t i:Expr}{fs:Lx}(h:gens[d]?=some ⟨t,i,fs,0⟩):
  compTurn (.ListComp elt gens scope pos) d it acc env=(standAt i.pos>>=λ_=>pyNext it>>=λr=>match r with
   |none=>pure (.done .next)
   |some v=>letOwnedTupleGo t it v>>=λ_=>assign t env v>>=λ_=>(a5X' fs env>>=λok=>if ok=true then cRest elt gens scope pos d acc env else pure ())>>=λ_=>
    again (.compLoop (.ListComp elt gens scope pos) d it acc env)):=by
 unfold compTurn;simp only[h];show(standAt i.pos>>=λ_=>pyNext it>>=_)=_;congr 1;funext _;congr 1;funext r;cases r with
 |none=>rfl
 |some v=>
  show(letOwnedTupleGo t it v>>=λ_=>assign t env v>>=λ_=>_>>=λok=>_)=_;congr 1;funext _;congr 1;funext _
  conv=>rhs;rw[bind_assoc]
  unfold a5X';refine congrArg (λk=>_>>=k) (funext λok=>?_);cases ok with
  |true=>
   simp only[if_true];unfold cRest;cases gens[d+1]? with
   |none=>rfl
   |some g'=>
    by_cases hb:(g'.is_async !=0)=true
    ·simp only[if_pos hb,bind_assoc,pure_bind]
    ·simp only[if_neg hb,bind_assoc,pure_bind]
  |false=>simp only[Zo,ZR,pure_bind]
theorem a6P'{R:Result→Shared→Prop}{pos:Pos}{d:Nat}{it acc:Value}{t i:Expr}{fs:Lx}(hg:gens[d]?=some ⟨t,i,fs,0⟩)
  (h0:codeAny (model prog w) A (.compLoop (.ListComp elt gens scope pos) d it acc env) R s)
  (h:wpAny (model prog w) A (pyIter it) (λit' s'=>codeAny (model prog w) A (.compLoop (.ListComp elt gens scope pos) d it' acc env) R s') (notedBy (model prog w) A env λx s'=>R (.error x) s') s):
  codeAny (model prog w) A (.compStart (.ListComp elt gens scope pos) d it acc env) R s:=by
 refine codeAny_of_tree ?_;show wpAny _ _ ((compStart (.ListComp elt gens scope pos) d it acc env).onRaise (λx=>do noteFrame x env;standAt theWindowsPlace)) _ _ s;refine wpAny_notedAt ?_;unfold compStart;have e1:(clausesOf (.ListComp elt gens scope pos))[d]?=some ⟨t,i,fs,0⟩:=hg;rw[e1];show wpAny _ _ (ask>>=_) _ _ s;refine Za (wpAny_askSetting (wpAny_ite ?_));split
 ·first
   |exact Za (Zg (Zg (And.intro rfl h0)))
   |exact Zg (And.intro rfl h0)
 ·first
   |exact Za (wpAny_rule (Za (wpAny_standAt (Za (wpAny_mono h (λit' s' h'=>Zg (And.intro rfl h')) λ_ _ x=>x)))))
   | (refine Za (wpAny_rule ?_);show wpAny _ _ (standAt i.pos>>=_) _ _ s;exact Za (wpAny_standAt (Za (wpAny_mono h (λit' s' h'=>Zg (And.intro rfl h')) λ_ _ x=>x))))
section
variable {pos:Pos}{d:Nat}
theorem pb_when{fs:Lx}{ts:List TT}{tu:TU}(ht:PTs X fs ts)(hb:PB X (cRest elt gens scope pos d (.ref acc) X.env) tu):
  PB X (a5X' fs X.env>>=λok=>if ok=true then cRest elt gens scope pos d (.ref acc) X.env else pure ()) (tWhen ts tu):=by
 intro pq s σ H Q I h;refine Za (thn (a8Z' fs ts ht pq s σ H _ I h) λb s1 ⟨H1,I1,q1⟩=>?_);cases b with
 |false=>rw[if_neg (by decide)]at q1;rw[if_neg (by decide)];exact Zg ⟨σ,H1,I1,q1⟩
 |true=>rw[if_pos rfl]at q1;rw[if_pos rfl];exact hb pq s1 σ H1 Q I1 q1
theorem pb_last(hg:gens[d+1]?=none)(he:PE X elt te):PB X (cRest elt gens scope pos d (.ref acc) X.env) (tEmit acc te):=by intro pq s σ H Q I h;unfold cRest;rw[hg];show wpAny _ _ (eval elt X.env>>=λx=>call (.builtin "list.append") [.ref acc,x]>>=λ_=>pure ()) _ _ s;refine Za (thn (he pq s σ H _ I h) λu s2 ⟨v,H2,I2,r2,ys,ha,hz,q2⟩=>?_);refine Za (thn (a7t' pq s2 σ H2 (.ref acc) [v] (.ref acc) [u] (λ_ H'=>Q σ H') I2 rfl (.cons r2 .nil) ⟨acc,ys,v,rfl,rfl,ha,hz,q2⟩) λ_ s3 ⟨_,H3,I3,_,q3⟩=>?_);exact Zg ⟨σ,H3,I3,q3⟩
theorem b2M'{t i:Expr}{fs:Lx}{tb:TU}(hx:X.xe=λ_ _=>False)(hc:X.calm=true)(hg:gens[d+1]?=some ⟨t,i,fs,0⟩)(hi:PI X t i wi)(hs:∀x,foldedSetIterable i X.env x=pure x)(hgt:PG X t g)
  (hb:PB X (a5X' fs X.env>>=λok=>if ok=true then cRest elt gens scope pos (d+1) (.ref acc) X.env else pure ()) tb):PB X (cRest elt gens scope pos d (.ref acc) X.env) (tInner wi g tb):=by
 intro pq s σ H Q I h;unfold cRest;rw[hg];show wpAny _ _ (eval i X.env>>=λx=>standAt i.pos>>=λ_=>foldedSetIterable i X.env x>>=λx=>holding [x] (pyIter x)>>=λit=>runOwn (.compStart (.ListComp elt gens scope pos) (d+1) it (.ref acc) X.env) X.env>>=λ_=>pure ()) _ _ s;refine Za (thn (hi pq s σ H _ I h) λv s1 h1=>Za (wpAny_standAt (Za ?_)));rw[hs];refine Zg (Za (wpAny_holding (thn h1 λitv s2 h2=>Za ?_)));obtain⟨it,fp,tn,J,H2,e,I2,T,st2,f2,W⟩:=h2;subst e
 have loop:codeAny (model X.prog X.w) X.A (.compLoop (.ListComp elt gens scope pos) (d+1) (.ref it) (.ref acc) X.env) (λr s'=>match r with
   | .ok f=>∃σ' H',Inv X pq σ' H' s'∧Q σ' H'
   | .error e=>cameBackBy (model X.prog X.w) X.A X.env X.xe e s') s2:=
  a7w' (Fin:=Q) hx hc (a3l' hg) T hgt hb I2 st2 f2 W λs' σ' H' I' _ q=>⟨σ',H',I',q⟩
 refine wpAny_runOwn (h:=none) ?_
 refine codeAny_mono (R:=λr s'=>match r with
   | .ok f=>∃σ' H',Inv X pq σ' H' s'∧Q σ' H'
   | .error e=>cameBackBy (model X.prog X.w) X.A X.env X.xe e s') (a6P' hg loop (T.self _ 0 _ _ _ st2 loop)) λr s' q=>?_
 cases r with
 |ok f=>exact Zg q
 |error e=>exact q
end
noncomputable def gVs:List CT→TGs
 | []=>gNil
 |t::ts=>match t with
  | .var i=>gCons (gName i) (gVs ts)
  | .tup _=>λ_ _ _ _=>False
def gCT(K:Fg):CT→TG
 | .var i=>gName i
 | .tup ts=>gTup K ts.length (gVs ts)
section
variable {E:XK}
theorem nm_ok(O:XOk X cell N sc CX E Φ Γ k){i:Nat}{p:Pos}(h:sdT cell N sc (.var i)=true):PG X (.Name (N.getD i "") p) (gName i):=by
 have h1:=(andB h).1;have h2:=(andB h).2;generalize N.getD i ""=x at h1 h2;simp only[ZB,Bool.or_eq_true,beq_iff_eq]at h1 h2
 have hl:L2.Loc X.env.scope x:=by
  unfold L2.Loc;rw[O.sc];rcases h2 with z|z
  ·exact .inl z
  ·exact .inr z.2
 refine pg_name (by rw[O.n];exact O.nd) (by rw[O.n];exact h1) hl ?_;rcases h2 with z|z
 ·exact .inr (by rw[O.sc];exact z)
 ·exact .inl (O.fn x z.1)
theorem a5q'{env:Env}:∀{ts:List CT} {es:Lx},((assignEach (emTL ts N es) env).length=ts.length∧(assignEach (emTL ts N es) env).findIdx? (·.1)=none)
 | [],_=>⟨rfl,rfl⟩
 |t::ts,es=>by
  have ih:=a5q' (env:=env) (ts:=ts) (es:=es.tail);have e:assignEach (emTL (t::ts) N es) env=(false,assign (emT t N (es.headD dE)) env)::assignEach (emTL ts N es.tail) env:=by cases t<;>rfl
  rw[e];exact⟨by rw[Zz,ih.1,Zz],by rw[List.findIdx?_cons,ih.2];rfl⟩
theorem gs_pg(O:XOk X cell N sc CX E Φ Γ k):∀{ts:List CT} {es:Lx},sdTL cell N sc ts=true→PGs X (emTL ts N es) (gVs ts)
 | [],es,h=>pgs_nil
 |t::ts,es,h=>by
  cases t with
  |tup _=>exact λ_ _ _ _ _ _ _ _ _ z=>z.elim
  |var i=>exact b2b' (nm_ok O (andB h).1) (gs_pg O (andB h).2)
theorem g_pg(O:XOk X cell N sc CX E Φ Γ k){t:CT}(h:sdT cell N sc t=true):PG X (emT t N e) (gCT X.K t):=by
 cases t with
 |var i=>exact nm_ok O h
 |tup ts=>exact pg_tup O.calm (gs_pg O h) a5q'.1 a5q'.2
theorem gs_do{F μ:La}{H:Hp}{K:Fg}{mg:Mg}{ρ':Rho}{Q:L2.St→Hp→Prop}:∀{ts:List CT} {ds:List D} {vs:List V} {ρ:Rho} {σ:L2.St},asgVs ts ds ρ=some ρ'→RepL K ⟨mg,F⟩ μ H ds vs→EnvR K ⟨mg,F⟩ μ H ρ σ→(∀σ',EnvR K ⟨mg,F⟩ μ H ρ' σ'→Q σ' H)→gVs ts vs σ H Q
 | [],ds,vs,ρ,σ,h,r,en,q=>by
  cases ds with
  |nil=>cases h;unfold RepL at r;exact⟨r,q σ en⟩
  |cons _ _=>cases h
 |t::ts,ds,vs,ρ,σ,h,r,en,q=>by
  cases t with
  |tup _=>cases h
  |var i=>
   cases ds with
   |nil=>cases h
   |cons d ds=>obtain⟨v,w,rfl,r1,rl⟩:=r.uncons;exact⟨v,w,rfl,gs_do (ts:=ts) h rl (en.set r1) q⟩
theorem a5r'{ρ':Rho}:∀{ts:List CT} {ds:List D} {ρ:Rho},asgVs ts ds ρ=some ρ'→ts.length=ds.length∧ρ'.length=ρ.length
 | [],ds,ρ,h=>by
  cases ds with
  |nil=>cases h;exact⟨rfl,rfl⟩
  |cons _ _=>cases h
 |t::ts,ds,ρ,h=>by
  cases t with
  |tup _=>cases h
  |var i=>
   cases ds with
   |nil=>cases h
   |cons d ds=>have:=a5r' (ts:=ts) h;exact⟨congrArg Nat.succ this.1,by rw[this.2,List.length_set]⟩
theorem a7D'{ρ':Rho}{j:Nat}:∀{ts:List CT} {ds:List D} {ρ:Rho},asgVs ts ds ρ=some ρ'→(∀i∈a1h' ts,i≠j)→ρ'[j]?=ρ[j]?
 | [],ds,ρ,h,hj=>by
  cases ds with
  |nil=>cases h;rfl
  |cons _ _=>cases h
 |t::ts,ds,ρ,h,hj=>by
  cases t with
  |tup _=>cases h
  |var i=>
   cases ds with
   |nil=>cases h
   |cons d ds=>rw[a7D' (ts:=ts) h λk hk=>hj k (Zb _ hk),List.getElem?_set_ne (hj i Zd)]
theorem g_do{Q:L2.St→Hp→Prop}{t:CT}(h:asgCT t d ρ=some ρ')(r:Rep K ⟨mg,F⟩ μ H d v)(en:EnvR K ⟨mg,F⟩ μ H ρ σ)
  (q:∀σ',EnvR K ⟨mg,F⟩ μ H ρ' σ'→Q σ' H):gCT K t v σ H Q:=by
 cases t with
 |var i=>cases h;exact q _ (en.set r)
 |tup ts=>
  cases d with
  |tup ds=>obtain⟨a,vs,rfl,hq,rl⟩:=a0C' r;exact⟨a,vs,rfl,hq,by rw[←rl.length];exact(a5r' (ts:=ts) h).1.symm,gs_do (ts:=ts) h rl en q⟩
  |_=>cases h
end
theorem b0I'{l:List Nat}{i:Nat}(h:isNew ρ l=true)(hi:i∈l):ρ[i]?=some none:=by
 unfold isNew at h;have:=ZD.mp h i hi;split at this
 ·assumption
 ·cases this
theorem asg_get{t:CT}(h:asgCT t d ρ=some ρ'):ρ'.length=ρ.length∧∀j,(∀i∈slots t,i≠j)→ρ'[j]?=ρ[j]? :=by
 cases t with
 |var i=>cases h;exact⟨List.length_set,λj hj=>List.getElem?_set_ne (hj i Zd)⟩
 |tup ts=>
  cases d with
  |tup ds=>exact⟨(a5r' (ts:=ts) h).2,λj hj=>a7D' (ts:=ts) h hj⟩
  |_=>cases h
theorem b2N'{mg:GS}{t:CT}(h:a0q' t d ρ=some ρ')(en:EnvR K mg μ H ρ' σ):EnvR K mg μ H ρ σ:=by
 unfold a0q' at h;by_cases hn:isNew ρ (slots t)=true
 ·rw[if_pos hn]at h;have g:=asg_get h;refine⟨by rw[←en.1,g.1],λj d' e=>en.2 j d' ?_⟩;rw[g.2 j λi hi z=>by subst z;rw[b0I' hn hi]at e;cases e];exact e
 ·rw[if_neg hn]at h;cases h
theorem a9l'{t:CT}(h:a0q' t d ρ=some ρ'):asgCT t d ρ=some ρ':=by
 unfold a0q' at h;split at h
 ·exact h
 ·cases h
structure CSt (K:Fg)(mg:Mg)(F:La)(acc:Addr)(B:La→Hp→Prop)(μ0:La)(H0:Hp)(μ:La)(S:Store)(H:Hp)(ρ:Rho)(σ:L2.St)(ds:List D)(vs:List V):Prop where
 n0:H0 acc=none
 ext:Ext μ0 H0 μ H
 sok:SOk K ⟨mg,acc::F⟩ μ S H
 nin:acc∉μ
 env:EnvR K ⟨mg,acc::F⟩ μ H ρ σ
 at_:H acc=some (.lst vs)
 rep:RepL K ⟨mg,acc::F⟩ μ H ds vs
 b:B μ H
def Keep(K:Fg)(F:La)(B:La→Hp→Prop):Prop:=∀μ H μ1 H1,B μ H→Chg K F μ H F μ1 H1→B μ1 H1
def WantB(K:Fg)(mg:Mg)(F:La)(acc:Addr)(B:La→Hp→Prop)(μ0:La)(H0:Hp)(ρ:Rho)(Q:L2.St→Hp→Prop):Res (List D)→Prop
 | .ok ds' S'=>∀μ' H' σ' vs',CSt K mg F acc B μ0 H0 μ' S' H' ρ σ' ds' vs'→Q σ' H'
 |_=>False
noncomputable def tB(K:Fg)(mg:Mg)(Φ:FT)(Γ:Str→Option D)(c:CE)(acc:Addr):TU:=λσ H Q=>∃F B μ0 H0 μ ρ S ds vs,Keep K (acc::F) B∧CSt K mg F acc B μ0 H0 μ S H ρ σ ds vs∧WantB K mg F acc B μ0 H0 ρ Q (denB Φ Γ c ρ ds S)
noncomputable def stepC(Φ:FT)(Γ:Str→Option D)(ifs:List CE)(body:CE)(ρ:Rho)(ds:List D)(S:Store):Res (List D):=(denTs Φ Γ ifs ρ S).bind λk S3=>if k=true then denB Φ Γ body ρ ds S3 else .ok ds S3
noncomputable def tC(K:Fg)(mg:Mg)(Φ:FT)(Γ:Str→Option D)(ifs:List CE)(c:CE)(acc:Addr):TU:=λσ H Q=>∃F B μ0 H0 μ ρ S ds vs,Keep K (acc::F) B∧CSt K mg F acc B μ0 H0 μ S H ρ σ ds vs∧WantB K mg F acc B μ0 H0 ρ Q (stepC Φ Γ ifs c ρ ds S)
section
variable {vs:List V}
theorem CSt.next(hB:Keep K (acc::F) B)(c:CSt K mg F acc B μ0 H0 μ S H ρ σ ds vs)(x:Ext μ H μ1 H1)(s:SOk K ⟨mg,acc::F⟩ μ1 S1 H1):CSt K mg F acc B μ0 H0 μ1 S1 H1 ρ σ ds vs where
 n0:=c.n0
 ext:=c.ext.trans x
 sok:=s
 nin:=λz=>by
  rcases x.fresh acc z with z|z
  ·exact c.nin z
  ·rw[c.at_]at z;cases z
 env:=c.env.mono x
 at_:=x.keep acc _ c.at_ (.inr c.nin)
 rep:=RepL.mono x _ _ c.rep
 b:=hB μ H μ1 H1 c.b (.of_ext x λ_ z=>.inl z)
theorem CSt.put(hB:Keep K (acc::F) B)(c:CSt K mg F acc B μ0 H0 μ S H ρ σ ds vs)(r:Rep K ⟨mg,acc::F⟩ μ H d v):CSt K mg F acc B μ0 H0 μ S (upd H acc (.lst (vs++[v]))) ρ σ (ds++[d]) (vs++[v]):=by
 have ch:Chg K (acc::F) μ H (acc::F) μ (upd H acc (.lst (vs++[v]))):=.more Zd c.at_
 exact{
  n0:=c.n0
  ext:=c.ext.more c.n0
  sok:=c.sok.more Zd c.nin c.at_
  nin:=c.nin
  env:=c.env.chg ch
  at_:=a0L'
  rep:=RepL.append (RepL.chg ch _ _ c.rep) (.cons (Rep.chg ch _ _ r) .nil)
  b:=hB _ _ _ _ c.b ch}
theorem b0J'{E:XK}:∀{cs:List CE} {σ:L2.St} {Q:Bool→Hp→Prop},SOk X.K ⟨X.mg,F⟩ μ S H→EnvR X.K ⟨X.mg,F⟩ μ H ρ σ→WantG X.K ⟨X.mg,F⟩ E (λ_ _ a b=>a=b) μ H Q (denTs Φ Γ cs ρ S)→b0z' (cs.map (tT X.K X.mg E Φ Γ)) σ H Q:=by
 intro cs
 induction cs generalizing μ H S with
 |nil=>exact λsk en w=>w μ H true .refl sk rfl
 |cons c cs ih=>
  intro σ Q sk en w;unfold denTs at w;refine⟨F,μ,ρ,S,sk,en,(WantG.bind w).mono λk H1 zz=>ex34 zz λμ1 S1 k' x1 s1 e1 w1=>?_⟩;subst e1;cases k' with
  |true=>rw[if_pos rfl]at w1⊢;exact ih s1 (en.mono x1) w1
  |false=>rw[if_neg (by decide)]at w1⊢;exact w1 μ1 H1 _ .refl s1 rfl
end
section
variable {E:XK}
theorem PB.weak{body:Sem Unit}{t t':TU}(h:PB X body t)(w:∀σ H Q,t' σ H Q→t σ H Q):PB X body t':=λpq s σ H Q I q=>h pq s σ H Q I (w σ H Q q)
theorem a8f'{vs:List V}{ifs:List CE}{c:CE}{Q:L2.St→Hp→Prop}
  (hB:Keep K (acc::F) B) (st:CSt K mg F acc B μ0 H0 μ S H ρ σ ds vs) (w:WantB K mg F acc B μ0 H0 ρ Q (stepC Φ Γ ifs c ρ ds S)):
  WantG K ⟨mg,acc::F⟩ E (λ_ _ a b=>a=b) μ H (λb H1=>if b=true then tB K mg Φ Γ c acc σ H1 Q else Q σ H1) (denTs Φ Γ ifs ρ S):=by
 unfold stepC at w;cases e:denTs Φ Γ ifs ρ S with
 |ok k S3=>
  rw[e]at w;intro μ1 H1 b x s eb;subst eb;have st1:=st.next hB x s;cases k with
  |true=>exact⟨F,B,μ0,H0,μ1,ρ,S3,ds,vs,hB,st1,w⟩
  |false=>exact w μ1 H1 σ vs st1
 |err y S3=>rw[e]at w;exact w.elim
 |fail=>rw[e]at w;exact w.elim
theorem b2O'{pos:Pos}{d:Nat}{fs:Lx}{ifs:List CE}{c:CE}(ht:PTs X fs (ifs.map (tT X.K X.mg E Φ Γ)))(hb:PB X (cRest elt gens scope pos d (.ref acc) X.env) (tB X.K X.mg Φ Γ c acc)):
  PB X (a5X' fs X.env>>=λok=>if ok=true then cRest elt gens scope pos d (.ref acc) X.env else pure ()) (tC X.K X.mg Φ Γ ifs c acc):=
 PB.weak (pb_when ht hb) λσ H Q zz=>ex93 zz λF B μ0 H0 μ ρ S ds vs hB st w=>b0J' st.sok st.env (a8f' hB st w)
theorem c_emit{pos:Pos}{d:Nat}{c:CE}(hg:gens[d+1]?=none)(he:PE X elt (tE X.K X.mg E Φ Γ c)):PB X (cRest elt gens scope pos d (.ref acc) X.env) (tB X.K X.mg Φ Γ (.emit c) acc):=
 PB.weak (pb_last hg he) λσ H Q zz=>ex93 zz λF B μ0 H0 μ ρ S ds vs hB st w=>by
  refine⟨acc::F,μ,ρ,S,st.sok,st.env,?_⟩;simp only[denB]at w;cases e:den Φ Γ c ρ S with
  |ok y S1=>
   rw[e]at w;intro μ1 H1 v x s r;have st1:=st.next hB x s;have w':WantB X.K X.mg F acc B μ0 H0 ρ Q (if ds.length<big then .ok (ds++[y]) S1 else .fail):=w;by_cases hl:ds.length<big
   ·rw[if_pos hl]at w';refine⟨vs,st1.at_,by rw[a6L',←st1.rep.length];exact hl,w' μ1 _ σ _ (st1.put hB r)⟩
   ·rw[if_neg hl]at w';exact w'.elim
  |err y S1=>rw[e]at w;exact w.elim
  |fail=>rw[e]at w;exact w.elim
end
noncomputable def a9m':Its→Nat
 | .items xs=>xs.length+1
 | .live f _=>f
theorem a4K'(step:D→List D→Store→Res (List D))(xs:List D):∀(n i:Nat) (acc:List D) (S:Store),i+n=xs.length→compB step (λ_ i=>some xs[i]?) (n+1) i acc S=compD step (xs.drop i) acc S
 |0,i,acc,S,h=>by rw[List.drop_eq_nil_of_le (by omega)];unfold compB;have:xs[i]?=none:=List.getElem?_eq_none_iff.mpr (by omega);rw[this];rfl
 |n+1,i,acc,S,h=>by
  have hi:i<xs.length:=by omega
  rw[List.drop_eq_getElem_cons hi];unfold compB;rw[Zh hi];show(step xs[i] acc S).bind _=(step xs[i] acc S).bind _;congr 1;funext acc' S';exact a4K' step xs n (i+1) acc' S' (by omega)
theorem a9n'(step:D→List D→Store→Res (List D))(its:Its)(acc:List D)(S:Store):compI step its acc S=compB step (getOf its) (a9m' its) 0 acc S:=by
 cases its with
 |items xs=>exact(a4K' step xs xs.length 0 acc S (by omega)).symm
 |live f get=>rfl
noncomputable def stepN(Φ:FT)(Γ:Str→Option D)(tg:CT)(ifs:List CE)(body:CE)(ρ:Rho):D→List D→Store→Res (List D):=λx acc S2=>match a0q' tg x ρ with
 |some ρ'=>stepC Φ Γ ifs body ρ' acc S2
 |none=>.fail
theorem CSt.back{B':La→Hp→Prop}{vs:List V}(c:CSt K mg F acc B μ0 H0 μ S H ρ σ ds vs)(b:B' μ H)(e:EnvR K ⟨mg,acc::F⟩ μ H ρ' σ'):CSt K mg F acc B' μ0 H0 μ S H ρ' σ' ds vs:=
 ⟨c.n0,c.ext,c.sok,c.nin,e,c.at_,c.rep,b⟩
theorem a9o'{tg:CT}{ifs:List CE}{body:CE}{x:D}(h:a0q' tg x ρ=some ρ'):stepN Φ Γ tg ifs body ρ x ds S=stepC Φ Γ ifs body ρ' ds S:=by unfold stepN;rw[h]
theorem a9p'{tg:CT}{ifs:List CE}{body:CE}{x:D}(h:a0q' tg x ρ=none):stepN Φ Γ tg ifs body ρ x ds S=.fail:=by unfold stepN;rw[h]
theorem b1C'{Fi:La}{μi:La}{Hi:Hp}{get:Store→Nat→Option (Option D)}{tg:CT}{ifs:List CE}{body:CE}{Q:L2.St→Hp→Prop}(hB:Keep K (acc::F) B)(ok:ItOk K ⟨mg,Fi⟩ J get μi Hi)
        {vs:List V} (ch:Chg K Fi μi Hi (acc::F) μ H) (st:CSt K mg F acc B μ0 H0 μ S H ρ σ ds vs) (w:WantB K mg F acc B μ0 H0 ρ Q (compB (stepN Φ Γ tg ifs body ρ) get n 0 ds S)):
  ∃W:Nat→Nat→L2.St→Hp→Prop,(∃m,W 0 m σ H)∧∀i m σ H,W i m σ H→
   (J.stop i H∧Q σ H)∨(J.go i H∧∃Nx:L2.St→Hp→Prop,(∀σ' H',Nx σ' H'→∃m',m'<m∧W (i+1) m' σ' H')∧∀x H',J.yld i H x H'→gCT K tg x σ H' λσ2 H2=>tC K mg Φ Γ ifs body acc σ2 H2 Nx):=by
 refine⟨λi m σ H=>∃μ S ds vs,Chg K Fi μi Hi (acc::F) μ H∧CSt K mg F acc B μ0 H0 μ S H ρ σ ds vs∧WantB K mg F acc B μ0 H0 ρ Q (compB (stepN Φ Γ tg ifs body ρ) get m i ds S),⟨n,μ,S,ds,vs,ch,st,w⟩,?_⟩;rintro i m σ H ⟨μ,S,ds,vs,ch,st,w⟩;cases m with
 |zero=>exact w.elim
 |succ m=>
  unfold compB at w;obtain⟨k1,k2⟩:=ok i μ S H (acc::F) ch st.sok;cases e:get S i with
  |none=>rw[e]at w;exact w.elim
  |some o=>
   cases o with
   |none=>rw[e]at w;exact .inl ⟨k2 e,w μ H σ vs st⟩
   |some x=>
    rw[e]at w;obtain⟨go,yld⟩:=k1 x e;refine .inr ⟨go,λσ' H'=>∃μ S ds vs,Chg K Fi μi Hi (acc::F) μ H'∧CSt K mg F acc B μ0 H0 μ S H' ρ σ' ds vs∧WantB K mg F acc B μ0 H0 ρ Q (compB (stepN Φ Γ tg ifs body ρ) get m (i+1) ds S),λσ' H' q=>⟨m,Nat.lt_succ_self m,q⟩,λy H' hy=>?_⟩;obtain⟨x1,s1,r1⟩:=yld y H' hy;have st1:=st.next hB x1 s1;have ch1:Chg K Fi μi Hi (acc::F) μ H':=ch.trans (.of_ext x1 λ_ z=>.inl z);have w':WantB K mg F acc B μ0 H0 ρ Q ((stepN Φ Γ tg ifs body ρ x ds S).bind λacc' S'=>compB (stepN Φ Γ tg ifs body ρ) get m (i+1) acc' S'):=w;cases ea:a0q' tg x ρ with
    |none=>rw[a9p' ea]at w';exact w'.elim
    |some ρ'=>
     rw[a9o' ea]at w';refine g_do (a9l' ea) r1 st1.env λσ2 en2=>?_;refine⟨F,λμ H=>B μ H∧Chg K Fi μi Hi (acc::F) μ H,μ0,H0,μ,ρ',S,ds,vs,λμa Ha μb Hb q c=>⟨hB _ _ _ _ q.1 c,q.2.trans c⟩,st1.back (B':=λμ H=>B μ H∧Chg K Fi μi Hi (acc::F) μ H) ⟨st1.b,ch1⟩ en2,?_⟩;cases es:stepC Φ Γ ifs body ρ' ds S with
     |ok ds' S'=>rw[es]at w';intro μ' H2 σ' vs' st';exact⟨μ',S',ds',vs',st'.b.2,st'.back st'.b.1 (b2N' ea st'.env),w'⟩
     |err z S'=>rw[es]at w';exact w'.elim
     |fail=>rw[es]at w';exact w'.elim
section
variable {E:XK}
theorem c_inner{pos:Pos}{d:Nat}{t i:Expr}{fs:Lx}{tg:CT}{it:CE}{ifs:List CE}{body:CE}(hx:X.xe=λ_ _=>False)(hc:X.calm=true)(hg:gens[d+1]?=some ⟨t,i,fs,0⟩)
  (hi:PI X t i (tI X.K X.mg E Φ Γ it)) (hs:∀x,foldedSetIterable i X.env x=pure x) (hgt:PG X t (gCT X.K tg))
  (hb:PB X (a5X' fs X.env>>=λok=>if ok=true then cRest elt gens scope pos (d+1) (.ref acc) X.env else pure ()) (tC X.K X.mg Φ Γ ifs body acc)):PB X (cRest elt gens scope pos d (.ref acc) X.env) (tB X.K X.mg Φ Γ (.inner tg it ifs body) acc):=
 PB.weak (b2M' hx hc hg hi hs hgt hb) λσ H Q zz=>ex93 zz λF B μ0 H0 μ ρ S ds vs hB st w=>by
  refine⟨acc::F,μ,ρ,S,st.sok,st.env,?_⟩;simp only[denB]at w;cases e:denI Φ Γ it ρ S with
  |ok its S1=>rw[e]at w;intro μ1 H1 J x s ok;have st1:=st.next hB x s;have w':WantB X.K X.mg F acc B μ0 H0 ρ Q (compI (stepN Φ Γ tg ifs body ρ) its ds S1):=w;rw[a9n']at w';exact b1C' hB ok .refl st1 w'
  |err y S1=>rw[e]at w;exact w.elim
  |fail=>rw[e]at w;exact w.elim
noncomputable def csOf(fr:List (Option Nat)):L2.St→L2.St:=λσ=>fr.map λj=>j.bind λj=>(σ[j]?).join
theorem env_cs{mg:GS}(en:EnvR K mg μ H ρ σ):EnvR K mg μ H (fr.map λj=>j.bind λj=>(ρ[j]?).join) (csOf fr σ):=by
 refine⟨by simp[csOf],λi d e=>?_⟩;rw[ZP]at e;cases e1:fr[i]? with
 |none=>rw[e1]at e;cases e
 |some o=>
  rw[e1]at e;have e:=ZL e;cases o with
  |none=>cases e
  |some j=>
   have e2:(ρ[j]?).join=some d:=e;cases e3:ρ[j]? with
   |none=>rw[e3]at e2;cases e2
   |some o=>rw[e3]at e2;have e4:o=some d:=e2;subst e4;obtain⟨v,k1,k2⟩:=en.2 j d e3;exact⟨v,by unfold csOf;rw[ZP,e1];show some ((σ[j]?).join)=_;rw[k1];rfl,k2⟩
theorem c_comp{tg0:Expr}{box:Bool}{tg:CT}{it:CE}{ifs:List CE}{body:CE}{Q:VK}(h:tE X.K X.mg E Φ Γ (.comp box N' fr tg it ifs body) σ H Q):
  tComp (csOf fr) (tI X.K X.mg E Φ Γ it) (gCT X.K tg) (tC X.K X.mg Φ Γ ifs body) σ H Q:=by
 obtain⟨F,μ,ρ,S,sk,en,w⟩:=h;refine⟨F,μ,ρ,S,sk,en,?_⟩;simp only[den]at w;refine WantG.mono (Rel:=λμ' H' its J=>ItOk X.K ⟨X.mg,F⟩ J (getOf its) μ' H') (WantG.bind w) λJ H1 h acc hacc=>?_;obtain⟨μ1,S1,its,x1,s1,ok,w1⟩:=h
 have st:CSt X.K X.mg F acc (λμ H=>Chg X.K F μ1 H1 (acc::F) μ H) μ1 H1 μ1 S1 (upd H1 acc (.lst [])) (fr.map λj=>j.bind λj=>(ρ[j]?).join) (csOf fr σ) [] []:={
  n0:=hacc
  ext:=.laid hacc
  sok:=s1.start hacc
  nin:=s1.notin hacc
  env:=(env_cs (en.mono x1)).chg (.start hacc)
  at_:=a0L'
  rep:=.nil
  b:=.start hacc}
 refine b1C' (Q:=λ_ H=>Q (.ref acc) H) (B:=λμ H=>Chg X.K F μ1 H1 (acc::F) μ H) (n:=a9m' its) (λμa Ha μb Hb q c=>q.trans c) ok (.start hacc) st ?_;have w2:WantG X.K ⟨X.mg,F⟩ E (Rep X.K ⟨X.mg,F⟩) μ1 H1 Q ((compI (stepN Φ Γ tg ifs body (fr.map λj=>j.bind λj=>(ρ[j]?).join)) its [] S1).noErr.bind λys S5=>if box=true then .ok (.ref S5.length) (S5++[ys])else .ok (.lst ys) S5):=w1;rw[a9n']at w2;cases e:compB (stepN Φ Γ tg ifs body (fr.map λj=>j.bind λj=>(ρ[j]?).join)) (getOf its) (a9m' its) 0 [] S1 with
 |ok ys S5=>
  rw[e]at w2;intro μ' H' σ' vs' st';have hF:acc∉F:=s1.notF hacc;cases box with
  |false=>refine w2 μ' H' (.ref acc) st'.ext st'.sok.out ?_;unfold Rep;exact⟨acc,vs',rfl,st'.at_,⟨st'.nin,hF⟩,RepL.chg .out _ _ st'.rep⟩
  |true=>refine w2 (μ'++[acc]) H' (.ref acc) (st'.ext.outBox hacc) (st'.sok.outBox st'.nin st'.at_ st'.rep) ?_;unfold Rep;refine⟨acc,rfl,?_⟩;have hl:=st'.sok.len;rw[Zp (by omega)];simp[hl]
 |err y S5=>rw[e]at w2;exact w2.elim
 |fail=>rw[e]at w2;exact w2.elim
end
theorem a5Y'{Q:Lv→Shared→Prop}{r:Addr}{a b:Int}{t u v:Tok}(hh:A.handled=none)(hr:IsRange s.heap r a b c t u v)(hsmall:Builtin.Range.small a b c=true)(hn:Builtin.Range.rangeSize a b c=n)(hlen:n≤2^24)
  (hQ:∀h' tk acc,(∀b o,s.heap.get? b=some o→h'.get? b=some o)→ItemsOf (λi v=>∃t,v=.int (a+i*c) t) acc n→Q acc.toList {s with heap:=h',toks:=tk}):wpAny (model prog w) A (collect (.ref r)) Q E s:=by
 unfold collect;refine Za (wpAny_runValue (codeAny_builtin F.entry_proto_collect ?_));rw[Around.under_plainId F.plain_proto_collect _];show wpAny _ A.in1 (newList []>>=λl=>again (.builtin "list.__iadd__" ⟨[l,.ref r],[]⟩)) _ _ s;refine Za (ZY ?_);refine Zg ⟨plainId_quiet F.plain_list_iadd _,codeAny_builtin F.entry_list_iadd ?_⟩;rw[Around.under_plainId F.plain_list_iadd _];have hS:(s.heap.push {cls:=.type "list",data:=.seq ([]:Lv).toArray}).get? s.heap.objs.size=some {cls:=.type "list",data:=.seq ([]:Lv).toArray}:=Zk _ rfl;show wpAny _ A.in1 (Builtin.List.listExtendWith (.ref s.heap.objs.size) (.ref r) (.ref s.heap.objs.size)) _ _ _
 refine wpAny_extend_range (R:=λr s'=>match r with
   | .ok (.ret v)=>wpAny (model prog w) A (match v with
     | .ref a=>do
      match(←load a).data with
      | .seq xs _=>pure xs.toList
      |_=>unsupported "internal:collect"
     |_=>unsupported "internal:collect") Q E s'
   | .ok _=>False
   | .error e=>E e s') (s:={s with heap:=s.heap.push {cls:=.type "list",data:=.seq ([]:Lv).toArray}}) hh (Zc _ hr) hsmall hn hlen s.heap.objs.size (.ref s.heap.objs.size) _ hS λh' tk acc' c' hk hS' hacc=>?_
 show wpAny _ A (load s.heap.objs.size>>=_) _ _ _;refine Za (wpAny_load hS' ?_);exact Zg (hQ h' tk acc' (λb o e=>hk b o (ZA (Zj e)) (Zc _ e)) hacc)
theorem a3X'{r:Addr}{a b:Int}{t u v:Tok}(hh:A.handled=none)(hr:IsRange s.heap r a b c t u v)(hsmall:Builtin.Range.small a b c=true)(hn:Builtin.Range.rangeSize a b c=n)(hlen:n≤2^24)
  (hQ:∀(h':Heap) tk acc,(∀b o,s.heap.get? b=some o→h'.get? b=some o)→ItemsOf (λi v=>∃t,v=.int (a+i*c) t) acc n→Q (.ref h'.objs.size) {s with heap:=h'.push {cls:=.type "tuple",data:=.seq acc},toks:=tk}):
  wpAny (model prog w) A (call (.type "tuple") [.ref r]) Q E s:=by
 have hsz:n≤sizeLine:=by rw[sizeLine_eq];omega
 have code:codeAny (model prog w) A.in1 (.call (.builtin "tuple.__new__") ⟨[.type "tuple",.ref r],[]⟩) (wants (λobj s₁=>s₁.TypeIs obj "tuple"∧Q obj s₁) E) s:=by
  refine codeAny_of_tree ?_;show wpAny _ A.in1.in1 (do checkBuiltinCall "tuple.__new__" ⟨[.type "tuple",.ref r],[]⟩;again (.builtin "tuple.__new__" ⟨[.type "tuple",.ref r],[]⟩)) _ _ s;refine Za (wpAny_of_eq (F.newCall_tuple_1 _) (Zg ⟨plainId_quiet F.plain_tuple_new _,codeAny_builtin F.entry_tuple_new ?_⟩));rw[Around.under_plainId F.plain_tuple_new _];have hsub:=sub_tuple_self;have hinit:=init_tuple_lookup;have hmh:=madeHere_tuple;have hTI:s.TypeIs (.ref r) "range":=⟨_,hr,rfl⟩
  wp_walk using wpAny_typeOf hTI,a5Y' (show A.in1.in1.handled=none from hh) hr hsmall hn hlen
  intro h' tk acc hk hacc;show wpAny _ _ (Builtin.Tuple.tupleExact acc.toList.toArray>>=λv=>ret v) _ _ _;unfold Builtin.Tuple.tupleExact;refine Za (ZY ?_ (by show acc.toList.toArray.size≤sizeLine;simp only[Array.toArray_toList];rw[hacc.1];exact hsz));refine Zg ?_;have e:acc.toList.toArray=acc:=by simp
  rw[e];exact⟨⟨_,Zk _ rfl,rfl⟩,hQ h' tk acc hk hacc⟩
 refine callType_codes (Q₁:=λobj s₁=>s₁.TypeIs obj "tuple"∧Q obj s₁) F.called_tuple (F.typeCall_tuple_1 _) F.entry_object_init code λobj s₁ h₁=>?_;exact⟨h₁.1,F.args_object_init_2 obj _,object_init_meets F.called_tuple.init.lookup F.called_tuple.made (by decide) prog w A.in1 _ s₁ ⟨h₁.1,rfl,h₁.2⟩⟩
noncomputable def rngV(lo:Int):Nat→List V
 |0=>[]
 |n+1=>.int lo::rngV (lo+1) n
theorem a4L'(lo:Int)(n:Nat):(rngV lo n).length=n:=by
 induction n generalizing lo with
 |zero=>rfl
 |succ n ih=>unfold rngV;rw[Zz,ih]
theorem a9q'{acc:Av}(h:ItemsOf (λi v=>∃t,v=.int (lo+i*1) t) acc n):Vals (rngV lo n) acc.toList:=by
 have key:∀(n:Nat) (lo:Int) (us:Lv),us.length=n→(∀(j:Nat) v,us[j]?=some v→∃t,v=Value.int (lo+j) t)→Vals (rngV lo n) us:=by
  intro n
  induction n with
  |zero=>intro lo us h1 _;rw[Zr h1];exact .nil
  |succ n ih=>
   intro lo us h1 h2;cases us with
   |nil=>cases h1
   |cons u us=>
    unfold rngV;refine .cons ?_ (ih (lo+1) us (by simpa using h1) λj v hj=>?_)
    ·obtain⟨t,e⟩:=h2 0 u rfl;subst e;exact⟨t,by simp⟩
    ·obtain⟨t,e⟩:=h2 (j+1) v (by simpa using hj);exact⟨t,by rw[e];congr 1;push_cast;omega⟩
 refine key n lo acc.toList (by simpa using h.1) λj v hj=>?_;obtain⟨t,e⟩:=h.2 j v (by simpa using hj);exact⟨t,by rw[e];congr 1;omega⟩
def rRng(tup:Bool):List V→Hp→VK→Prop:=λvs H Q=>∃i j:Int,(vs=[.int j]∧i=0∨vs=[.int i,.int j])∧-(2^62)≤i∧i<2^62∧-(2^62)≤j∧j<2^62∧(j-i).toNat≤1000∧
 ∀p,H p=none→Q (.ref p) (upd H p (if tup then .tup (rngV i (j-i).toNat)else .lst (rngV i (j-i).toNat)))
theorem a7E'(hc:X.calm=true){Q:VK}{i j:Int}{t u v:Tok}{tk:Nat}(tup:Bool)(I:Inv X pq σ H s)(h1: -(2^62)≤i)(h2:i<2^62)(h3: -(2^62)≤j)(h4:j<2^62)(hn:(j-i).toNat≤1000)
  (q:∀p,H p=none→Q (.ref p) (upd H p (if tup then .tup (rngV i (j-i).toNat)else .lst (rngV i (j-i).toNat)))):
  wpAny (model X.prog X.w) X.A (call (.type (if tup then "tuple" else "list")) [.ref s.heap.objs.size]) (EP X pq σ Q) X.xe {s with heap:=s.heap.push {cls:=.type "range",data:=.fields #[.int i t,.int j u,.int 1 v]},toks:=tk}:=by
 have hsz:sizeLine=16777216:=sizeLine_eq;have hs:Builtin.Range.rangeSize i j 1=((j-i).toNat:Nat):=by rw[rangeSize_one];split<;>omega
 have I1:Inv X pq σ H {s with heap:=s.heap.push {cls:=.type "range",data:=.fields #[.int i t,.int j u,.int 1 v]},toks:=tk}:=I.kept λb o e=>Zc _ e;cases tup with
 |true=>
  refine a3X' (I.ok.hd hc) (IsRange.new ..) (small_one h1 h2 h3 h4) hs (by omega) λh' tk' acc hk hacc=>?_;have I2:=I1.kept (h':=h') (t':=tk') hk;refine⟨.ref h'.objs.size,_,I2.laid (t':=tk') (o:=.tup (rngV i (j-i).toNat)) (λb ob q=>Zc _ q) (Zi _) ?_,rfl,q _ (I2.hok.fresh (Zi _))⟩;refine⟨by rw[a4L'];omega,acc.toList,a9q' hacc,?_⟩;have e:acc.toList.toArray=acc:=by simp
  rw[e];exact⟨IsTup.new _ _,NoD.new _ _⟩
 |false=>
  refine call_list_range (I.ok.hd hc) (IsRange.new ..) (small_one h1 h2 h3 h4) hs (by omega) λh' tk' acc c' hk hS hacc=>?_;refine⟨.ref (s.heap.push {cls:=.type "range",data:=.fields #[.int i t,.int j u,.int 1 v]}).objs.size,_,I1.laid (t':=tk') (h':=h') (o:=.lst (rngV i (j-i).toNat)) hk (Zi _) ?_,rfl,q _ (I1.hok.fresh (Zi _))⟩;refine⟨by rw[a4L'];omega,acc.toList,c',a9q' hacc,?_⟩;have e:acc.toList.toArray=acc:=by simp
  rw[e];exact hS
theorem a5Z'{as:Lx}{ta:TA}{T:String}(tup:Bool)(hT:T=if tup then "tuple" else "list")(hc:X.calm=true)(hg1:Gl X (Str.ofString T))(hg2:Gl X "range")(hm1:X.mg (Str.ofString T)=none)(hm2:X.mg "range"=none)(hne:as≠[])
  (hst:∀x∈as,a0M' x=true) (ha:PA X as ta):PE X (.Call (.Name (Str.ofString T) p1) [.Call (.Name "range" p2) as [] p3] [] p4) (λσ H Q=>ta σ H λvs H1=>rRng tup vs H1 Q):=by
 have hv:bootBuiltins (Str.ofString T)=some (.type T):=by subst hT;cases tup<;>decide+kernel
 have hn:Str.ofString T≠"__name__":=by subst hT;cases tup<;>decide+kernel
 have hdb:(Str.ofString T==("__debug__":Str))=false:=by subst hT;cases tup<;>decide+kernel
 intro pq s σ H Q I h;refine wpAny_Call_Name_kw (a5i' I hg1 hm1 hv ?_ hn hdb);refine PyProof.Rows.callWith_type1 ?_ rfl rfl;show wpAny _ _ (spliced ((false,eval (.Call (.Name "range" p2) as [] p3) X.env)::backTo p4 (starEach [] X.env))) _ _ s;refine Calls.spliced_cons ?_;cases as with
 |nil=>exact absurd rfl hne
 |cons e es=>
  refine Call_ (a5i' I hg2 hm2 boot_range (PyProof.Rows.callWith_type1 (thn (ha p3 pq s σ H _ I h) λus s1 ⟨vs,H1,I1,r1,q1⟩=>?_) (a0y' (hst e Zd)) (a2Y' λx hx=>hst x (Zb _ hx))));obtain⟨i,j,hij,h1,h2,h3,h4,h5,q⟩:=q1;rcases hij with⟨rfl,rfl⟩|rfl
  ·cases r1 with
   |cons r rr=>cases rr;obtain⟨t,rfl⟩:=r;refine call_range_1 (Calls.spliced_nil ?_);subst hT;exact a7E' hc tup I1 h1 h2 h3 h4 h5 q
  ·cases r1 with
   |cons r rr=>
    cases rr with
    |cons r' rr=>cases rr;obtain⟨t,rfl⟩:=r;obtain⟨t',rfl⟩:=r';refine call_range_2 (Calls.spliced_nil ?_);subst hT;exact a7E' hc tup I1 h1 h2 h3 h4 h5 q
section
abbrev LO(its:Lv)(n:Nat):Obj:={cls:=.type "list",data:=.seq its.toArray n}
variable {R:Result→Shared→Prop}{I:Addr}{wr:La}{P:Nat→Value→Prop}{St:Nat→Heap→Prop}
noncomputable def a1Q'(val:Nat→Lv)(i:Nat):Nat→Lv
 |0=>[]
 |k+1=>val i++a1Q' val (i+1) k
theorem b0K'(W:Walks prog w A.in1 I fp wr n P St)(val:Nat→Lv)(S:Addr)(out:S∉fp)(hwr:∀b∈wr,b<S):
  ∀(k i:Nat) (s:Shared) (T:Addr) (tot:Lv) (cT c:Nat),n-i=k→i≤n→St i s.heap→s.heap.get? S=some (LO [.ref T] c)→s.heap.get? T=some (LO tot cT)→T∉wr→T≠S→
  (∀j v,P j v→∃b m,v=.ref b∧b∉wr∧b≠S∧s.heap.get? b=some (LO (val j) m))→tot.length+(a1Q' val i k).length≤sizeLine→
  (∀h' tk T' c',(∀b o,b∉wr→b≠S→s.heap.get? b=some o→h'.get? b=some o)→h'.get? T'=some (LO (tot++a1Q' val i k) c')→(k=0∧T'=T∨S<T')→R (.ok (.ret (.ref T'))) {s with heap:=h',toks:=tk})→
  codeAny (model prog w) A (.builtin "sum.loop" ⟨[.ref I,.ref S,rawInt 2,rawInt 0],[]⟩) R s:=by
 have nS:S∉wr:=λz=>out (W.sub S z)
 have enter:∀{s:Shared} {T:Addr} {c:Nat},s.heap.get? S=some (LO [.ref T] c)→wpAny (model prog w) A.in1 (Builtin.«sum.loop» ⟨[.ref I,.ref S,rawInt 2,rawInt 0],[]⟩) (λfin s'=>match fin with
   | .done f=>R (.ok f) s'
   | .again c'=>c'.quiet=true∧codeAny (model prog w) A c' R s') (λe s'=>R (.error e) s') s→codeAny (model prog w) A (.builtin "sum.loop" ⟨[.ref I,.ref S,rawInt 2,rawInt 0],[]⟩) R s:=λ{s T c} _ q=>
  codeAny_builtin F.entry_sum_loop (by rw[Around.under_plainId F.plain_sum_loop];exact q)
 intro k
 induction k with
 |zero=>
  intro i s T tot cT c e0 e1 ist gS gT nT dT gL room fin;obtain rfl:i=n:=by omega
  refine enter gS (Za (wpAny_seqItems gS rfl (Za (wpAny_tryCatch (W.done s _ _ ist λh' tk kp=>Zg (fin h' tk T cT (λb o nb _ e=>kp b o nb e) ?_ (.inl ⟨rfl,rfl⟩)))))));rw[show a1Q' val i 0=[]from rfl,List.append_nil];exact kp T _ nT gT
 |succ k ih=>
  intro i s T tot cT c e0 e1 ist gS gT nT dT gL room fin;have lt:i<n:=by omega
  refine enter gS (Za (wpAny_seqItems gS rfl (Za (wpAny_tryCatch (W.item i s _ _ lt ist λv h' tk pv ist' kp=>?_)))));obtain⟨b,mb,rfl,nb,db,gb⟩:=gL i v pv;have gS1:=kp S _ nS gS;have ec:a1Q' val i (k+1)=val i++a1Q' val (i+1) k:=rfl;rw[ec,Zt]at room;refine Za (m:=(holding [Value.ref b] (binaryOp .Add (.ref T) (.ref b))).attempt) (wpAny_attempt (wpAny_holding (PySem.P.add_list (s:={s with heap:=h',toks:=tk}) (kp T _ nT gT) (kp b _ nb gb) ?_ (by rw[Ze,Ze];omega))));have ltS:S<h'.objs.size:=Zj gS1;have gS2:(h'.push {cls:=.type "list",data:=.seq (tot.toArray++(val i).toArray)}).get? S=some (LO [.ref T] c):=Zc _ gS1;refine Za (m:=updateSeq S λ_=> #[.ref h'.objs.size]) (wpAny_updateSeq gS2 rfl ?_);have gS3:=Heap.get?_update_self (Obj.mapSeq λ_=> #[Value.ref h'.objs.size]) gS2 rfl
  have keep:∀b o,b∉wr→b≠S→s.heap.get? b=some o→(((h'.push {cls:=.type "list",data:=.seq (tot.toArray++(val i).toArray)}).update S (Obj.mapSeq λ_=> #[Value.ref h'.objs.size])).update S (Obj.mapSeq λ_=> #[Value.ref h'.objs.size])).get? b=some o:=λb o nb db e=>
   (ZW _ _ (Ne.symm db)).trans ((ZW _ _ (Ne.symm db)).trans (Zc _ (kp b o nb e)))
  refine Za (wpAny_letGo (Za (wpAny_updateSeq gS3 rfl (Zg ⟨plainId_quiet F.plain_sum_loop _,ih (i+1) _ h'.objs.size (tot++val i) 0 _ (by omega) lt (W.frame _ _ _ ist' λb fb o e=>?_) (Heap.get?_update_self _ gS3 rfl) ?_ ?_ (Nat.ne_of_gt ltS) (λj v pj=>?_) (by rw[Zt];omega) λh2 tk2 T2 c2 kp2 gT2 fresh=>?_⟩))))
  ·have d:S≠b:=λz=>out (z▸fb);exact(ZW _ _ d).trans ((ZW _ _ d).trans (Zc _ e))
  ·refine(ZW _ _ (ZA ltS)).trans ((ZW _ _ (ZA ltS)).trans ?_);rw[Zk _ rfl];simp
  ·exact λz=>ZN _ (Nat.lt_trans ltS (hwr _ z))
  ·obtain⟨b2,m2,rfl,q1,q2,q3⟩:=gL j v pj;exact⟨b2,m2,rfl,q1,q2,keep b2 _ q1 q2 q3⟩
  ·refine fin h2 tk2 T2 c2 (λb o nb db e=>kp2 b o nb db (keep b o nb db e)) (by rw[ec,←List.append_assoc];exact gT2) (.inr ?_);rcases fresh with⟨_,rfl⟩|z
   ·exact ltS
   ·exact z
theorem b0L'(a v:Value):argsOk "sum" ⟨[a],[("start",v)]⟩:=by unfold argsOk;kernel_rfl
theorem no_text:isSubtype (.type "list") (.type "str")=pure false∧isSubtype (.type "list") (.type "bytes")=pure false∧isSubtype (.type "list") (.type "bytearray")=pure false:=by refine⟨?_,?_,?_⟩<;>(rw[isSubtype_type];kernel_rfl)
theorem b0M'{x:Value}{l:Addr}{cl:Nat}{val:Nat→Lv}
  (h:wpAny (model prog w) A.in1 (pyIter x) (λit z=>∃I fp wr n P St,it=.ref I∧Walks prog w A.in1 I fp wr n P St∧St 0 z.heap∧(∀b∈fp,b<z.heap.objs.size)∧1≤n∧
   z.heap.get? l=some (LO [] cl)∧l∉wr∧(∀j v,P j v→∃b m,v=.ref b∧b∉wr∧z.heap.get? b=some (LO (val j) m))∧(a1Q' val 0 n).length≤sizeLine∧
   ∀h' tk T' c',(∀b o,b∉wr→z.heap.get? b=some o→h'.get? b=some o)→z.heap.objs.size<T'→h'.get? T'=some (LO (a1Q' val 0 n) c')→Q (.ref T') {z with heap:=h',toks:=tk}) E s):
  wpAny (model prog w) A (call (.builtin "sum") [x] [("start",.ref l)]) Q E s:=by
 let G:Fin→Shared→Prop:=λfin s'=>match fin with
  | .done f=>(match(Except.ok f:Result)with
   | .ok (.ret v)=>Q v s'
   | .ok _=>False
   | .error e=>E e s')
  | .again c'=>c'.quiet=true∧codeAny (model prog w) A c' (λr s'=>match r with
   | .ok (.ret v)=>Q v s'
   | .ok _=>False
   | .error e=>E e s') s'
 have run:wpAny (model prog w) A.in1 (Builtin.«sum» ⟨[x],[("start",.ref l)]⟩) G E s:=by
  unfold Builtin.«sum»;simp only[Zz,List.length_nil,show ¬(0+1+(0+1)>2)by decide,ZR];refine Za (wpAny_of_eq (show Builtin.Builtins.bindParams "sum" ["start"] 0 ⟨[],[("start",.ref l)]⟩=pure [some (.ref l)]from rfl) (Za (wpAny_mono h (λit z hz=>?_) λ_ _ q=>q)));obtain⟨I,fp,wr,n,P,St,rfl,W,ist,low,n1,gl,nl,gv,room,fin⟩:=hz;have ty:z.TypeIs (.ref l) "list":=⟨_,gl,rfl⟩;obtain⟨t1,t2,t3⟩:=no_text;refine Za (Zg ?_);simp only[List.forIn_cons,List.forIn_nil];refine Za (Za (Za (wpAny_isInstance (T:="list") (b:=false) ty t1 ?_)));refine Zg (Za (Za (wpAny_isInstance (T:="list") (b:=false) ty t2 ?_)));refine Zg (Za (Za (wpAny_isInstance (T:="list") (b:=false) ty t3 ?_)));have out:z.heap.objs.size∉fp:=λq=>ZN _ (low _ q)
  refine Zg (Zg (Za (ZY (Zg ⟨plainId_quiet F.plain_sum_loop _,b0K' W val z.heap.objs.size out (λb q=>low b (W.sub b q)) n 0 _ l [] cl 0 rfl (Nat.zero_le _)
   (W.frame _ _ _ ist λb _ o e=>Zc _ e) (Zk _ rfl) (Zc _ gl) nl (ZA (Zj gl))
   (λj v pj=>?_) (by simpa using room) λh' tk T' c' kp gT fresh=>?_⟩))))
  ·obtain⟨b,m,rfl,q1,q2⟩:=gv j v pj;exact⟨b,m,rfl,q1,ZA (Zj q2),Zc _ q2⟩
  ·refine fin h' tk T' c' (λb o nb e=>kp b o nb (ZA (Zj e)) (Zc _ e)) ?_ (by simpa using gT);rcases fresh with⟨q,_⟩|q
   ·omega
   ·exact q
 refine wpAny_call (codeAny_call_builtin F.plain_sum F.entry_sum ?_);simp only[checkBuiltinCall,F.kind_sum];cases sg:Manifest.signature? "sum" with
 |none=>exact Zg run
 |some sig=>have ok:=b0L' x (.ref l);simp only[argsOk,sg]at ok;refine Eq.mpr (congrArg (λm=>wpAny (model prog w) A.in1 m _ _ s) (show Bind.checkArgs "sum" sig ⟨[x],[("start",.ref l)]⟩=pure ()from ok)) (Zg run)
end
theorem b1D':∀(vals pre:List (Lv)),a1Q' (λj=>(pre++vals).getD j []) pre.length vals.length=vals.flatten
 | [],_=>rfl
 |v::vals,pre=>by have ih:=b1D' vals (pre++[v]);rw[List.append_assoc,Zt]at ih;show(pre++v::vals).getD pre.length []++a1Q' _ (pre.length+1) vals.length=_;rw[show a1Q' (λj=>(pre++v::vals).getD j []) (pre.length+1) vals.length=vals.flatten from ih];simp[List.getD]
def a8g'(H:Hp):List V→List (List V)→Prop
 | [],wss=>wss=[]
 |v::vs,wss=>∃b ws rest,v=.ref b∧H b=some (.lst ws)∧wss=ws::rest∧a8g' H vs rest
theorem a6a'{pq:Lp}{σ:L2.St}{H:Hp}{s:Shared}(I:Inv X pq σ H s):∀(vs:List V) (wss:List (List V)),a8g' H vs wss→∀its,Vals vs its→
  ∃vals:List (Lv),vals.length=its.length∧Vals wss.flatten vals.flatten∧∀j v,its[j]?=some v→∃b m,v=.ref b∧s.heap.get? b=some (LO (vals.getD j []) m)
 | [],wss,h,its,r=>by cases r.zero;cases h;exact⟨[],rfl,.nil,λj v e=>by simp at e⟩
 |v::vs,wss,h,its,r=>by
  obtain⟨b,ws,rest,rfl,hb,rfl,h2⟩:=h;obtain⟨u,its',rfl,ru,r2⟩:=r.un;cases ru;obtain⟨vals,e1,e2,e3⟩:=a6a' I vs rest h2 its' r2;obtain⟨z,ws',n,q1,q2,q3⟩:=I.lstM hb;refine⟨ws'::vals,by simp[e1],by rw[Z0,Z0];exact q1.append e2,λj v e=>?_⟩;cases j with
  |zero=>cases e;exact⟨b,n,rfl,q3⟩
  |succ j=>exact e3 j v e
def rSumL(x y:V)(H:Hp)(Q:VK):Prop:=∃a l vs wss,x=.ref a∧y=.ref l∧H a=some (.lst vs)∧H l=some (.lst [])∧1≤vs.length∧a8g' H vs wss∧wss.flatten.length≤sizeLine∧∀p,H p=none→Q (.ref p) (upd H p (.lst wss.flatten))
theorem b2P'(hc:X.calm=true){x y:V}{v:Value}{Q:VK}(I:Inv X pq σ H s)(rx:RelV x v)(ry:RelV y u)(h:rSumL x y H Q):
  wpAny (model X.prog X.w) X.A (call (.builtin "sum") [v] [("start",u)]) (EP X pq σ Q) X.xe s:=by
 obtain⟨a,l,vs,wss,rfl,rfl,ha,hl,h1,hL,hz,q⟩:=h;cases rx;cases ry;obtain⟨_,its,n,r,hlen,ea⟩:=I.lstM ha;obtain⟨_,itl,nl,rl,_,el⟩:=I.lstM hl;cases rl.zero;obtain⟨vals,e1,e2,e3⟩:=a6a' I vs wss hL its r;have hh:X.A.in1.handled=none:=I.ok.hd hc;have hlt:a<s.heap.objs.size:=Zj ea;have hne:a≠s.heap.objs.size:=ZA hlt
 have hc0:a1Q' (λj=>vals.getD j []) 0 its.toArray.size=vals.flatten:=by rw[Ze,←e1];exact b1D' vals []
 refine b0M' (cl:=nl) (val:=λj=>vals.getD j []) (wpAny_pyIter_list (show s.heap.IsList a its.toArray from⟨_,ea,rfl,_,rfl⟩) ?_);refine⟨_,_,_,_,_,_,rfl,Walks.list hh s.heap.objs.size a hne its.toArray,⟨⟨_,Zk _ rfl,rfl,rfl⟩,Heap.IsList.push ⟨_,ea,rfl,_,rfl⟩ _⟩,?_,?_,Zc _ el,?_,λj v hj=>?_,?_,λh' tk T' c' kp hT hT'=>?_⟩
 ·intro b hb;have hz2:∀o,(s.heap.push o).objs.size=s.heap.objs.size+1:=λo=>by simp[Heap.push]
  have hb':b=s.heap.objs.size∨b=a:=by simpa using hb
  refine Nat.lt_of_lt_of_eq ?_ (hz2 _).symm;rcases hb' with h|h
  ·rw[h];exact Nat.lt_succ_self _
  ·rw[h];exact Nat.lt_succ_of_lt hlt
 ·rw[Ze,←hlen];exact h1
 ·intro hm;have hm':l=s.heap.objs.size:=by simpa using hm
  exact absurd (Zj el) (by rw[hm'];exact ZN _)
 ·obtain⟨b,m,rfl,h2⟩:=e3 j v (by simpa using hj);refine⟨b,m,rfl,λhm=>?_,Zc _ h2⟩;have hm':b=s.heap.objs.size:=by simpa using hm
  exact absurd (Zj h2) (by rw[hm'];exact ZN _)
 ·rw[hc0,←e2.length];exact hz
 ·rw[hc0]at hT'
  have hT2:s.heap.objs.size≤T':=by
   have hz2:∀o,(s.heap.push o).objs.size=s.heap.objs.size+1:=λo=>by simp[Heap.push]
   have hT3:=hT;rw[hz2]at hT3;exact Nat.le_of_lt (Nat.lt_trans (Nat.lt_succ_self _) hT3)
  refine⟨.ref T',upd H T' (.lst wss.flatten),I.laid (t':=tk) (λb o ho=>kp b o ?_ (Zc _ ho)) hT2 ⟨hz,vals.flatten,c',e2,hT'⟩,rfl,q T' (I.hok.fresh hT2)⟩;intro z;have z':b=s.heap.objs.size:=by simpa using z
  exact absurd (Zj ho) (by rw[z'];exact ZN _)
theorem b0N':bootBuiltins "sum"=some (.builtin "sum"):=by decide+kernel
theorem a3I'{pos:Pos}{id:String}{first:Lv}{args:List (Bool×Sem Value)}{kws:List (Option Str×Sem Value)}(hplain:(args.any (·.1)||kws.any (·.1.isNone))=false)
  (h:wpAny M A (evalArgs (.builtin id) true args kws) (λa s₁=>wpAny M A (call (.builtin id) (first++a.pos) a.kw) Q E s₁) E s):
  wpAny M A (callWith pos (.builtin id) first args kws) Q E s:=by
 unfold callWith;refine Za (wpAny_holding (thn h λa z q=>Za (wpAny_standAt ?_)));simp only[hplain];exact Za (Zg (Za (thn q λr z' q'=>Za (wpAny_holding (wpAny_point (Zg q'))))))
theorem pe_sumL{z:Expr}(hc:X.calm=true)(hg:Gl X "sum")(hm:X.mg "sum"=none)(hn:a0M' z=true)(ha:PE X z ta):
  PE X (.Call (.Name "sum" p1) [z] [⟨some "start",.List [] p2,p3⟩] p4) (λσ H Q=>ta σ H λx H1=>∀l,H1 l=none→rSumL x (.ref l) (upd H1 l (.lst [])) Q):=by
 intro pq s σ H Q I h;refine wpAny_Call_Name_kw (a5i' I hg hm b0N' ?_ (by decide) (by decide));have hs:=a0y' (env:=X.env) (es:=[]) hn;refine a3I' ?_ (PyProof.Rows.evalArgs_kw2 (kws:=[⟨some "start",.List [] p2,p3⟩]) rfl ?_ hs)
 ·rw[hs];rfl
 have hA:PA X [z] (tCons ta tNil):=b1s' ha b2g' hs;have hK:PK X [⟨some "start",.List [] p2,p3⟩] (tCons (tLst tNil) tNil):=pk_cons (pe_lst b2g') pk_nil
 refine thn (hA p4 pq s σ H (λvs H1=>match vs with
  | [x]=>∀l,H1 l=none→rSumL x (.ref l) (upd H1 l (.lst [])) Q
  |_=>False) I h) λus s1 ⟨vs,H1,I1,r,q⟩=>?_
 match vs,q with
 | [x],q=>
  obtain⟨u,rfl,ru⟩:=r.one
  refine thn (hK p4 pq s1 σ H1 (λws H2=>match ws with
   | [y]=>rSumL x y H2 Q
   |_=>False) I1 ⟨Nat.zero_le _,λl hl=>q l hl⟩) λws s2 ⟨zs,H2,I2,rz,q2⟩=>?_
  match zs,q2 with
  | [y],q2=>obtain⟨w,rfl,rw⟩:=rz.one;exact b2P' hc I2 ru rw q2
theorem a9r'{K:Fg}{mg:GS}{μ:La}{H:Hp}:∀{xs:List D} {yss:List (List D)} {vs:List V},lstsD xs=some yss→RepL K mg μ H xs vs→∃wss,a8g' H vs wss∧RepL K mg μ H yss.flatten wss.flatten
 | [],yss,vs,e,r=>by cases e;unfold RepL at r;subst r;exact⟨[],rfl,.nil⟩
 |x::xs,yss,vs,e,r=>by
  obtain⟨v,ws,rfl,r1,r2⟩:=r.uncons;cases x with
  |lst ds=>
   unfold lstsD at e;cases e2:lstsD xs with
   |none=>rw[e2]at e;cases e
   |some zss=>rw[e2]at e;cases e;obtain⟨wss,q1,q2⟩:=a9r' e2 r2;unfold Rep at r1;obtain⟨b,us,rfl,hb,_,hr⟩:=r1;exact⟨us::wss,⟨b,us,wss,rfl,hb,rfl,q1⟩,by rw[Z0,Z0];exact hr.append q2⟩
  |_=>cases e
theorem a9s'{H:Hp}{l:Addr}{o:HO}(hl:H l=none):∀{vs:List V} {wss:List (List V)},a8g' H vs wss→a8g' (upd H l o) vs wss
 | [],_,h=>h
 |v::vs,_,h=>by obtain⟨b,ws,rest,rfl,hb,rfl,h2⟩:=h;exact⟨b,ws,rest,rfl,by rw[a0u' (a0m' hb hl)];exact hb,rfl,a9s' hl h2⟩
theorem cat_D{Q:VK}(sk:SOk K ⟨mg,F⟩ μ S H)(r:Rep K ⟨mg,F⟩ μ H d v)(w:Want K ⟨mg,F⟩ μ H Q (catD d S)):∀l,H l=none→rSumL v (.ref l) (upd H l (.lst [])) Q:=by
 unfold catD at w;split at w
 ·rename_i xs;split at w
  ·rename_i yss e;split at w
   ·rename_i hz;unfold Rep at r;obtain⟨a,vs,rfl,ha,_,rl⟩:=r;obtain⟨wss,q1,q2⟩:=a9r' e rl;intro l hl;refine⟨a,l,vs,wss,rfl,rfl,by rw[a0u' (a0m' ha hl)];exact ha,a0L',by rw[←rl.length];exact hz.1,a9s' hl q1,by rw[←q2.length,a6L'];exact hz.2,λp hp=>?_⟩;exact Want.lst (Want.ext (Ext.laid hl) w) (sk.laid hl) (RepL.mono (Ext.laid hl) _ _ q2) p hp
   ·exact w.elim
  ·exact w.elim
 ·exact w.elim
open PySem PySem.W PyProof.Rows
noncomputable def kRun{α:Type}(c:Nat→Nat→Bool):KasT α→α
 | .ret a=>a
 | .ask i j k=>kRun c (k (c i j))
def kIn{α:Type}(n:Nat)(c:Nat→Nat→Bool):KasT α→Prop
 | .ret _=>True
 | .ask i j k=>i<n∧j<n∧kIn n c (k (c i j))
theorem a2n'{α β:Type}(c:Nat→Nat→Bool)(f:α→KasT β):∀t:KasT α,kRun c (t.bind f)=kRun c (f (kRun c t))
 | .ret _=>rfl
 | .ask i j k=>a2n' c f (k (c i j))
theorem a1W'{α β:Type}{n:Nat}{c:Nat→Nat→Bool}{f:α→KasT β}:∀{t:KasT α},kIn n c t→kIn n c (f (kRun c t))→kIn n c (t.bind f)
 | .ret _,_,h=>h
 | .ask i j k,h1,h2=>⟨h1.1,h1.2.1,a1W' h1.2.2 h2⟩
theorem kWp{α:Type}{n:Nat}{c:Nat→Nat→Bool}{cmp:Nat→Nat→(Bool→Shared→Prop)→Shared→Prop}{s:Shared}(h:∀i j C,i<n→j<n→C (c i j) s→cmp i j C s){G:α→Shared→Prop}:∀{t:KasT α},kIn n c t→G (kRun c t) s→t.kasWp cmp G s
 | .ret _,_,g=>g
 | .ask i j k,hi,g=>h i j _ hi.1 hi.2.1 (kWp h hi.2.2 g)
structure SOrd (n:Nat)(c:Nat→Nat→Bool):Prop where
 irr:∀i,i<n→c i i=false
 asym:∀i j,i<n→j<n→c i j=true→c j i=false
 ntr:∀i j k,i<n→j<n→k<n→c i j=false→c j k=false→c i k=false
structure PA' (n:Nat)(p:Array Nat):Prop where
 size:p.size=n
 perm:p.Perm (List.range n).toArray
theorem PA'.lt{p:Array Nat}(h:PA' n p)(hn:0<n)(k:Nat):p.getD k 0<n:=by
 unfold Array.getD;split
 ·rename_i hk;have hm:p[k]∈p:=Array.getElem_mem hk;have h2:p[k]∈(List.range n).toArray:=h.perm.mem_iff.mp hm;simpa using h2
 ·exact hn
theorem b1E'{p q:Array Nat}{i j:Nat}(h:p[i]?=q[j]?):p.getD i 0=q.getD j 0:=by rw[Array.getD_eq_getD_getElem?,Array.getD_eq_getD_getElem?,h]
section
variable {c:Nat→Nat→Bool}
def Up(c:Nat→Nat→Bool)(p:Array Nat)(k:Nat):Prop:=∀i,i+1<k→c (p.getD (i+1) 0) (p.getD i 0)=false
def Dn(c:Nat→Nat→Bool)(p:Array Nat)(k:Nat):Prop:=∀i,i+1<k→c (p.getD i 0) (p.getD (i+1) 0)=false
theorem Up.all(o:SOrd n c)(hn:0<n){p:Array Nat}(P:PA' n p)(h:Up c p k):∀d i,i+d<k→c (p.getD (i+d) 0) (p.getD i 0)=false:=by
 intro d
 induction d with
 |zero=>intro i hi;exact o.irr _ (P.lt hn _)
 |succ d ih=>intro i hi;exact o.ntr _ (p.getD (i+d) 0) _ (P.lt hn _) (P.lt hn _) (P.lt hn _) (h (i+d) (by omega)) (ih i (by omega))
theorem Up.le(o:SOrd n c)(hn:0<n){p:Array Nat}(P:PA' n p)(h:Up c p k){i j:Nat}(hij:i≤j)(hj:j<k):c (p.getD j 0) (p.getD i 0)=false:=by
 have:=h.all o hn P (j-i) i (by omega)
 rwa [show i+(j-i)=j by omega]at this
theorem b0O'{p:Array Nat}(P:PA' n p)(i j:Nat):PA' n (kas_rev p i j):=⟨by unfold kas_rev;rw[mirror_size];exact P.size,(mirror_perm _ _ _ _).trans P.perm⟩
theorem a6b'{p:Array Nat}(P:PA' n p){i j:Nat}(hj:j≤n)(hk:i≤k∧k<j):(kas_rev p i j).getD k 0=p.getD (i+j-1-k) 0:=b1E' (by unfold kas_rev;rw[getElem?_mirror_all (by rw[P.size];exact hj),if_pos hk])
theorem a4M'{p:Array Nat}(P:PA' n p){i j:Nat}(hj:j≤n)(hk:¬(i≤k∧k<j)):(kas_rev p i j).getD k 0=p.getD k 0:=b1E' (by unfold kas_rev;rw[getElem?_mirror_all (by rw[P.size];exact hj),if_neg hk])
theorem b2Q'(hn:0<n){p:Array Nat}(P:PA' n p):∀(f m:Nat),Up c p m→1≤m→kIn n c (kas_asc p f m)∧m≤kRun c (kas_asc p f m)∧kRun c (kas_asc p f m)≤m+f∧Up c p (kRun c (kas_asc p f m))∧
  (kRun c (kas_asc p f m)<m+f→c (p.getD (kRun c (kas_asc p f m)) 0) (p.getD (kRun c (kas_asc p f m)-1) 0)=true)
 |0,m,h,h1=>⟨trivial,Zi _,Zi _,h,λz=>absurd z (ZN _)⟩
 |f+1,m,h,h1=>by
  unfold kas_asc;simp only[kIn,kRun];cases e:c (p.getD m 0) (p.getD (m-1) 0)with
  |true=>simp only[if_true,kRun,kIn,and_true];exact⟨⟨P.lt hn _,P.lt hn _⟩,Zi _,by omega,h,λ_=>e⟩
  |false=>
   simp only[Zo,ZR]
   have h':Up c p (m+1):=λi hi=>by
    by_cases z:i+1<m
    ·exact h i z
    ·have:i=m-1:=by omega
     subst this;rw[show m-1+1=m by omega];exact e
   obtain⟨a1,a2,a3,a4,a5⟩:=b2Q' hn P f (m+1) h' (by omega);exact⟨⟨P.lt hn _,P.lt hn _,a1⟩,by omega,by omega,a4,λz=>a5 (by omega)⟩
def Eqs(c:Nat→Nat→Bool)(p:Array Nat)(i j:Nat):Prop:=∀a b,i≤a→a<j→i≤b→b<j→c (p.getD a 0) (p.getD b 0)=false
theorem b1F'{p:Array Nat}(P:PA' n p){i j:Nat}(hj:j≤n)(h:Eqs c p i j):Eqs c (kas_rev p i j) i j:=λa b h1 h2 h3 h4=>by rw[a6b' P hj ⟨h1,h2⟩,a6b' P hj ⟨h3,h4⟩];exact h _ _ (by omega) (by omega) (by omega) (by omega)
theorem dn_rev(o:SOrd n c)(hn:0<n){p:Array Nat}(P:PA' n p){i j:Nat}(hj:j≤n)(hk:k≤n)(h:Dn c p k)(e:Eqs c p i j):Dn c (kas_rev p i j) k:=λa ha=>by
 by_cases z1:i≤a∧a<j
 ·by_cases z2:i≤a+1∧a+1<j
  ·exact b1F' P hj e a (a+1) z1.1 z1.2 z2.1 z2.2
  ·rw[a6b' P hj z1,a4M' P hj z2];have q1:=e (i+j-1-a) a (by omega) (by omega) z1.1 z1.2;exact o.ntr _ _ _ (P.lt hn _) (P.lt hn _) (P.lt hn _) q1 (h a ha)
 ·by_cases z2:i≤a+1∧a+1<j
  ·rw[a4M' P hj z1,a6b' P hj z2];have q1:=e (a+1) (i+j-1-(a+1)) z2.1 z2.2 (by omega) (by omega);exact o.ntr _ _ _ (P.lt hn _) (P.lt hn _) (P.lt hn _) (h a ha) q1
  ·rw[a4M' P hj z1,a4M' P hj z2];exact h a ha
theorem a7F'(o:SOrd n c)(hn:0<n):∀(f:Nat) (p:Array Nat) (m q:Nat),PA' n p→Dn c p m→Eqs c p (m-(q+1)) m→q+1≤m→m+f≤n→
  kIn n c (kas_desc f p m q)∧PA' n (kRun c (kas_desc f p m q)).1∧Dn c (kRun c (kas_desc f p m q)).1 (kRun c (kas_desc f p m q)).2.1∧
   Eqs c (kRun c (kas_desc f p m q)).1 ((kRun c (kas_desc f p m q)).2.1-((kRun c (kas_desc f p m q)).2.2+1)) (kRun c (kas_desc f p m q)).2.1∧(kRun c (kas_desc f p m q)).2.2+1≤(kRun c (kas_desc f p m q)).2.1∧m≤(kRun c (kas_desc f p m q)).2.1∧(kRun c (kas_desc f p m q)).2.1≤m+f
 |0,p,m,q,P,h,e,hq,hm=>⟨trivial,P,h,e,hq,Zi _,Zi _⟩
 |f+1,p,m,q,P,h,e,hq,hm=>by
  unfold kas_desc;simp only[kIn,kRun];cases ec:c (p.getD m 0) (p.getD (m-1) 0)with
  |true=>
   simp only[if_true];have as:=o.asym _ _ (P.lt hn _) (P.lt hn _) ec
   have one:∀(p':Array Nat),PA' n p'→Dn c p' m→c (p'.getD (m-1) 0) (p'.getD m 0)=false→Dn c p' (m+1)∧Eqs c p' (m+1-(0+1)) (m+1):=λp' P' d' z=>⟨λi hi=>by
    by_cases y:i+1<m
    ·exact d' i y
    ·have:i=m-1:=by omega
     subst this;rw[show m-1+1=m by omega];exact z,λa b h1 h2 h3 h4=>by
    have:a=m:=by omega
    have:b=m:=by omega
    subst a;subst b;exact o.irr _ (P'.lt hn _)⟩
   by_cases hz:q>0
   ·rw[if_pos hz];have P':=b0O' P (m-(q+1)) m;have d':=dn_rev o hn P (by omega:m≤n) (by omega:m≤n) h e
    have z:c ((kas_rev p (m-(q+1)) m).getD (m-1) 0) ((kas_rev p (m-(q+1)) m).getD m 0)=false:=by rw[a6b' P (by omega) (by omega),a4M' P (by omega) (by omega)];exact o.ntr _ (p.getD (m-1) 0) _ (P.lt hn _) (P.lt hn _) (P.lt hn _) (e _ (m-1) (by omega) (by omega) (by omega) (by omega)) as
    obtain⟨k1,k2⟩:=one _ P' d' z;obtain⟨a1,a2,a3,a4,a5,a6,a7⟩:=a7F' o hn f _ (m+1) 0 P' k1 k2 (by omega) (by omega);exact⟨⟨P.lt hn _,P.lt hn _,a1⟩,a2,a3,a4,a5,by omega,by omega⟩
   ·rw[if_neg hz];obtain⟨k1,k2⟩:=one p P h as;obtain⟨a1,a2,a3,a4,a5,a6,a7⟩:=a7F' o hn f p (m+1) 0 P k1 k2 (by omega) (by omega);exact⟨⟨P.lt hn _,P.lt hn _,a1⟩,a2,a3,a4,a5,by omega,by omega⟩
  |false=>
   simp only[Zo,ZR,kIn,kRun];cases ed:c (p.getD (m-1) 0) (p.getD m 0)with
   |true=>simp only[if_true,kRun,kIn,and_true];exact⟨⟨P.lt hn _,P.lt hn _,P.lt hn _,P.lt hn _⟩,P,h,e,hq,Zi _,by omega⟩
   |false=>
    simp only[Zo,ZR]
    have d':Dn c p (m+1):=λi hi=>by
     by_cases y:i+1<m
     ·exact h i y
     ·have:i=m-1:=by omega
      subst this;rw[show m-1+1=m by omega];exact ed
    have e':Eqs c p (m+1-(q+1+1)) (m+1):=λa b h1 h2 h3 h4=>by
     have r1:∀a,m+1-(q+1+1)≤a→a<m+1→c (p.getD a 0) (p.getD (m-1) 0)=false:=λa h1 h2=>by
      by_cases y:a=m
      ·subst y;exact ec
      ·exact e a (m-1) (by omega) (by omega) (by omega) (by omega)
     have r2:∀a,m+1-(q+1+1)≤a→a<m+1→c (p.getD (m-1) 0) (p.getD a 0)=false:=λa h1 h2=>by
      by_cases y:a=m
      ·subst y;exact ed
      ·exact e (m-1) a (by omega) (by omega) (by omega) (by omega)
     exact o.ntr _ _ _ (P.lt hn _) (P.lt hn _) (P.lt hn _) (r1 a h1 h2) (r2 b h3 h4)
    obtain⟨a1,a2,a3,a4,a5,a6,a7⟩:=a7F' o hn f p (m+1) (q+1) P d' e' (by omega) (by omega);exact⟨⟨P.lt hn _,P.lt hn _,P.lt hn _,P.lt hn _,a1⟩,a2,a3,a4,a5,by omega,by omega⟩
structure Cnt (n:Nat)(c:Nat→Nat→Bool)(r:Nat×Array Nat):Prop where
 pa:PA' n r.2
 up:Up c r.2 r.1
 pos:1≤r.1
 le:r.1≤n
theorem a9t'(hn:0<n){p:Array Nat}(P:PA' n p){m:Nat}(h:Dn c p m)(h1:1≤m)(hm:m≤n):kIn n c (kas_tail3 m n p)∧Cnt n c (kRun c (kas_tail3 m n p)):=by
 have P':=b0O' P 0 m
 have u:Up c (kas_rev p 0 m) m:=λi hi=>by
  rw[a6b' P hm (by omega),a6b' P hm (by omega)];have:=h (0+m-1-(i+1)) (by omega)
  rwa [show 0+m-1-(i+1)+1=0+m-1-i by omega]at this
 obtain⟨a1,a2,a3,a4,a5⟩:=b2Q' (c:=c) hn P' (n-m) m u h1;unfold kas_tail3;rw[a2n'];exact⟨a1W' a1 trivial,P',a4,ZT h1 a2,by show kRun c (kas_asc (kas_rev p 0 m) (n-m) m)≤n;omega⟩
theorem a4N'(o:SOrd n c)(hn:0<n){p:Array Nat}(P:PA' n p){m:Nat}(h:Dn c p (m+1))(hm:m+1≤n):kIn n c (kas_descPart m n p)∧Cnt n c (kRun c (kas_descPart m n p)):=by
 obtain⟨a1,a2,a3,a4,a5,a6,a7⟩:=a7F' o hn (n-(m+1)) p (m+1) 0 P h (λa b h1 h2 h3 h4=>by
  have:a=b:=by omega
  subst this;exact o.irr _ (P.lt hn _)) (by omega) (by omega)
 unfold kas_descPart;rw[a2n'];by_cases z:(kRun c (kas_desc (n-(m+1)) p (m+1) 0)).2.2>0
 ·have P':=b0O' a2 ((kRun c (kas_desc (n-(m+1)) p (m+1) 0)).2.1-((kRun c (kas_desc (n-(m+1)) p (m+1) 0)).2.2+1)) (kRun c (kas_desc (n-(m+1)) p (m+1) 0)).2.1;have d':=dn_rev o hn a2 (by omega) (by omega:(kRun c (kas_desc (n-(m+1)) p (m+1) 0)).2.1≤n) a3 a4;have t:=a9t' (c:=c) hn P' d' (by omega) (by omega);rw[if_pos z];exact⟨a1W' a1 (by rw[if_pos z];exact t.1),t.2⟩
 ·have t:=a9t' (c:=c) hn a2 a3 (by omega) (by omega);rw[if_neg z];exact⟨a1W' a1 (by rw[if_neg z];exact t.1),t.2⟩
theorem count_ok(o:SOrd n c)(h2:2≤n){p:Array Nat}(P:PA' n p):kIn n c (kas_count n p)∧Cnt n c (kRun c (kas_count n p)):=by
 have hn:0<n:=by omega
 obtain⟨a1,a2,a3,a4,a5⟩:=b2Q' (c:=c) hn P (n-1) 1 (λi hi=>by omega) (Zi 1);unfold kas_count;rw[a2n'];generalize em:kRun c (kas_asc p (n-1) 1)=m at*
 have key:kIn n c (if(m==n)=true then KasT.ret (m,p)else if m>1 then .ask (p.getD 0 0) (p.getD (m-1) 0) λc=>if c=true then .ret (m,p)else kas_descPart m n (kas_rev p 0 m)else kas_descPart m n p)∧
   Cnt n c (kRun c (if(m==n)=true then KasT.ret (m,p)else if m>1 then .ask (p.getD 0 0) (p.getD (m-1) 0) λc=>if c=true then .ret (m,p)else kas_descPart m n (kas_rev p 0 m)else kas_descPart m n p)):=by
  by_cases e:(m==n)=true
  ·rw[if_pos e];exact⟨trivial,P,a4,a2,by show m≤n;omega⟩
  ·rw[if_neg e];have hmn:m≠n:=by simpa using e
   have gt:=a5 (by omega);have as:=o.asym _ _ (P.lt hn _) (P.lt hn _) gt;by_cases z:m>1
   ·rw[if_pos z];simp only[kIn,kRun];cases ec:c (p.getD 0 0) (p.getD (m-1) 0)with
    |true=>simp only[if_true,kIn,kRun,and_true];exact⟨⟨P.lt hn _,P.lt hn _⟩,P,a4,a2,by show m≤n;omega⟩
    |false=>
     simp only[Zo,ZR];have eq:Eqs c p 0 m:=λa b _ h2 _ h4=>by have r1:=a4.le o hn P (Nat.zero_le a) h2;have r2:=a4.le o hn P (show b≤m-1 by omega) (by omega);exact o.ntr _ (p.getD (m-1) 0) _ (P.lt hn _) (P.lt hn _) (P.lt hn _) (o.ntr _ (p.getD 0 0) _ (P.lt hn _) (P.lt hn _) (P.lt hn _) r1 ec) r2
     have P':=b0O' P 0 m;have eq':=b1F' P (by omega:m≤n) eq
     have d':Dn c (kas_rev p 0 m) (m+1):=λi hi=>by
      by_cases y:i+1<m
      ·exact eq' i (i+1) (by omega) (by omega) (by omega) y
      ·have:i=m-1:=by omega
       subst this;rw[a6b' P (by omega) (by omega),a4M' P (by omega) (by omega),show m-1+1=m by omega];exact o.ntr _ (p.getD (m-1) 0) _ (P.lt hn _) (P.lt hn _) (P.lt hn _) (eq _ (m-1) (by omega) (by omega) (by omega) (by omega)) as
     obtain⟨t1,t2⟩:=a4N' o hn P' d' (by omega);exact⟨⟨P.lt hn _,P.lt hn _,t1⟩,t2⟩
   ·rw[if_neg z];have e1:m=1:=by omega
    subst e1;refine a4N' o hn P (λi hi=>?_) (by omega);have:i=0:=by omega
    subst this;exact as
 exact⟨a1W' a1 (by rw[em];exact key.1),key.2⟩
theorem a6Q'(o:SOrd n c)(hn:0<n){p:Array Nat}(P:PA' n p){k:Nat}(u:Up c p k):∀(f l r:Nat),r≤k→l≤r→r-l≤f→(∀i,i<l→c (p.getD k 0) (p.getD i 0)=false)→(∀i,r≤i→i<k→c (p.getD k 0) (p.getD i 0)=true)→
  kIn n c (kas_place p k f l r)∧kRun c (kas_place p k f l r)≤k∧(∀i,i<kRun c (kas_place p k f l r)→c (p.getD k 0) (p.getD i 0)=false)∧(∀i,kRun c (kas_place p k f l r)≤i→i<k→c (p.getD k 0) (p.getD i 0)=true)
 |0,l,r,hr,hl,hf,h1,h2=>by
  have:l=r:=by omega
  subst this;exact⟨trivial,hr,h1,h2⟩
 |f+1,l,r,hr,hl,hf,h1,h2=>by
  unfold kas_place;by_cases z:l≥r
  ·rw[if_pos z];have:l=r:=by omega
   subst this;exact⟨trivial,hr,h1,h2⟩
  ·rw[if_neg z];simp only[kIn,kRun];cases ec:c (p.getD k 0) (p.getD ((l+r)/2) 0)with
   |true=>
    simp only[if_true]
    have h2':∀i,(l+r)/2≤i→i<k→c (p.getD k 0) (p.getD i 0)=true:=λi hi hk=>by
     cases e:c (p.getD k 0) (p.getD i 0)with
     |true=>rfl
     |false=>have:=o.ntr _ (p.getD i 0) _ (P.lt hn _) (P.lt hn _) (P.lt hn _) e (u.le o hn P hi hk);rw[ec]at this;cases this
    obtain⟨b1,b2⟩:=a6Q' o hn P u f l ((l+r)/2) (by omega) (by omega) (by omega) h1 h2';exact⟨⟨P.lt hn _,P.lt hn _,b1⟩,b2⟩
   |false=>
    simp only[Zo,ZR]
    have h1':∀i,i<(l+r)/2+1→c (p.getD k 0) (p.getD i 0)=false:=λi hi=>
     o.ntr _ (p.getD ((l+r)/2) 0) _ (P.lt hn _) (P.lt hn _) (P.lt hn _) ec (u.le o hn P (by omega) (by omega))
    obtain⟨b1,b2⟩:=a6Q' o hn P u f ((l+r)/2+1) r hr (by omega) (by omega) h1' h2;exact⟨⟨P.lt hn _,P.lt hn _,b1⟩,b2⟩
theorem bin_ok(o:SOrd n c)(hn:0<n):∀(f:Nat) (p:Array Nat) (k:Nat),PA' n p→Up c p k→k+f=n→kIn n c (kas_bin f p k)∧PA' n (kRun c (kas_bin f p k))∧Up c (kRun c (kas_bin f p k)) n
 |0,p,k,P,u,h=>by
  have:k=n:=by omega
  subst this;exact⟨trivial,P,u⟩
 |f+1,p,k,P,u,h=>by
  unfold kas_bin;rw[a2n'];obtain⟨a1,a2,a3,a4⟩:=a6Q' o hn P u k 0 k (Zi _) (Nat.zero_le _) (by omega) (λi hi=>absurd hi (Nat.not_lt_zero _)) (λi h1 h2=>by omega);generalize el:kRun c (kas_place p k k 0 k)=l at*;have P':PA' n (bubble p k (k-l)):=⟨by rw[bubble_size];exact P.size,(bubble_perm _ _ _).trans P.perm⟩
  have at_:∀i,(bubble p k (k-l)).getD i 0=if i=l then p.getD k 0 else if l<i∧i≤k then p.getD (i-1) 0 else p.getD i 0:=λi=>by
   have e:=getElem?_bubble (xs:=p) (src:=k) (by rw[P.size];omega) (k-l) (by omega) i;rw[show k-(k-l)=l by omega]at e;rw[Array.getD_eq_getD_getElem?,e];by_cases z1:i=l
   ·rw[if_pos z1,if_pos z1,Array.getD_eq_getD_getElem?]
   ·rw[if_neg z1,if_neg z1];by_cases z2:l<i∧i≤k
    ·rw[if_pos z2,if_pos z2,Array.getD_eq_getD_getElem?]
    ·rw[if_neg z2,if_neg z2,Array.getD_eq_getD_getElem?]
  have u':Up c (bubble p k (k-l)) (k+1):=λi hi=>by
   rw[at_,at_];by_cases z1:i+1=l
   ·rw[if_pos z1,if_neg (by omega),if_neg (by omega)];exact a3 i (by omega)
   ·rw[if_neg z1];by_cases z2:l<i+1∧i+1≤k
    ·rw[if_pos z2];by_cases z3:i=l
     ·rw[if_pos z3];have:=a4 i (by omega) (by omega);rw[show i+1-1=i by omega];exact o.asym _ _ (P.lt hn _) (P.lt hn _) this
     ·rw[if_neg z3,if_pos (by omega)];have:=u (i-1) (by omega)
      rwa [show i-1+1=i+1-1 by omega]at this
    ·rw[if_neg z2,if_neg (by omega),if_neg (by omega)];exact u i (by omega)
  obtain⟨b1,b2,b3⟩:=bin_ok o hn f (bubble p k (k-l)) (k+1) P' u' (by omega);exact⟨a1W' a1 (by rw[el];exact b1),b2,b3⟩
theorem sort_ok(o:SOrd n c)(h2:2≤n):kIn n c (kas_sort n)∧PA' n (kRun c (kas_sort n))∧Up c (kRun c (kas_sort n)) n:=by
 have P0:PA' n (List.toArray (List.range n)):=⟨by simp,.refl _⟩;obtain⟨a1,a2⟩:=count_ok o h2 P0;unfold kas_sort;rw[a2n'];by_cases z:(kRun c (kas_count n (List.toArray (List.range n)))).1<n
 ·have e:max (kRun c (kas_count n (List.toArray (List.range n)))).1 1=(kRun c (kas_count n (List.toArray (List.range n)))).1:=Nat.max_eq_left a2.pos;obtain⟨b1,b2,b3⟩:=bin_ok o (by omega) (n-max (kRun c (kas_count n (List.toArray (List.range n)))).1 1) _ (max (kRun c (kas_count n (List.toArray (List.range n)))).1 1) a2.pa (by rw[e];exact a2.up) (by omega);rw[if_pos z];exact⟨a1W' a1 (by rw[if_pos z];exact b1),b2,b3⟩
 ·rw[if_neg z];have e:(kRun c (kas_count n (List.toArray (List.range n)))).1=n:=by have:=a2.le;omega
  refine⟨a1W' a1 (by rw[if_neg z];trivial),a2.pa,?_⟩;have:=a2.up
  rwa [e]at this
end
end Py
section
set_option autoImplicit false
namespace Py
open PySem PySem.W PySem.Spec PyProof.Rows
noncomputable def rankN(n:Nat)(c:Nat→Nat→Bool)(i:Nat):Nat:=((List.range n).filter λj=>c j i).length
section
variable {κ:SortKind}
theorem run_any{c:Nat→Nat→Bool}(o:SOrd its.length c)(same:∀i j,i<its.length→j<its.length→its.getD i Value.none=its.getD j Value.none→rankN its.length c i=rankN its.length c j)(h2:2≤its.length)(h63:its.length<64)
  (ask:∀i j C,i<its.length→j<its.length→C (c i j) s→kas_ask prog w A κ its i j C s) {Q:SortSt→Shared→Prop}
  (h:∀(st':SortSt) (p:List Nat),failedOf st'=none→(arrOf st').map (·.2)=List.toArray (p.map λi=>its.getD i Value.none)→p.Perm (List.range its.length)→p.Pairwise (λi j=>c j i=false)→Q st' s):
  wpAny (model prog w) A ((sortRuns').run (SortSt.mk' κ (its.toArray.zip its.toArray) #[] 7 none)) (λr s'=>Q r.2 s') E s:=by
 obtain⟨q1,q2,q3⟩:=sort_ok o h2;have pp:(kRun c (kas_sort its.length)).toList.Perm (List.range its.length):=Array.perm_iff_toList_perm.mp q2.perm
 have pw:(kRun c (kas_sort its.length)).toList.Pairwise (λi j=>c j i=false):=by
  rw[List.pairwise_iff_getElem];intro i j hi hj hij;have hsz:(kRun c (kas_sort its.length)).size=its.length:=q2.size;have hi':i<(kRun c (kas_sort its.length)).size:=by simpa using hi
  have hj':j<(kRun c (kas_sort its.length)).size:=by simpa using hj
  have:=q3.le o (by omega) q2 (Nat.le_of_lt hij) (by omega:j<its.length);simpa[Array.getD,hi',hj']using this
 have ask':(kas_sort its.length).kasWp (kas_ask prog w A κ its) (λp s'=>p=kRun c (kas_sort its.length)∧s'=s) s:=kWp ask q1 ⟨rfl,rfl⟩
 have run:=kat_run (E:=E) (ks:=its) rfl h2 h63 (Q:=Q)
  (λp st' s' z1 z2 z3 z4=>by obtain⟨rfl,rfl⟩:=z4;exact h st' _ z3 (kat_snds rfl z2) pp pw) ask'
 exact wpAny_mono run (λr s' hr=>hr) λ_ _ e=>e
end
end Py
end
namespace Py
structure LOrd (P:D→Prop)(f:D→D→Bool):Prop where
 irr:∀x,P x→f x x=false
 asym:∀x y,P x→P y→f x y=true→f y x=false
 ntr:∀x y z,P x→P y→P z→f x y=false→f y z=false→f x z=false
 tot:∀x y,P x→P y→f x y=false→f y x=false→x=y
section
variable {P:D→Prop}{f:D→D→Bool}
theorem b1G'(o:LOrd P f):∀(xs:List D),(∀x∈xs,P x)→lexB f xs xs=false
 | [],_=>rfl
 |x::xs,h=>by unfold lexB;rw[o.irr x (h x Zd)];simpa using b1G' o xs λy hy=>h y (Zb _ hy)
theorem a9u'(o:LOrd P f):∀(xs ys:List D),(∀x∈xs,P x)→(∀x∈ys,P x)→lexB f xs ys=true→lexB f ys xs=false
 | [],[],_,_,h=>by cases h
 | [],_::_,_,_,_=>rfl
 |_::_,[],_,_,h=>by cases h
 |x::xs,y::ys,h1,h2,h=>by
  unfold lexB at h⊢;have px:=h1 x Zd;have py:=h2 y Zd;cases e:f x y with
  |true=>rw[o.asym x y px py e];simp
  |false=>
   rw[e]at h;cases e2:f y x with
   |true=>rw[e2]at h;simp at h
   |false=>rw[e2]at h;simp only[Zo,ZR]at h⊢;exact a9u' o xs ys (λz hz=>h1 z (Zb _ hz)) (λz hz=>h2 z (Zb _ hz)) h
theorem lex_tot(o:LOrd P f):∀(xs ys:List D),(∀x∈xs,P x)→(∀x∈ys,P x)→lexB f xs ys=false→lexB f ys xs=false→xs=ys
 | [],[],_,_,_,_=>rfl
 | [],_::_,_,_,h,_=>by cases h
 |_::_,[],_,_,_,h=>by cases h
 |x::xs,y::ys,h1,h2,h,h'=>by
  unfold lexB at h h';have px:=h1 x Zd;have py:=h2 y Zd;cases e:f x y with
  |true=>rw[e]at h;simp at h
  |false=>
   cases e2:f y x with
   |true=>rw[e2]at h';simp at h'
   |false=>rw[e,e2]at h h';simp only[Zo,ZR]at h h';rw[o.tot x y px py e e2,lex_tot o xs ys (λz hz=>h1 z (Zb _ hz)) (λz hz=>h2 z (Zb _ hz)) h h']
theorem b1H'(o:LOrd P f):∀(xs ys zs:List D),(∀x∈xs,P x)→(∀x∈ys,P x)→(∀x∈zs,P x)→lexB f xs ys=false→lexB f ys zs=false→lexB f xs zs=false
 | [],[],zs,_,_,_,_,h=>h
 | [],_::_,_,_,_,_,h,_=>by cases h
 |_::_,_,[],_,_,_,_,_=>rfl
 |x::xs,[],z::zs,_,_,_,_,h=>by cases h
 |x::xs,y::ys,z::zs,h1,h2,h3,ha,hb=>by
  have px:=h1 x Zd;have py:=h2 y Zd;have pz:=h3 z Zd;unfold lexB at ha hb⊢;cases e1:f x y with
  |true=>rw[e1]at ha;simp at ha
  |false=>
   cases e2:f y z with
   |true=>rw[e2]at hb;simp at hb
   |false=>
    rw[e1]at ha;rw[e2]at hb;simp only[Zo,ZR]at ha hb;rw[o.ntr x y z px py pz e1 e2];simp only[Zo,ZR];cases e3:f z x with
    |true=>rfl
    |false=>have e4:f y x=false:=o.ntr y z x py pz px e2 e3;have e5:f z y=false:=o.ntr z x y pz px py e3 e1;rw[e4]at ha;rw[e5]at hb;simp only[Zo,ZR]at ha hb⊢;exact b1H' o xs ys zs (λw hw=>h1 w (Zb _ hw)) (λw hw=>h2 w (Zb _ hw)) (λw hw=>h3 w (Zb _ hw)) ha hb
end
theorem a2M'(h:hasTy .int d=true):∃i,d=.int i:=by cases d<;>first|exact⟨_,rfl⟩| (simp[hasTy]at h)
theorem a1X'{t:KTy}(h:hasTy (.seq t) d=true):∃xs,d=.tup xs∧∀x∈xs,hasTy t x=true:=by
 cases d with
 |tup xs=>unfold hasTy at h;exact⟨xs,rfl,λx hx=>ZD.mp h x hx⟩
 |_=>simp[hasTy]at h
theorem lordK:∀(t:KTy),noStr t=true→LOrd (λd=>hasTy t d=true) (ltK t)
 | .int,_=>by
  refine⟨λx h=>?_,λx y h1 h2 h=>?_,λx y z h1 h2 h3 ha hb=>?_,λx y h1 h2 ha hb=>?_⟩
  ·obtain⟨i,rfl⟩:=a2M' h;simp[ltK]
  ·obtain⟨i,rfl⟩:=a2M' h1;obtain⟨j,rfl⟩:=a2M' h2;simp[ltK]at h⊢;omega
  ·obtain⟨i,rfl⟩:=a2M' h1;obtain⟨j,rfl⟩:=a2M' h2;obtain⟨k,rfl⟩:=a2M' h3;simp[ltK]at ha hb⊢;omega
  ·obtain⟨i,rfl⟩:=a2M' h1;obtain⟨j,rfl⟩:=a2M' h2;simp[ltK]at ha hb;congr 1;omega
 | .seq t,h=>by
  have o:=lordK t h;refine⟨λx h=>?_,λx y h1 h2 h=>?_,λx y z h1 h2 h3 ha hb=>?_,λx y h1 h2 ha hb=>?_⟩
  ·obtain⟨xs,rfl,k⟩:=a1X' h;exact b1G' o xs k
  ·obtain⟨xs,rfl,k1⟩:=a1X' h1;obtain⟨ys,rfl,k2⟩:=a1X' h2;exact a9u' o xs ys k1 k2 h
  ·obtain⟨xs,rfl,k1⟩:=a1X' h1;obtain⟨ys,rfl,k2⟩:=a1X' h2;obtain⟨zs,rfl,k3⟩:=a1X' h3;exact b1H' o xs ys zs k1 k2 k3 ha hb
  ·obtain⟨xs,rfl,k1⟩:=a1X' h1;obtain⟨ys,rfl,k2⟩:=a1X' h2;exact congrArg D.tup (lex_tot o xs ys k1 k2 ha hb)
def eqK(t:KTy)(d e:D):Bool:= !ltK t d e&& !ltK t e d
theorem a9v'{t:KTy}(hs:noStr t=true){e:D}(h1:hasTy t d=true)(h2:hasTy t e=true)(h:eqK t d e=true):d=e:=by unfold eqK at h;simp at h;exact(lordK t hs).tot d e h1 h2 h.1 h.2
theorem a2o'{f:D→D→Bool}{x y:D}{xs ys:List D}:lexB f (x::xs) (y::ys)=if f x y=true then true else if f y x=true then false else lexB f xs ys:=rfl
theorem b1I'{t:KTy}(hs:noStr t=true):∀(xs ys:List D),(∀x∈xs,hasTy t x=true)→(∀x∈ys,hasTy t x=true)→eqK (.seq t) (.tup xs) (.tup ys)=((List.zipWith (eqK t) xs ys).all id&&xs.length==ys.length)
 | [],[],_,_=>rfl
 | [],y::ys,_,_=>by simp[eqK,ltK,lexB]
 |x::xs,[],_,_=>by simp[eqK,ltK,lexB]
 |x::xs,y::ys,h1,h2=>by
  have ih:=b1I' hs xs ys (λw hw=>h1 w (Zb _ hw)) (λw hw=>h2 w (Zb _ hw));have px:=h1 x Zd;have py:=h2 y Zd;cases e:ltK t x y with
  |true=>
   have:eqK t x y=false:=by simp[eqK,e]
   simp[eqK,ltK,lexB,e]
  |false=>
   cases e2:ltK t y x with
   |true=>simp[eqK,ltK,lexB,e,e2]
   |false=>
    have e3:eqK t x y=true:=by simp[eqK,e,e2]
    have e4:eqK (.seq t) (.tup (x::xs)) (.tup (y::ys))=eqK (.seq t) (.tup xs) (.tup ys):=by show(!lexB (ltK t) (x::xs) (y::ys)&& !lexB (ltK t) (y::ys) (x::xs))=(!lexB (ltK t) xs ys&& !lexB (ltK t) ys xs);rw[a2o',a2o',e,e2];simp
    rw[e4,ih];simp[e3]
theorem allO_map(f:D→D→Bool):∀(xs ys:List D) (g:D→D→Option Bool),(∀x∈xs,∀y∈ys,g x y=some (f x y))→allO (List.zipWith g xs ys)=some ((List.zipWith f xs ys).all id)
 | [],_,_,_=>rfl
 |_::_,[],_,_=>rfl
 |x::xs,y::ys,g,h=>by
  have ih:=allO_map f xs ys g λa ha b hb=>h a (Zb _ ha) b (Zb _ hb)
  show(match g x y,allO (List.zipWith g xs ys)with
   |some b,some c=>some (b&&c)
   |_,_=>none)=_
  rw[h x Zd y Zd,ih];rfl
theorem b1J'{t:KTy}(hs:noStr t=true){eq lt:D→D→Option Bool}:∀(xs ys:List D),(∀x∈xs,hasTy t x=true)→(∀x∈ys,hasTy t x=true)→(∀x∈xs,∀y∈ys,eq x y=some (eqK t x y)∧lt x y=some (ltK t x y))→ltL eq lt xs ys=some (lexB (ltK t) xs ys)
 | [],[],_,_,_=>rfl
 | [],_::_,_,_,_=>rfl
 |_::_,[],_,_,_=>rfl
 |x::xs,y::ys,h1,h2,h=>by
  have ih:=b1J' hs xs ys (λw hw=>h1 w (Zb _ hw)) (λw hw=>h2 w (Zb _ hw)) λa ha b hb=>h a (Zb _ ha) b (Zb _ hb);obtain⟨k1,k2⟩:=h x Zd y Zd;have px:=h1 x Zd;have py:=h2 y Zd;unfold ltL;rw[k1,a2o'];cases e:ltK t x y with
  |true=>
   have e1:eqK t x y=false:=by simp[eqK,e]
   rw[e1];show lt x y=_;rw[k2,e];rfl
  |false=>
   cases e2:ltK t y x with
   |true=>
    have e1:eqK t x y=false:=by simp[eqK,e,e2]
    rw[e1];show lt x y=_;rw[k2,e];rfl
   |false=>
    have e1:eqK t x y=true:=by simp[eqK,e,e2]
    rw[e1];exact ih
theorem asK(S:Store):∀(t:KTy),noStr t=true→∀n,depth t≤n→∀d e,hasTy t d=true→hasTy t e=true→eqF S n d e=some (eqK t d e)∧ltF S n d e=some (ltK t d e)
 | .int,_,0,h,_,_,_,_=>by simp[depth]at h
 | .int,_,n+1,_,d,e,h1,h2=>by
  obtain⟨i,rfl⟩:=a2M' h1;obtain⟨j,rfl⟩:=a2M' h2;refine⟨?_,rfl⟩;show some (i==j)=some (!decide (i<j)&& !decide (j<i));congr 1;by_cases z:i=j
  ·subst z;simp
  ·rcases Int.lt_or_gt_of_ne z with y|y
   ·simp[z,y]
   ·have:¬i<j:=by omega
    simp[z,y]
 | .seq t,hs,0,h,_,_,_,_=>by simp[depth]at h
 | .seq t,hs,n+1,h,d,e,h1,h2=>by obtain⟨xs,rfl,k1⟩:=a1X' h1;obtain⟨ys,rfl,k2⟩:=a1X' h2;have ih:=asK S t hs n (by simpa[depth]using h);refine⟨?_,b1J' (t:=t) hs xs ys k1 k2 λx hx y hy=>ih x y (k1 x hx) (k2 y hy)⟩;show(allO (List.zipWith (eqF S n) xs ys)).map (· &&xs.length==ys.length)=_;rw[allO_map (eqK t) xs ys _ λx hx y hy=>(ih x y (k1 x hx) (k2 y hy)).1,b1I' (t:=t) hs xs ys k1 k2];rfl
theorem a5s'(f:D→D→Bool)(x:D):∀l,(insB f x l).Perm (x::l)
 | []=>.refl _
 |y::ys=>by
  unfold insB;split
  ·exact .refl _
  ·exact((a5s' f x ys).cons y).trans (.swap _ _ _)
theorem a6c'(f:D→D→Bool)(xs:List D):(a5n' f xs).Perm xs:=by
 have key:∀(xs acc:List D),(xs.foldl (λacc x=>insB f x acc) acc).Perm (acc++xs):=by
  intro xs
  induction xs with
  |nil=>intro acc;simp
  |cons x xs ih=>intro acc;refine(ih (insB f x acc)).trans ?_;refine((a5s' f x acc).append_right xs).trans ?_;exact List.perm_middle.symm
 simpa[a5n']using key xs []
theorem a6d'{P:D→Prop}{f:D→D→Bool}(o:LOrd P f)(x:D)(px:P x):∀l,(∀y∈l,P y)→l.Pairwise (λa b=>f b a=false)→(insB f x l).Pairwise (λa b=>f b a=false)
 | [],_,_=>by simp[insB]
 |y::ys,hp,h=>by
  unfold insB;have py:=hp y Zd;obtain⟨h1,h2⟩:=ZE.mp h;split
  ·rename_i hlt;refine ZE.mpr ⟨λz hz=>?_,h⟩;have yx:=o.asym x y px py hlt;rcases Zm.mp hz with rfl|hz
   ·exact yx
   ·exact o.ntr z y x (hp z (Zb _ hz)) py px (h1 z hz) yx
  ·rename_i hlt;refine ZE.mpr ⟨λz hz=>?_,a6d' o x px ys (λw hw=>hp w (Zb _ hw)) h2⟩;rcases Zm.mp ((a5s' f x ys).mem_iff.mp hz)with rfl|hz
   ·simpa using hlt
   ·exact h1 z hz
theorem a6R'{P:D→Prop}{f:D→D→Bool}(o:LOrd P f)(xs:List D)(hp:∀x∈xs,P x):(a5n' f xs).Pairwise (λa b=>f b a=false):=by
 have key:∀(xs acc:List D),(∀x∈xs,P x)→(∀x∈acc,P x)→acc.Pairwise (λa b=>f b a=false)→(xs.foldl (λacc x=>insB f x acc) acc).Pairwise (λa b=>f b a=false):=by
  intro xs
  induction xs with
  |nil=>intro acc _ _ h;exact h
  |cons x xs ih=>
   intro acc h1 h2 h;have px:=h1 x Zd;refine ih (insB f x acc) (λy hy=>h1 y (Zb _ hy)) (λy hy=>?_) (a6d' o x px acc h2 h);rcases Zm.mp ((a5s' f x acc).mem_iff.mp hy)with rfl|hy
   ·exact px
   ·exact h2 y hy
 exact key xs [] hp (by simp) .nil
theorem a6S'{t:KTy}(hs:noStr t=true){xs ys:List D}(hp:∀x∈xs,hasTy t x=true)(p:ys.Perm xs)(s:ys.Pairwise (λa b=>ltK t b a=false)):ys=a5n' (ltK t) xs:=by have o:=lordK t hs;refine List.Perm.eq_of_pairwise (le:=λa b=>ltK t b a=false) (λa b ha hb h1 h2=>?_) s (a6R' o xs hp) (p.trans (a6c' _ _).symm);exact o.tot a b (hp a (p.mem_iff.mp ha)) (hp b ((a6c' _ _).mem_iff.mp hb)) h2 h1
open PySem PySem.W PySem.Spec PyProof.Rows
def Outs(its:Lv)(c:Nat→Nat→Bool)(out:Lv):Prop:=∃p:List Nat,out=p.map (λi=>its.getD i Value.none)∧p.Perm (List.range its.length)∧p.Pairwise (λi j=>c j i=false)
theorem a6T'{n0:Nat}{c:Nat→Nat→Bool}{P:PySem.Fin→Shared→Prop}(ho:s.heap.get? a=some (seqObj "list" its.toArray n0))(h63:its.length<64)
  (hk:2≤its.length→∃κ:SortKind,SOrd its.length c∧(∀i j,i<its.length→j<its.length→its.getD i Value.none=its.getD j Value.none→rankN its.length c i=rankN its.length c j)∧∀h':Heap,(∀b o,b≠a→s.heap.get? b=some o→h'.get? b=some o)→
   (∀(Q':SortKind→Shared→Prop),Q' κ {s with heap:=h'}→wpAny (model prog w) A (keyKind' its.toArray) Q' E {s with heap:=h'})∧
   ∀i j C,i<its.length→j<its.length→C (c i j) {s with heap:=h'}→kas_ask prog w A κ its i j C {s with heap:=h'})
  (hP:∀h' c2 out,(∀b o,b≠a→s.heap.get? b=some o→h'.get? b=some o)→h'.get? a=some (seqObj "list" (List.toArray out) c2)→Outs its c out→P (.done (.ret .none)) {s with heap:=h'}):
  wpAny (model prog w) A (Builtin.«list.sort» ⟨[.ref a],[]⟩) P E s:=by
 have h64:its.length≤sizeLine:=by rw[sizeLine_eq];omega
 have ha:a<s.heap.objs.size:=Zj ho;have s1:=Heap.SameBut.update s.heap a (Obj.mapSeq λ_=>(#[]:Av));obtain⟨e1,ho1⟩:∃e1,(s.heap.update a (Obj.mapSeq λ_=>(#[]:Av))).get? a=some (seqObj "list" #[] e1):=⟨_,get?_update_seq ho λ_=> #[]⟩
 have keep:∀b o,b≠a→s.heap.get? b=some o→(((s.heap.update a (Obj.mapSeq λ_=>(#[]:Av))).push (seqObj "tuple" its.toArray 0)).push (seqObj "list" #[] 0)).get? b=some o:=λb o hb e=>
  Zc _ (Zc _ ((s1.2 b hb).trans e))
 have ho2:(((s.heap.update a (Obj.mapSeq λ_=>(#[]:Av))).push (seqObj "tuple" its.toArray 0)).push (seqObj "list" #[] 0)).get? a=some (seqObj "list" #[] e1):=Zc _ (Zc _ ho1);rw[list_sort_plain];refine Za (listItems_at ho rfl ?_);refine Za (listUpdate_at ho rfl ?_ (by rw[Ze];exact h64) (Nat.zero_le _));refine Za (seqEpoch_at ho1 rfl ?_);refine Za (wpAny_newTuple ?_ (by show its.length≤_;exact h64));refine Za (wpAny_newList ?_ (Nat.zero_le _));refine wpAny_holding ?_;show wpAny (model prog w) A _ P E {s with heap:=((s.heap.update a (Obj.mapSeq λ_=>(#[]:Av))).push (seqObj "tuple" its.toArray 0)).push (seqObj "list" #[] 0)};generalize((s.heap.update a (Obj.mapSeq λ_=>(#[]:Av))).push (seqObj "tuple" its.toArray 0)).push (seqObj "list" #[] 0)=h1 at*
 have fin:∀(st':SortSt) (out:Lv),(arrOf st').map (·.2)=List.toArray out→failedOf st'=none→out.length=its.length→Outs its c out→
   wpAny (model prog w) A (do
    let touched:=(←seqEpoch a) !=e1
    Builtin.List.listUpdate (.ref a) λ_=>(arrOf st').map (·.2)
    if let some e:=failedOf st' then rule "list.sort.comparison-raised";throw e
    if touched then rule "list.sort.modified";raiseError "ValueError" "list modified during sort"
    ret .none) P E {s with heap:=h1}:=by
  intro st' out hout hf hlen hO;have s2:=Heap.SameBut.update h1 a (Obj.mapSeq λ_=>List.toArray out);obtain⟨c2,hc2⟩:∃c2,(h1.update a (Obj.mapSeq λ_=>List.toArray out)).get? a=some (seqObj "list" (List.toArray out) c2):=⟨_,get?_update_seq ho2 λ_=>List.toArray out⟩;rw[hout];refine Za (seqEpoch_at ho2 rfl ?_);refine Za (listUpdate_at ho2 rfl ?_ (Nat.zero_le _) (by rw[Ze,hlen];exact Nat.le_succ_of_le h64));rw[hf];simp only[bne_self_eq_false,Zo,ZR];exact Zg (hP _ c2 out (λb o hb e=>(s2.2 b hb).trans (keep b o hb e)) hc2 hO)
 by_cases h2:2≤its.length
 ·have hn2:¬its.toArray.size<2:=by rw[Ze];omega
  rw[if_neg hn2,if_neg hn2];obtain⟨κ,o,same,hk⟩:=hk h2;obtain⟨k1,k2⟩:=hk h1 keep;refine Za (k1 _ ?_)
  have run:=run_any (E:=E) o same h2 h63 k2 (Q:=λst' s'=>s'={s with heap:=h1}∧failedOf st'=none∧∃out:Lv,(arrOf st').map (·.2)=List.toArray out∧out.length=its.length∧Outs its c out)
   (λst' p hf hout hp hs=>⟨rfl,hf,_,hout,by rw[Zw,hp.length_eq,List.length_range],p,rfl,hp,hs⟩)
  refine Za (wpAny_mono run (λr s' hr=>?_) λ_ _ e=>e);obtain⟨⟨⟩,st'⟩:=r;obtain⟨rfl,hf,out,hout,hlen,hO⟩:=hr;exact fin st' _ hout hf hlen hO
 ·have hn2:its.toArray.size<2:=by rw[Ze];omega
  rw[if_pos hn2,if_pos hn2];refine Za (Zg ?_)
  show wpAny (model prog w) A (do
    let touched:=(←seqEpoch a) !=e1
    Builtin.List.listUpdate (.ref a) λ_=>(arrOf (SortSt.mk' general' (its.toArray.zip its.toArray) #[] 7 none)).map (·.2)
    if let some e:=failedOf (SortSt.mk' general' (its.toArray.zip its.toArray) #[] 7 none)then rule "list.sort.comparison-raised";throw e
    if touched then rule "list.sort.modified";raiseError "ValueError" "list modified during sort"
    ret .none) P E {s with heap:=h1}
  refine fin _ its ?_ rfl rfl ⟨List.range its.length,?_,.refl _,?_⟩
  ·show(its.toArray.zip its.toArray).map (·.2)=its.toArray;apply Array.toList_inj.mp;rw[Array.toList_map,Array.toList_zip];exact List.map_snd_zip (Zi _)
  ·refine List.ext_getElem (by simp) λi h1 h2=>?_;simp[h1]
  ·match its,h2 with
   | [],_=>simp
   | [_],_=>simp
   |_::_::_,h2=>simp at h2
end Py
namespace Py
open PySem PySem.W PySem.Spec PyProof.Rows L2
theorem a8h'{b:Bool}{l:Addr}{c:Nat→Nat→Bool}{Q:Vs}(hl:IsSq b s.heap l its.toArray)(h63:its.length<64)
  (hk:2≤its.length→∃κ:SortKind,SOrd its.length c∧(∀i j,i<its.length→j<its.length→its.getD i Value.none=its.getD j Value.none→rankN its.length c i=rankN its.length c j)∧∀h':Heap,(∀b o,s.heap.get? b=some o→h'.get? b=some o)→
   (∀(E':Vs) (Q':SortKind→Shared→Prop),Q' κ {s with heap:=h'}→wpAny (model prog w) A.in1.in1 (keyKind' its.toArray) Q' E' {s with heap:=h'})∧
   ∀i j C,i<its.length→j<its.length→C (c i j) {s with heap:=h'}→kas_ask prog w A.in1.in1 κ its i j C {s with heap:=h'})
  (hQ:∀(h1 h':Heap) c2 out,(∀b o,s.heap.get? b=some o→h1.get? b=some o)→(∀b o,h1.get? b=some o→h'.get? b=some o)→h'.get? h1.objs.size=some (seqObj "list" (List.toArray out) c2)→Outs its c out→Q (.ref h1.objs.size) {s with heap:=h'}):
  wpAny (model prog w) A (call (.builtin "sorted") [.ref l]) Q E s:=by
 refine Calls.call_function_entry kind_sorted plain_sorted entry_sorted (args_sorted1 _) ?_;unfold Builtin.«sorted»;refine Za (m:=checkCount "sorted" 1 1 _) (Zg ?_);have h64:its.length≤sizeLine:=by rw[sizeLine_eq];omega
 have hsz:its.toArray.size≤sizeLine:=by rw[Ze];exact h64
 have go:∀h1:Heap,(∀b o,s.heap.get? b=some o→h1.get? b=some o)→wpAny (model prog w) A.in1 (do
   let l ←newList its
   let _ ←holding [l] (call (.builtin "list.sort") [l])
   ret l) (λfin s'=>∃v,fin=.done (.ret v)∧Q v s') E {s with heap:=h1}:=by
  intro h1 k1;refine Za (wpAny_newList ?_ h64);have hoL:(h1.push (seqObj "list" its.toArray 0)).get? h1.objs.size=some (seqObj "list" its.toArray 0):=Zk _ rfl;refine Za (wpAny_holding (wpAny_call_entry slot_list_sort ⟨_,hoL,rfl⟩ entry_list_sort ?body (args_list_sort _)))
  case body=>
   refine a6T' (c:=c) (s:={s with heap:=h1.push (seqObj "list" its.toArray 0)}) hoL h63 (λh2=>?_) λh' c2 out kp e O=>?_
   ·obtain⟨κ,o,same,hk⟩:=hk h2;refine⟨κ,o,same,λh' kp=>?_⟩;obtain⟨q1,q2⟩:=hk h' λb o e=>kp b o (ZA (Zj (k1 b o e))) (Zc _ (k1 b o e));exact⟨q1 _,q2⟩
   ·exact⟨_,rfl,Zg ⟨_,rfl,hQ h1 h' c2 out k1 (λb o e=>kp b o (ZA (Zj e)) (Zc _ e)) e O⟩⟩
 cases b with
 |true=>obtain⟨o,ho,hc,n,hd⟩:=hl;exact Za (wpAny_collect_seq l (.inl rfl) ho hc hd (λh1 k1=>by simpa using go h1 k1) hsz)
 |false=>obtain⟨o,ho,hc,n,hd⟩:=hl;exact Za (wpAny_collect_seq l (.inr rfl) ho hc hd (λh1 k1=>by simpa using go h1 k1) hsz)
theorem cmpK(I:Inv X pq σ H s)(sk:SOk X.K ⟨X.mg,F⟩ μ S H){t:KTy}(hs:noStr t=true)(hd:depth t≤40)(hu:A.units+40<cLine){e:D}(h1:hasTy t d=true)(h2:hasTy t e=true)
  (r1:Rep X.K ⟨X.mg,F⟩ μ H d v) (q1:RelV v u) (r2:Rep X.K ⟨X.mg,F⟩ μ H e v') (q2:RelV v' z):PySem.SeqAt.EqAt A s u z (eqK t d e)∧LtAt A s u z (ltK t d e):=by
 obtain⟨a1,a2⟩:=asK S t hs 40 hd d e h1 h2;exact⟨(rcF I sk 40 A hu d e v v' u z _ r1 q1 r2 q2 a1).2.2,ltF_at I sk 40 A hu d e v v' u z _ r1 q1 r2 q2 a2⟩
theorem a9w'{prog:Program}{w:World}{A:Around}{Q:Bool→Shared→Prop}{t:KTy}{b:Bool}(hb:b=true→t=.int):∀(ds es:List D) (us zs:Lv) (i:Nat),(∀d∈ds,hasTy t d=true)→(∀e∈es,hasTy t e=true)→ds.length=us.length→es.length=zs.length→
  (∀(j:Nat) d e u z,ds[j]?=some d→es[j]?=some e→us[j]?=some u→zs[j]?=some z→PySem.SeqAt.EqAt A s u z (eqK t d e)∧LtAt A s u z (ltK t d e)∧(t=.int→∃a b ta tb,d=.int a∧e=.int b∧u=.int a ta∧z=.int b tb))→
  Q (lexB (ltK t) ds es) s→KatLex prog w A b (decide (us.length<zs.length)) Q (us.zip zs) i s
 | [],[],us,zs,i,_,_,l1,l2,_,q=>by have e1:us=[]:=Zr l1.symm;have e2:zs=[]:=Zr l2.symm;subst e1;subst e2;exact kat_nil q
 | [],e::es,us,zs,i,_,_,l1,l2,_,q=>by
  have e1:us=[]:=Zr l1.symm;subst e1;have:decide (([]:Lv).length<zs.length)=true:=by simp at l2⊢;omega
  rw[this,List.zip_nil_left];exact kat_nil q
 |d::ds,[],us,zs,i,_,_,l1,l2,_,q=>by
  have e1:zs=[]:=Zr l2.symm;subst e1;have:decide (us.length<([]:Lv).length)=false:=by simp
  rw[this,List.zip_nil_right];exact kat_nil q
 |d::ds,e::es,[],zs,i,_,_,l1,_,_,_=>by simp at l1
 |d::ds,e::es,_::_,[],i,_,_,_,l2,_,_=>by simp at l2
 |d::ds,e::es,u::us,z::zs,i,h1,h2,l1,l2,h,q=>by
  obtain⟨k1,k2,k3⟩:=h 0 d e u z rfl rfl rfl rfl;have e0:decide ((u::us).length<(z::zs).length)=decide (us.length<zs.length):=by simp
  rw[e0,List.zip_cons_cons];refine kat_cons (k1 prog w _ _ ?_);rw[a2o']at q
  have no:∀{k:Bool},ltK t d e=k→eqK t d e=false→Q k s→KatGo prog w A b (decide (us.length<zs.length)) Q u z (us.zip zs) i false s:=λ{k} hk _ qk=>by
   clear q;refine kat_no ?_;cases hbi:(b&&i==0)with
   |false=>exact kat_one u z (k2 prog w _ _ (by rw[hk];exact qk))
   |true=>simp only[ZB]at hbi;obtain⟨a,b',ta,tb,rfl,rfl,rfl,rfl⟩:=k3 (hb hbi.1);have ht:=hb hbi.1;subst ht;exact oneLt_int (by rw[show decide (a<b')=k from hk];exact qk)
  cases e1:ltK t d e with
  |true=>
   have ee:eqK t d e=false:=by simp[eqK,e1]
   rw[e1]at q;rw[ee];exact no e1 ee (by simpa using q)
  |false=>
   cases e2:ltK t e d with
   |true=>
    have ee:eqK t d e=false:=by simp[eqK,e1,e2]
    rw[e1,e2]at q;rw[ee];exact no e1 ee (by simpa using q)
   |false=>
    have ee:eqK t d e=true:=by simp[eqK,e1,e2]
    rw[e1,e2]at q;rw[ee];refine kat_yes (a9w' hb ds es us zs (i+1) (λx hx=>h1 x (Zb _ hx)) (λx hx=>h2 x (Zb _ hx)) (by simpa using l1) (by simpa using l2) (λj d' e' u' z' a1 a2 a3 a4=>h (j+1) d' e' u' z' a1 a2 a3 a4) (by simpa using q))
end Py
namespace Py
open PySem PySem.W PySem.Spec PyProof.Rows L2
theorem a7G'{α β:Type}{M:Model}{f:α→Sem β}{g:α→β}:∀(l:List α) {Q:List β→Shared→Prop},(∀v∈l,∀(Q':β→Shared→Prop),Q' (g v) s→wpAny M A (f v) Q' E s)→Q (l.map g) s→wpAny M A (l.mapM f) Q E s
 | [],_,_,h=>by rw[List.mapM_nil];exact Zg h
 |x::l,Q,hf,h=>by rw[List.mapM_cons];exact Za (hf x (.head _) _ (Za (a7G' l (Q:=λbs s'=>wpAny M A (pure (g x::bs)) Q E s') (λv hv=>hf v (.tail _ hv)) (Zg h))))
theorem one_tup{l b:Addr}{vs ws:Lv}{k:Bool}{Q:Bool→Shared→Prop}(hl:s.heap.IsTuple l vs.toArray)(hb:s.heap.IsTuple b ws.toArray)(hu:A.units<cLine)(hx:LexAt A.in1 s vs ws k)(h:Q k s):wpAny (model prog w) A (oneLt' true (.ref l) (.ref b)) Q E s:=by obtain⟨⟨cls,dd,data,sl⟩,ho,hc,n,hd⟩:=id hl;obtain⟨⟨cls2,dd2,data2,sl2⟩,ho2,hc2,n2,hd2⟩:=id hb;simp only at hc hd hc2 hd2;subst hc hd hc2 hd2;rw[oneLt'_eq];simp only[if_true];refine Za (wpAny_cRoomFor hu ?_);refine Za (wpAny_callSpecialIfBound?_slot ⟨_,ho,rfl⟩ PySem.F.slot_tuple_lt (call_meets PySem.F.slot_tuple_lt ⟨_,ho,rfl⟩ PySem.F.entry_tuple_lt (PySem.F.args_tuple_lt_2 _ _) (a5Q' l b vs.toArray ws.toArray n n2 dd dd2 sl sl2 k) ⟨ho,ho2,by simpa using hx,?_⟩));exact ZX h
end Py
namespace Py
open PySem PySem.W PySem.Spec PyProof.Rows L2
def tyOf:KTy→String
 | .int=>"int"
 |_=>"tuple"
theorem looksK(I:Inv X pq σ H s){t:KTy}(hs:noStr t=true)(h:hasTy t d=true)(r:Rep X.K ⟨X.mg,F⟩ μ H d v)(q:RelV v u):Looks (model X.prog X.w) s.heap (typeOf u) (.type (tyOf t)):=by
 have tup:∀xs,d=.tup xs→Looks (model X.prog X.w) s.heap (typeOf u) (.type "tuple"):=by
  rintro xs rfl;obtain⟨a,vs,rfl,hq,_⟩:=a0C' r;cases q;obtain⟨its,_,p,_⟩:=I.tuple hq;obtain⟨o,ho,hc,_⟩:=p;have:=(show Looks (model X.prog X.w) s.heap (typeOf (.ref a)) o.cls from(Looks.ld ho).andThen .now)
  rwa [hc]at this
 cases t with
 |int=>obtain⟨i,rfl⟩:=a2M' h;cases a0c' r;obtain⟨tk,rfl⟩:=q;exact(show Looks (model X.prog X.w) s.heap (typeOf (.int i tk)) (.type "int")from .now)
 |seq t=>obtain⟨xs,rfl,_⟩:=a1X' h;exact tup xs rfl
theorem a6e'(I:Inv X pq σ H s){t:KTy}(hs:noStr t=true):∀(ys:List D) (vs:List V) (its:Lv),(∀d∈ys,hasTy (.seq t) d=true∧d≠.tup [])→RepL X.K ⟨X.mg,F⟩ μ H ys vs→Vals vs its→
  ∃fs,KatTups s.heap its fs∧fs.length=its.length∧∀f∈fs,Looks (model X.prog X.w) s.heap (typeOf f) (.type (tyOf t))
 | [],vs,its,_,r,q=>by unfold RepL at r;subst r;cases q;exact⟨[],KatTups.nil,rfl,λ_ h=>nomatch h⟩
 |d::ys,vs,its,h,r,q=>by
  obtain⟨v,ws,rfl,rd,rr⟩:=r.uncons;cases q with
  |cons q1 q2=>
   rename_i u its';obtain⟨fs,k1,k2,k3⟩:=a6e' I hs ys ws its' (λe he=>h e (Zb _ he)) rr q2;obtain⟨h1,h2⟩:=h d Zd;obtain⟨xs,rfl,hx⟩:=a1X' h1;cases xs with
   |nil=>exact absurd rfl h2
   |cons x xs=>
    obtain⟨a,as,rfl,hq,ra⟩:=a0C' rd;cases q1;obtain⟨us,ru,p,_⟩:=I.tuple hq;obtain⟨w,ws',rfl,rx,_⟩:=ra.uncons;cases ru with
    |cons p1 p2=>
     rename_i f us';obtain⟨o,ho,hc,n,hd⟩:=p;refine⟨f::fs,KatTups.cons ho hc hd (by simp) k1,by simp[k2],λg hg=>?_⟩;rcases Zm.mp hg with rfl|hg
     ·exact looksK I hs (hx x Zd) rx p1
     ·exact k3 g hg
theorem askK(I:Inv X pq σ H s)(sk:SOk X.K ⟨X.mg,F⟩ μ S H){t:KTy}(hs:noStr t=true)(hd:depth t≤40)(hu:A.units+42<cLine){e:D}(h1:hasTy (.seq t) d=true)(h2:hasTy (.seq t) e=true)
  (r1:Rep X.K ⟨X.mg,F⟩ μ H d v) (q1:RelV v u) (r2:Rep X.K ⟨X.mg,F⟩ μ H e v') (q2:RelV v' z)   (hC:C (ltK (.seq t) d e) s):wpAny (model X.prog X.w) A (keyLt' (tuples' (Value.type (tyOf t) !=Value.type "tuple")) u z) C E s:=by
 obtain⟨xs,rfl,hx⟩:=a1X' h1;obtain⟨ys,rfl,hy⟩:=a1X' h2;obtain⟨a,as,rfl,ha,ra⟩:=a0C' r1;obtain⟨b,bs,rfl,hb,rb⟩:=a0C' r2;cases q1;cases q2;obtain⟨us,ru,pa,_⟩:=I.tuple ha;obtain⟨zs,rz,pb,_⟩:=I.tuple hb;obtain⟨oa,ea,_,na,da⟩:=pa;obtain⟨ob,eb,_,nb,db⟩:=pb;refine kat_lt ea da eb db ?_;have l1:xs.length=us.length:=by rw[ra.length,ru.length]
 have l2:ys.length=zs.length:=by rw[rb.length,rz.length]
 have:=a9w' (prog:=X.prog) (w:=X.w) (A:=A) (s:=s) (Q:=C) (t:=t) (b:=(Value.type (tyOf t) !=Value.type "tuple")) (λhb=>?_) xs ys us zs 0 hx hy l1 l2 (λj d e u z g1 g2 g3 g4=>?_) hC
 ·simpa using this
 ·cases t with
  |int=>rfl
  |seq t=>exact absurd hb (by show ¬((Value.type "tuple" !=Value.type "tuple")=true);decide)
 ·obtain⟨w1,e1,k1⟩:=ra.get g1;obtain⟨w2,e2,k2⟩:=rb.get g2;obtain⟨u',e3,k3⟩:=ru.get e1;obtain⟨z',e4,k4⟩:=rz.get e2;rw[g3]at e3;cases e3;rw[g4]at e4;cases e4;obtain⟨c1,c2⟩:=cmpK I sk hs hd (A:=A) (by omega) (hx d (Zn g1)) (hy e (Zn g2)) k1 k3 k2 k4;refine⟨c1,c2,λht=>?_⟩;subst ht;obtain⟨i,rfl⟩:=a2M' (hx d (Zn g1));obtain⟨j,rfl⟩:=a2M' (hy e (Zn g2));cases a0c' k1;cases a0c' k2;obtain⟨ta,rfl⟩:=k3;obtain⟨tb,rfl⟩:=k4;exact⟨i,j,ta,tb,rfl,rfl,rfl,rfl⟩
theorem b1K'{A:Around}{t:KTy}(hs:noStr t=true):∀(ds es:List D) (us zs:Lv),(∀d∈ds,hasTy t d=true)→(∀e∈es,hasTy t e=true)→ds.length=us.length→es.length=zs.length→(∀(j:Nat) d e u z,ds[j]?=some d→es[j]?=some e→us[j]?=some u→zs[j]?=some z→PySem.SeqAt.EqAt A s u z (eqK t d e)∧LtAt A s u z (ltK t d e))→LexAt A s us zs (lexB (ltK t) ds es)
 | [],[],us,zs,_,_,l1,l2,_=>by cases Zr l1.symm;cases Zr l2.symm;exact .nn
 | [],e::es,us,zs,_,_,l1,l2,_=>by
  cases Zr l1.symm;cases zs with
  |nil=>cases l2
  |cons z zs=>exact .nc
 |d::ds,[],us,zs,_,_,l1,l2,_=>by
  cases Zr l2.symm;cases us with
  |nil=>cases l1
  |cons u us=>exact .cn
 |d::ds,e::es,us,zs,h1,h2,l1,l2,hc=>by
  cases us with
  |nil=>cases l1
  |cons u us=>
   cases zs with
   |nil=>cases l2
   |cons z zs=>
    have t1:=h1 d Zd;have t2:=h2 e Zd;obtain⟨c1,c2⟩:=hc 0 d e u z rfl rfl rfl rfl;have lo:=lordK t hs;cases ek:eqK t d e with
    |true=>rw[ek]at c1;have hde:=a9v' hs t1 t2 ek;subst hde;rw[a2o',lo.irr d t1];exact .eq c1 (b1K' hs ds es us zs (λx hx=>h1 x (Zb _ hx)) (λx hx=>h2 x (Zb _ hx)) (Nat.succ.inj l1) (Nat.succ.inj l2) λj d e u z g1 g2 g3 g4=>hc (j+1) d e u z g1 g2 g3 g4)
    |false=>
     rw[ek]at c1
     have:lexB (ltK t) (d::ds) (e::es)=ltK t d e:=by
      rw[a2o'];cases l:ltK t d e with
      |true=>rfl
      |false=>
       cases l':ltK t e d with
       |true=>rfl
       |false=>unfold eqK at ek;rw[l,l']at ek;cases ek
     rw[this];exact .lt c1 c2
theorem askK0(I:Inv X pq σ H s)(sk:SOk X.K ⟨X.mg,F⟩ μ S H){t:KTy}(hs:noStr t=true)(hd:depth t≤40)(hu:A.units+42<cLine){e:D}(h1:hasTy (.seq t) d=true)(h2:hasTy (.seq t) e=true)
  (r1:Rep X.K ⟨X.mg,F⟩ μ H d v) (q1:RelV v u) (r2:Rep X.K ⟨X.mg,F⟩ μ H e v') (q2:RelV v' z)   (hC:C (ltK (.seq t) d e) s):wpAny (model X.prog X.w) A (keyLt' oneType' u z) C E s:=by
 obtain⟨xs,rfl,hx⟩:=a1X' h1;obtain⟨ys,rfl,hy⟩:=a1X' h2;obtain⟨a,as,rfl,ha,ra⟩:=a0C' r1;obtain⟨b,bs,rfl,hb,rb⟩:=a0C' r2;cases q1;cases q2;obtain⟨us,ru,pa,_⟩:=I.tuple ha;obtain⟨zs,rz,pb,_⟩:=I.tuple hb;have l1:xs.length=us.length:=by rw[ra.length,ru.length]
 have l2:ys.length=zs.length:=by rw[rb.length,rz.length]
 rw[keyLt'_oneType];refine one_tup pa pb (by omega) (b1K' hs xs ys us zs hx hy l1 l2 λj d e u z g1 g2 g3 g4=>?_) hC;obtain⟨w1,e1,k1⟩:=ra.get g1;obtain⟨w2,e2,k2⟩:=rb.get g2;obtain⟨u',e3,k3⟩:=ru.get e1;obtain⟨z',e4,k4⟩:=rz.get e2;rw[g3]at e3;cases e3;rw[g4]at e4;cases e4;exact cmpK I sk hs hd (A:=A.in1) (by show A.units+1+40<cLine;omega) (hx d (Zn g1)) (hy e (Zn g2)) k1 k3 k2 k4
theorem kind0(I:Inv X pq σ H s){t:KTy}{ys:List D}{vs:List V}(h2:2≤its.length)(hty:∀y∈ys,hasTy (.seq t) y=true)(h0:isNil (ys.headD .non)=true)(rr:RepL X.K ⟨X.mg,F⟩ μ H ys vs)(hv:Vals vs its){Q:SortKind→Shared→Prop}(q:Q oneType' s):wpAny (model X.prog X.w) A (keyKind' its.toArray) Q E s:=by
 have tups:∀(i:Nat) (u:Value),its[i]?=some u→∃a us,u=.ref a∧IsTup s.heap a (List.toArray us)∧(i=0→us=[]):=λi u hi=>by
  have hi':i<its.length:=(Zf.mp hi).1;have hiy:i<ys.length:=by rw[rr.length,hv.length];exact hi'
  have e1:ys[i]?=some ys[i]:=Zh hiy;obtain⟨v,e2,k⟩:=rr.get e1;obtain⟨u',e3,k2⟩:=hv.get e2;rw[hi]at e3;cases e3;obtain⟨xs,ex,_⟩:=a1X' (hty _ (List.getElem_mem hiy));rw[ex]at k;obtain⟨a,as,rfl,ha,ra⟩:=a0C' k;cases k2;obtain⟨us,ru,pa,_⟩:=I.tuple ha;refine⟨a,us,rfl,pa,λz=>?_⟩;subst z
  have:ys.headD .non=.tup xs:=by
   cases ys with
   |nil=>cases e1
   |cons y ys=>exact ex
  rw[this]at h0;cases xs with
  |nil=>have:=ra.length;rw[ru.length]at this;exact Zr this.symm
  |cons _ _=>cases h0
 have look:∀u∈its,Looks (model X.prog X.w) s.heap (typeOf u) (.type "tuple"):=λu hu=>by
  obtain⟨i,hi,rfl⟩:=List.mem_iff_getElem.mp hu;obtain⟨a,us,e,p,_⟩:=tups i _ (Zh hi);rw[e];obtain⟨o,ho,hc,_⟩:=p;have:=(show Looks (model X.prog X.w) s.heap (typeOf (.ref a)) o.cls from(Looks.ld ho).andThen .now)
  rwa [hc]at this
 cases its with
 |nil=>simp at h2
 |cons u0 its=>
 obtain⟨a0,us0,rfl,p0,z0⟩:=tups 0 u0 rfl;cases z0 rfl
 have fo:∀u∈Value.ref a0::its,∃o,(∀(Q':Ov→Shared→Prop),Q' o s→wpAny (model X.prog X.w) A (firstOfTuple' u) Q' E s)∧(u=.ref a0→o=none):=λu hu=>by
  obtain⟨i,hi,rfl⟩:=List.mem_iff_getElem.mp hu;obtain⟨a,us,e,p,_⟩:=tups i _ (Zh hi);have pp:=id p;obtain⟨o,ho,hc,n,hd⟩:=p;refine⟨us[0]?,λQ' hq=>?_,λz=>?_⟩
  ·rw[e,kas_first_eq];refine Za (Looks.here (show Looks (model X.prog X.w) s.heap (typeOf (.ref a)) o.cls from(Looks.ld ho).andThen .now) ?_);rw[hc,if_neg (by first|decide|simp)];refine Za (listItems_at ho hd (Zg ?_));simpa using hq
  ·rw[e]at z;cases z;obtain⟨o',ho',hc',n',hd'⟩:=p0;rw[ho]at ho';cases ho';rw[hd]at hd';cases hd';rfl
 have fo':∀u∈Value.ref a0::its,∀(Q':Ov→Shared→Prop),Q' (open Classical in if h:u∈Value.ref a0::its then(fo u h).choose else none) s→wpAny (model X.prog X.w) A (firstOfTuple' u) Q' E s:=λu hu Q' hq=>by rw[dif_pos hu]at hq;exact(fo u hu).choose_spec.1 Q' hq
 have g0:(open Classical in if h:Value.ref a0∈Value.ref a0::its then(fo _ h).choose else none)=none:=by rw[dif_pos Zd];exact(fo _ Zd).choose_spec.2 rfl
 rw[keyKind'_eq,List.mapM_toArray,map_eq_pure_bind];refine Za (Za (a7G' _ fo' (Zg ?_)));rw[ZK,g0,if_neg (by simp),if_neg (by simp),oneTypeOnly'_eq,List.mapM_toArray,map_eq_pure_bind];refine Za (Za (Za (kas_mapM (r:=.type "tuple") _ (λv hv Q' hq=>(look v hv).here hq) (Zg ?_))));have hall:((List.map (λ_=>Value.type "tuple") (Value.ref a0::its)).toArray.all λx=>x==Value.type "tuple")=true:=by simp only[List.all_toArray,List.all_map,ZD];intro _ _;exact beq_self_eq_true _
 have h0:(List.map (λ_=>Value.type "tuple") (Value.ref a0::its)).toArray[0]?=some (Value.type "tuple"):=by simp
 rw[h0];simp only[hall,if_true];exact Zg (Zg q)
theorem b2R'(hu:X.A.units+64<cLine)(box:Bool)(t:KTy)(hdt:depth t≤40):CallR X (.builtin "sorted") (rC X.K X.mg (a3y' box t)):=by
 intro pq s σ H xs us Q I r h;obtain⟨F,μ,S,ds,sk,rl,w⟩:=h;unfold a3y' at w;split at w
 ·rename_i d;obtain⟨v,rfl,rd⟩:=rl.one;obtain⟨u,rfl,ru⟩:=vals1 r;split at w
  ·rename_i ys e;split at w
   ·rename_i hc;obtain⟨hty,h64,hso⟩:=hc;have hty':∀y∈ys,hasTy t y=true:=λy hy=>ZD.mp hty y hy;obtain⟨a,vs,rfl,hq,rr⟩:=a3T' sk rd e;cases ru
    obtain⟨b,its,hl,hv⟩:∃b its,IsSq b s.heap a (List.toArray its)∧Vals vs its:=by
     rcases hq with hq|hq
     ·obtain⟨its,r',p,_⟩:=I.list hq;exact⟨true,its,p.isList,r'⟩
     ·obtain⟨its,r',p,_⟩:=I.tuple hq;exact⟨false,its,p,r'⟩
    have l1:ys.length=vs.length:=rr.length;have l2:vs.length=its.length:=hv.length
    have hs:noStr t=true:=by
     cases t with
     |int=>rfl
     |seq t=>unfold a5o' at hso;simp only[ZB]at hso;exact hso.1
    have lo:=lordK t hs;have at_:∀i,i<its.length→∃d v u,ys[i]?=some d∧vs[i]?=some v∧its[i]?=some u∧hasTy t d=true∧Rep X.K ⟨X.mg,F⟩ μ H d v∧RelV v u∧ys.getD i .non=d∧its.getD i Value.none=u:=λi hi=>by have e1:ys[i]?=some ys[i]:=Zh (by omega);obtain⟨v,e2,k⟩:=rr.get e1;obtain⟨u,e3,k2⟩:=hv.get e2;exact⟨_,v,u,e1,e2,e3,hty' _ (List.getElem_mem _),k,k2,by simp[List.getD,e1],by simp[List.getD,e3]⟩
    have ord:SOrd its.length (λi j=>ltK t (ys.getD i .non) (ys.getD j .non)):=by
     have ty:∀i,i<its.length→hasTy t (ys.getD i .non)=true:=λi hi=>by obtain⟨d,v,u,e1,e2,e3,k1,k2,k3,k4,k5⟩:=at_ i hi;rw[k4];exact k1
     exact⟨λi hi=>lo.irr _ (ty i hi),λi j hi hj=>lo.asym _ _ (ty i hi) (ty j hj),λi j k hi hj hk=>lo.ntr _ _ _ (ty i hi) (ty j hj) (ty k hk)⟩
    have same:∀i j,i<its.length→j<its.length→its.getD i Value.none=its.getD j Value.none→rankN its.length (λi j=>ltK t (ys.getD i .non) (ys.getD j .non)) i=rankN its.length (λi j=>ltK t (ys.getD i .non) (ys.getD j .non)) j:=λi j hi hj hij=>by obtain⟨d,v,u,e1,e2,e3,g1,g2,g3,g4,g5⟩:=at_ i hi;obtain⟨d',v',u',e1',e2',e3',g1',g2',g3',g4',g5'⟩:=at_ j hj;rw[g5,g5']at hij;subst hij;have ev:v=v':=g3.inj g3';subst ev;have:=b1w' I sk 40 d d' v _ g2 g2' (asK S t hs 40 hdt d d' g1 g1').1;have hde:=a9v' hs g1 g1' this;subst hde;unfold rankN;simp only[g4,g4']
    refine a8h' (c:=λi j=>ltK t (ys.getD i .non) (ys.getD j .non)) hl (by omega) (λh2=>?_) λh1 h' c2 out k1 k2 eo O=>?_
    ·have hu2:(X.A.in1.in1).units+42<cLine:=by
      show X.A.units+1+1+42<cLine;omega
     cases t with
     |int=>
      refine⟨oneType',ord,same,λh' kp=>⟨λE' Q' q=>?_,λi j C hi hj hC=>?_⟩⟩
      ·have I':Inv X pq σ H {s with heap:=h'}:=I.kept (t':=s.toks) kp;refine kas_kind (T:=.type "int") h2 (λu hu=>?_) (by decide) (by decide) q;obtain⟨i,hi,rfl⟩:=List.mem_iff_getElem.mp hu;obtain⟨d,v,u,e1,e2,e3,g1,g2,g3,g4,g5⟩:=at_ i hi;rw[Zh hi]at e3;cases e3;exact looksK (t:=.int) I' rfl g1 g2 g3
      ·obtain⟨d,v,u,e1,e2,e3,g1,g2,g3,g4,g5⟩:=at_ i hi;obtain⟨d',v',u',e1',e2',e3',g1',g2',g3',g4',g5'⟩:=at_ j hj;unfold kas_ask;rw[g5,g5'];rw[g4,g4']at hC;obtain⟨x,rfl⟩:=a2M' g1;obtain⟨y,rfl⟩:=a2M' g1';cases a0c' g2;cases a0c' g2';obtain⟨ta,rfl⟩:=g3;obtain⟨tb,rfl⟩:=g3';exact kat_lt_int hC
     |seq t=>
      unfold a5o' at hso;have hso2:=(Bool.and_eq_true_iff.mp hso).2;rcases Bool.or_eq_true_iff.mp hso2 with hso3|hso3
      rotate_left
      ·refine⟨oneType',ord,same,λh' kp=>⟨λE' Q' q=>?_,λi j C hi hj hC=>?_⟩⟩
       ·have I':Inv X pq σ H {s with heap:=h'}:=I.kept (t':=s.toks) kp;exact kind0 I' h2 hty' hso3 rr hv q
       ·have I':Inv X pq σ H {s with heap:=h'}:=I.kept (t':=s.toks) kp;obtain⟨d,v,u,e1,e2,e3,g1,g2,g3,g4,g5⟩:=at_ i hi;obtain⟨d',v',u',e1',e2',e3',g1',g2',g3',g4',g5'⟩:=at_ j hj;unfold kas_ask;rw[g5,g5'];rw[g4,g4']at hC;exact askK0 (t:=t) I' sk hs (by simp[depth]at hdt;omega) hu2 g1 g1' g2 g3 g2' g3' hC
      have hne:∀y∈ys,hasTy (.seq t) y=true∧y≠.tup []:=λy hy=>⟨hty' y hy,λz=>by have:=ZD.mp hso3 y hy;rw[z]at this;cases this⟩;refine⟨tuples' (Value.type (tyOf t) !=Value.type "tuple"),ord,same,λh' kp=>⟨λE' Q' q=>?_,λi j C hi hj hC=>?_⟩⟩
      ·have I':Inv X pq σ H {s with heap:=h'}:=I.kept (t':=s.toks) kp;obtain⟨fs,f1,f2,f3⟩:=a6e' (t:=t) I' hs ys vs its hne rr hv;exact kat_kind (T:=.type (tyOf t)) f1 (by omega) f3 (by simp) q
      ·have I':Inv X pq σ H {s with heap:=h'}:=I.kept (t':=s.toks) kp;obtain⟨d,v,u,e1,e2,e3,g1,g2,g3,g4,g5⟩:=at_ i hi;obtain⟨d',v',u',e1',e2',e3',g1',g2',g3',g4',g5'⟩:=at_ j hj;unfold kas_ask;rw[g5,g5'];rw[g4,g4']at hC;exact askK (t:=t) I' sk hs (by simp[depth]at hdt;omega) hu2 g1 g1' g2 g3 g2' g3' hC
    ·obtain⟨p,rfl,pp,pw⟩:=O;have hp:∀i∈p,i<its.length:=λi hi=>by simpa using pp.mem_iff.mp hi
     have hlen:p.length=its.length:=by rw[pp.length_eq];simp
     have fin:RepL X.K ⟨X.mg,F⟩ μ H (p.map λi=>ys.getD i .non) (p.map λi=>vs.getD i .non):=RepL.of (by simp) λj d v h1 h2=>by
      rw[ZP]at h1 h2;cases ej:p[j]? with
      |none=>rw[ej]at h1;cases h1
      |some i=>
       rw[ej]at h1 h2;obtain⟨d',v',u',e1',e2',e3',g1',g2',g3',g4',g5'⟩:=at_ i (hp i (Zn ej));cases h1;cases h2;show Rep X.K ⟨X.mg,F⟩ μ H (ys.getD i .non) (vs.getD i .non);rw[g4'];have:vs.getD i .non=v':=by simp[List.getD,e2']
       rw[this];exact g2'
     have fin2:Vals (p.map λi=>vs.getD i .non) (p.map λi=>its.getD i Value.none):=by
      have:∀(l:List Nat),(∀i∈l,i<its.length)→Vals (l.map λi=>vs.getD i .non) (l.map λi=>its.getD i Value.none):=by
       intro l
       induction l with
       |nil=>exact λ_=>.nil
       |cons i l ih=>
        intro h;obtain⟨d',v',u',e1',e2',e3',g1',g2',g3',g4',g5'⟩:=at_ i (h i Zd);refine .cons ?_ (ih λj hj=>h j (Zb _ hj));have:vs.getD i .non=v':=by simp[List.getD,e2']
        show RelV (vs.getD i .non) (its.getD i Value.none);rw[this,g5'];exact g3'
      exact this p hp
     have srt:(p.map λi=>ys.getD i .non)=a5n' (ltK t) ys:=by
      refine a6S' hs hty' ?_ ?_
      ·have:=pp.map λi=>ys.getD i .non;refine this.trans (.of_eq ?_);refine List.ext_getElem (by simp;omega) λi h1 h2=>?_;simp[h2]
      ·rw[List.pairwise_map];exact pw
     rw[←srt]at w;have I1:Inv X pq σ H {s with heap:=h1}:=I.kept (t':=s.toks) k1;have I2:Inv X pq σ (upd H h1.objs.size (.lst (p.map λi=>vs.getD i .non))) {s with heap:=h'}:=I1.laid (t':=s.toks) k2 (Zi _) ⟨by rw[Zw,hlen,sizeLine_eq];omega,_,c2,fin2,eo⟩;have hfr:H h1.objs.size=none:=I1.hok.fresh (Zi _);refine⟨.ref h1.objs.size,_,I2,rfl,?_⟩;cases box with
     |true=>exact Want.box w sk fin _ hfr
     |false=>exact Want.lst w sk fin _ hfr
   ·exact w.elim
  ·exact w.elim
 ·exact w.elim
end Py
namespace Py
section
variable {E:XK}
theorem blt_ok(O:XOk X cell N sc CX E Φ Γ k)(b:Blt)(hb:bltB b=true):CallR X (bltIs b) (rC X.K X.mg (bltD b)):=by
 cases b with
 |len=>exact len_D
 |tuple=>exact tuple_D
 |list box=>exact list_D box
 |int=>exact int_D
 |min=>exact b2x' O.calm rfl
 |max=>exact max_any O.calm
 |isinst=>exact b2r'
 |all=>exact all_D O.calm
 |any=>exact any_D O.calm
 |sum=>cases hb
 |repr=>cases hb
 |abs=>cases hb
 |sorted box t=>exact b2R' O.room.units box t (by unfold bltB at hb;simpa using hb)
theorem a3m':∀{l:Ls},a8c' l=true→l.Nodup
 | [],_=>List.nodup_nil
 |x::r,h=>by unfold a8c' at h;simp only[ZB,Bool.not_eq_true',List.contains_eq_mem,decide_eq_false_iff_not]at h;exact List.nodup_cons.mpr ⟨h.1,a3m' h.2⟩
theorem a9x'(O:XOk X cell N sc CX E Φ Γ k)(h:scB scope sc=true):CScope X scope:=by
 unfold scB at h;simp only[ZB,beq_iff_eq]at h;obtain⟨h1,h2⟩:=h;have key:∀y∈scope.names,((y.2 !=NameKind.cell||scope.names.lookup y.1==some .cell)&&(y.2 !=.local||scope.names.lookup y.1==some .local)&&(y.2 !=.free||(sc.lookup y.1==some .cell||sc.lookup y.1==some .free)))=true:=λy hy=>ZD.mp h2 y hy;refine⟨h1,λy hy z=>?_,λy hy z=>?_,λy hy z=>?_⟩
 ·have:=key y hy;rw[z]at this;simp at this;exact this
 ·have:=key y hy;rw[z]at this;simp at this;exact this
 ·have:=key y hy;rw[z]at this;simp at this;show X.env.scope.names.lookup y.1=_∨X.env.scope.names.lookup y.1=_;rw[O.sc];exact this
theorem a9y'(O:XOk X cell N sc CX E Φ Γ k)(h:frB scope.names N' N fr=true):CsOk X scope N' (csOf fr):=by
 unfold frB at h;simp only[ZB,beq_iff_eq]at h;obtain⟨h1,h2⟩:=h;intro σ hl;refine⟨by simp[csOf,h1],λi v x hx hv=>?_⟩;have hi:i<N'.length:=(Zf.mp hx).1;have:=ZD.mp h2 i (List.mem_range.mpr hi);unfold csOf at hv;rw[ZP]at hv;cases e:fr[i]? with
 |none=>rw[e]at hv;cases hv
 |some o=>
  rw[e]at hv;cases o with
  |none=>cases hv
  |some j=>
   rw[e]at this;simp only[hx,ZB,beq_iff_eq]at this;have hv':(σ[j]?).join=some v:=ZL hv;refine⟨this.1,j,by rw[O.n];exact this.2,?_⟩;cases e2:σ[j]? with
   |none=>rw[e2]at hv';cases hv'
   |some o=>rw[e2]at hv';have e3:o=some v:=hv';rw[e3]
theorem relB_eq(O:XOk X cell N sc CX E Φ Γ k):(relabel scope X.env).names=relB scope.names sc:=by
 unfold relabel relB;show scope.names.map _=scope.names.map _;congr 1;funext p;obtain⟨n,kd⟩:=p;have e1:X.env.kindOf n=sc.lookup n:=by show X.env.scope.names.lookup n=_;rw[O.sc]
 simp only[e1,O.kd,beq_self_eq_true,Bool.and_true]
theorem a9z'(O:XOk X cell N sc CX E Φ Γ k)(hs:scope.kind=.function)(hn:a8c' N'=true)(C:Addr)(s0:Shared)(H0:Hp)(fp:La):XOk (cxC X scope N' C s0 H0 fp) (ownB scope.names) N' (relB scope.names sc) CX E0 Φ Γ k where
 n:=rfl
 nd:=a3m' hn
 sc:=relB_eq O
 kd:=hs
 calm:=O.calm
 room:=O.room
 fn:=λx z=>z
 mod:=O.mod
 pass:=λ_ _ _ _ _ _ _ z=>O.cx0 _ _ _ _ _ z
 cx0:=O.cx0
theorem a2p'{i:Expr}(h:b0E' i=true):∀x,foldedSetIterable i env x=pure x:=by intro x;cases i<;>first|rfl|cases h
theorem t_val{e:Expr}{c:CE}(ha:PE X e (tE X.K X.mg E Φ Γ c))(he:∀whole,isTrue e X.env whole=(do let v ←whole;standAt e.pos;holding [v] (truthy v))){σ:L2.St}:
  PT X e (λσ H Q=>∃F μ ρ S,SOk X.K ⟨X.mg,F⟩ μ S H∧EnvR X.K ⟨X.mg,F⟩ μ H ρ σ∧WantG X.K ⟨X.mg,F⟩ E (λ_ _ a b=>a=b) μ H Q ((den Φ Γ c ρ S).bind λd S1=>match truD S1 d with|some k=>.ok k S1|none=>.fail)):=
 weakT (b2f' ha he) λσ H Q zz=>ex43 zz λF μ ρ S sk en w=>⟨F,μ,ρ,S,sk,en,(WantG.bind w).mono λv H1 zz=>ex34 zz λμ1 S1 d x1 s1 r1 w1=>by obtain⟨k,e,w2⟩:=a9a' w1;exact⟨k,tru_D s1 r1 e,w2 μ1 H1 k .refl s1 rfl⟩⟩
theorem s_sumL(O:XOk X cell N sc CX E Φ Γ k){z:Expr}{a:CE}(h1:gloB sc "sum"=true)(hn:a0M' z=true)(ha:PE X z (tE X.K X.mg E Φ Γ a)):PE X (.Call (.Name "sum" p1) [z] [⟨some "start",.List [] p2,p3⟩] p4) (tE X.K X.mg E Φ Γ (.sumL a)):=
 weakE (pe_sumL O.calm (O.gl (a0H' h1).1) (O.mod.bl _ (by decide+kernel)) hn ha) λσ H Q zz=>ex43 zz λF μ ρ S sk en w=>
  ⟨F,μ,ρ,S,sk,en,(WantG.bind w).mono λv H1 zz=>ex34 zz λμ1 S1 d x1 s1 r1 w1=>cat_D s1 r1 (a1z' w1)⟩
theorem rng_D{vs:List V}{Q:VK}{tup box:Bool}(sk:SOk K ⟨mg,F⟩ μ S H)(r:RepL K ⟨mg,F⟩ μ H ds vs)(w:Want K ⟨mg,F⟩ μ H Q (rngD tup box ds S)):rRng tup vs H Q:=by
 have rl:∀(n:Nat) (lo:Int),RepL K ⟨mg,F⟩ μ H (a1G' lo n) (rngV lo n):=by
  intro n
  induction n with
  |zero=>intro lo;exact .nil
  |succ n ih=>intro lo;unfold a1G' rngV;exact .cons a1m' (ih _)
 have key:∀i j,(vs=[.int j]∧i=0∨vs=[.int i,.int j])→Want K ⟨mg,F⟩ μ H Q (rngR tup box i j S)→rRng tup vs H Q:=by
  intro i j hv w;unfold rngR at w;split at w
  ·rename_i hc;obtain⟨⟨h1,h2,h3,h4⟩,h5⟩:=hc;refine⟨i,j,hv,h1,h2,h3,h4,h5,λp hp=>?_⟩;cases tup with
   |true=>exact Want.tup (by simpa using w) sk (rl _ _) p hp
   |false=>
    cases box with
    |true=>exact Want.box (by simpa using w) sk (rl _ _) p hp
    |false=>exact Want.lst (by simpa using w) sk (rl _ _) p hp
  ·exact w.elim
 unfold rngD at w;split at w
 ·obtain⟨v,rfl,hv⟩:=r.one;cases a0c' hv;exact key 0 _ (.inl ⟨rfl,rfl⟩) w
 ·obtain⟨v,v',rfl,hv,hv'⟩:=r.two;cases a0c' hv;cases a0c' hv';exact key _ _ (.inr rfl) w
 ·exact w.elim
theorem s_rng(O:XOk X cell N sc CX E Φ Γ k){xs:Lx}{es:List CE}(tup box:Bool)(h1:gloB sc (if tup=true then("tuple":Str)else("list":Str))=true)(h2:gloB sc "range"=true)(hne:xs≠[])(hst:∀x∈xs,a0M' x=true)(ha:PA X xs (tL X.K X.mg E Φ Γ es)):
  PE X (.Call (.Name (if tup=true then("tuple":Str)else("list":Str)) p1) [.Call (.Name "range" p2) xs [] p3] [] p4) (tE X.K X.mg E Φ Γ (.rng tup box es)):=by
 have key:PE X (.Call (.Name (if tup=true then("tuple":Str)else("list":Str)) p1) [.Call (.Name "range" p2) xs [] p3] [] p4) (λσ H Q=>tL X.K X.mg E Φ Γ es σ H λvs H1=>rRng tup vs H1 Q):=by
  cases tup with
  |true=>exact a5Z' (T:="tuple") true rfl O.calm (O.gl (a0H' h1).1) (O.gl (a0H' h2).1) (O.mod.bl _ (by decide+kernel)) (O.mod.bl _ (by decide+kernel)) hne hst ha
  |false=>exact a5Z' (T:="list") false rfl O.calm (O.gl (a0H' h1).1) (O.gl (a0H' h2).1) (O.mod.bl _ (by decide+kernel)) (O.mod.bl _ (by decide+kernel)) hne hst ha
 exact weakE key λσ H Q zz=>ex43 zz λF μ ρ S sk en w=>
  ⟨F,μ,ρ,S,sk,en,(WantG.bind w).mono λvs H1 zz=>ex34 zz λμ1 S1 ds x1 s1 r1 w1=>rng_D s1 r1 (a1z' w1)⟩
end
theorem tT_fail{E:XK}{c:CE}(h:∀ρ S,denT Φ Γ c ρ S=.fail):PW X e (tT X.K X.mg E Φ Γ c):=λwh pq s σ H Q I zz=>ex43 zz λF μ ρ S sk en w=>by rw[h]at w;exact w.elim
theorem b2S'{l:List α}{d:Nat}{x:α}{r:List α}(h:l.drop d=x::r):l[d]?=some x:=by have:=congrArg (λl=>l[0]?) h;simpa using this
theorem b0P'{l:List α}{d:Nat}(h:l.drop d=[]):l[d]?=none:=by have:=congrArg (λl=>l[0]?) h;simpa using this
theorem b0Q'{l:List α}{d:Nat}{x:α}{r:List α}(h:l.drop d=x::r):l.drop (d+1)=r:=by
 have:(l.drop d).drop 1=r:=by rw[h];rfl
 rwa [List.drop_drop]at this
section
variable {E:XK}{a b:CE}{l x y:Expr}{pos:Pos}{n:Bool}
theorem em_and(ha:PE X l (tE X.K X.mg E Φ Γ a))(h1:n=true→PE X x (tE X.K X.mg E Φ Γ b))(h2:n=false→∃r rest,y=.BoolOp .And (r::rest) pos∧PE X y (tE X.K X.mg E Φ Γ b)):PE X (.BoolOp .And (l::cond n [x] (vw y).es) pos) (tE X.K X.mg E Φ Γ (.band a b)):=by
 cases n with
 |true=>exact s_and ha (pe_one (h1 rfl))
 |false=>obtain⟨r,rest,rfl,q⟩:=h2 rfl;exact s_and ha q
theorem em_or(ha:PE X l (tE X.K X.mg E Φ Γ a))(h1:n=true→PE X x (tE X.K X.mg E Φ Γ b))(h2:n=false→∃r rest,y=.BoolOp .Or (r::rest) pos∧PE X y (tE X.K X.mg E Φ Γ b)):PE X (.BoolOp .Or (l::cond n [x] (vw y).es) pos) (tE X.K X.mg E Φ Γ (.bor a b)):=by
 cases n with
 |true=>exact s_or ha (pe_one (h1 rfl))
 |false=>obtain⟨r,rest,rfl,q⟩:=h2 rfl;exact s_or ha q
theorem b1L'(ha:PT X l (tT X.K X.mg E Φ Γ a))(h1:n=true→PT X x (tT X.K X.mg E Φ Γ b))(h2:n=false→∃r rest,y=.BoolOp .And (r::rest) pos∧PW X y (tT X.K X.mg E Φ Γ b)):PW X (.BoolOp .And (l::cond n [x] (vw y).es) pos) (tT X.K X.mg E Φ Γ (.band a b)):=by
 cases n with
 |true=>exact t_and ha (pw_and1 (h1 rfl))
 |false=>obtain⟨r,rest,rfl,q⟩:=h2 rfl;exact t_and ha q
theorem em_orT(ha:PT X l (tT X.K X.mg E Φ Γ a))(h1:n=true→PT X x (tT X.K X.mg E Φ Γ b))(h2:n=false→∃r rest,y=.BoolOp .Or (r::rest) pos∧PW X y (tT X.K X.mg E Φ Γ b)):PW X (.BoolOp .Or (l::cond n [x] (vw y).es) pos) (tT X.K X.mg E Φ Γ (.bor a b)):=by
 cases n with
 |true=>exact t_or ha (pw_or1 (h1 rfl))
 |false=>obtain⟨r,rest,rfl,q⟩:=h2 rfl;exact t_or ha q
theorem a9A'(h:b2B' b=true):∃r rest,emE b N (.BoolOp .And es pos)=.BoolOp .And (r::rest) pos:=by cases b<;>first|exact⟨_,_,rfl⟩|cases h
theorem b2T'(h:isBor b=true):∃r rest,emE b N (.BoolOp .Or es pos)=.BoolOp .Or (r::rest) pos:=by cases b<;>first|exact⟨_,_,rfl⟩|cases h
theorem a6f'{tg:CT}(h:b0F' tg=true):isTup (emT tg N e)=true:=by
 cases tg with
 |var i=>cases h
 |tup ts=>rfl
theorem cond1{a b:Bool}(h:cond n a b=true)(z:n=true):a=true:=by rw[z]at h;exact h
theorem cond2{a b:Bool}(h:cond n a b=true)(z:n=false):b=true:=by rw[z]at h;exact h
end
mutual
theorem a0v'(c:CE):∀{X:Cx} {cell:Str→Bool} {N:Ls} {sc:Sc} {CX:CXT} {E:XK} {Φ:FT} {Γ:Str→Option D} {k:Nat} {e:Expr},XOk X cell N sc CX E Φ Γ k→sdE c N sc e=true→PE X (emE c N e) (tE X.K X.mg E Φ Γ c):=by
 intro X cell N sc CX E Φ Γ k e O h;cases c with
 |var i=>exact s_var O (andB h).1 (andB (andB h).2).1 (andB (andB h).2).2
 |dct=>exact s_dct
 |rv0 a b c=>cases h
 |odd a b c=>cases h
 |rev a b=>cases h
 |lit d=>exact s_lit h
 |glob y=>exact s_glob O h
 |ty n=>exact s_ty O (andB h).1 (andB h).2
 |bin op a b=>exact s_bin (a0v' a O (andB h).1) (a0v' b O (andB h).2)
 |binB a b=>cases h
 |neg a=>exact s_neg (a0v' a O h)
 |cmp op a b=>exact s_cmp O.room.units (a0v' a O (andB h).1) (a0v' b O (andB (andB h).2).1) (notB (andB (andB h).2).2)
 |chain op op' a b c=>exact s_chain O.room.units (a0v' a O (andB h).1) (a0v' b O (andB (andB h).2).1) (a0v' c O (andB (andB (andB h).2).2).1) (notB (andB (andB (andB h).2).2).2)
 |band a b=>exact em_and (a0v' a O (andB h).1) (λz=>a0v' b O (cond1 (andB h).2 z)) λz=>by obtain⟨r,rest,q⟩:=a9A' (pos:=(vw e).pos) (N:=N) (es:=(vw e).es.tail) (andB (cond2 (andB h).2 z)).1;exact⟨r,rest,q,a0v' b O (andB (cond2 (andB h).2 z)).2⟩
 |bor a b=>exact em_or (a0v' a O (andB h).1) (λz=>a0v' b O (cond1 (andB h).2 z)) λz=>by obtain⟨r,rest,q⟩:=b2T' (pos:=(vw e).pos) (N:=N) (es:=(vw e).es.tail) (andB (cond2 (andB h).2 z)).1;exact⟨r,rest,q,a0v' b O (andB (cond2 (andB h).2 z)).2⟩
 |bnot a=>exact s_not (a0v' a O h)
 |ite c a b=>exact s_ite (a3n' c O (andB h).1) (a0v' a O (andB (andB h).2).1) (a0v' b O (andB (andB h).2).2)
 |tup es=>exact s_tup (decB (andB h).2) (a3Y' es O (andB h).1)
 |lst box es=>exact s_lst (decB (andB h).2) (a3Y' es O (andB h).1)
 |idx a b=>exact s_idx (andB (andB h).2).2 (a0v' a O (andB h).1) (a0v' b O (andB (andB h).2).1)
 |sl a lo hi=>exact s_sl (a0v' a O (andB h).1) (soundP lo O (andB (andB h).2).1 (decB (andB (andB (andB (andB h).2).2).2).1)) (soundP hi O (andB (andB (andB h).2).2).1 (decB (andB (andB (andB (andB h).2).2).2).2))
 |call f es=>
  have hL:=a3Y' es O (andB (andB h).2).1;cases es with
  |nil=>cases(andB (andB h).2).2
  |cons c cs=>exact s_call O (andB h).1 (a1H' (cs:=c::cs) (andB (andB h).2).1) hL
 |blt b es=>
  have hL:=a3Y' es O (andB (andB h).2).1;cases es with
  |nil=>cases(andB (andB (andB h).2).2).1
  |cons c cs=>exact s_blt O (blt_ok O b (andB (andB (andB h).2).2).2) (andB h).1 (a1H' (cs:=c::cs) (andB (andB h).2).1) hL
 |tix o es=>cases h
 |meth m o es=>have h4:=(andB (andB (andB (andB h).2).2).2).1;exact s_meth (andB h).1 (andB (andB h).2).1 (a1H' h4) (by rw[a9b'];exact decB (andB (andB (andB (andB h).2).2).2).2) a9b'.symm (a0v' o O (andB (andB (andB h).2).2).1) (a3Y' es O h4)
 |lenset=>cases h
 |sumL a=>exact s_sumL O (andB h).1 (andB (andB h).2).2 (a0v' a O (andB (andB h).2).1)
 |rng tup box es=>
  have h4:=(andB (andB (andB h).2).2).1;refine s_rng O tup box (andB h).1 (andB (andB h).2).1 (λz=>?_) (a1H' h4) (a3Y' es O h4);have h5:=(andB (andB (andB h).2).2).2;cases es with
  |nil=>cases h5
  |cons _ _=>cases z
 |comp box N' fr tg it ifs body=>
  obtain⟨h1,h⟩:=andB h;obtain⟨h2,h⟩:=andB h;obtain⟨h3,h⟩:=andB h;obtain⟨h4,h⟩:=andB h;obtain⟨h5,h⟩:=andB h;obtain⟨h6,h⟩:=andB h;obtain⟨h7,h8⟩:=andB h;have sc1:=a9x' O h1
  refine weakE (pe_comp (N:=N') (g:=gCT X.K tg) (tb:=tC X.K X.mg Φ Γ ifs body) O.calm sc1 (a9y' O h2) (b0S' it O h5 a6f') (λacc env=>a5X' _ env>>=λok=>if ok=true then cRest _ (_::_) _ _ 0 (.ref acc) env else pure ())
   (λit acc env=>a3l' rfl) (λC s0 H0 fp acc=>?_) (a2p' h6)) λσ H Q q=>c_comp (tg0:=emT tg N' ((vw e).gs.headD dG).target) q
  have O':=a9z' O sc1.kind h3 C s0 H0 fp;exact⟨g_pg O' h4,b2O' (a7H' ifs O' h7) (b2U' body O' rfl rfl h8)⟩
 |emit e=>cases h
 |inner a b c d=>cases h
 |seq a=>cases h
 |range a=>cases h
 |zip a=>cases h
 |enum a=>cases h
 |revl a=>cases h
 |by2 a=>cases h
 |down a=>cases h
theorem a3n'(c:CE):∀{X:Cx} {cell:Str→Bool} {N:Ls} {sc:Sc} {CX:CXT} {E:XK} {Φ:FT} {Γ:Str→Option D} {k:Nat} {e:Expr},XOk X cell N sc CX E Φ Γ k→sdE c N sc e=true→PT X (emE c N e) (tT X.K X.mg E Φ Γ c):=by
 intro X cell N sc CX E Φ Γ k e O h;cases c with
 |var i=>
  refine weakT (t_val (σ:=[]) (s_var O (andB h).1 (andB (andB h).2).1 (andB (andB h).2).2) λ_=>rfl) λσ H Q zz=>ex43 zz λF μ ρ S sk en w=>⟨F,μ,ρ,S,sk,en,?_⟩;cases e1:ρ[i]? with
  |none=>simp only[denT,e1]at w;exact w.elim
  |some o=>
   cases o with
   |none=>simp only[denT,e1]at w;exact w.elim
   |some d=>simp only[denT,e1]at w;simp only[den,e1];exact w
 |lit d=>exact weakT (t_val (Φ:=Φ) (Γ:=Γ) (σ:=[]) (s_lit h) λ_=>rfl) λσ H Q zz=>ex43 zz λF μ ρ S sk en w=>⟨F,μ,ρ,S,sk,en,w⟩
 |call f es=>
  have hL:=a3Y' es O (andB (andB h).2).1;cases es with
  |nil=>cases(andB (andB h).2).2
  |cons c cs=>
   refine weakT (t_val (σ:=[]) (s_call O (andB h).1 (a1H' (cs:=c::cs) (andB (andB h).2).1) hL) λ_=>rfl) λσ H Q zz=>ex43 zz λF μ ρ S sk en w=>⟨F,μ,ρ,S,sk,en,?_⟩;simp only[denT]at w;simp only[den];cases e1:Φ f with
   |none=>rw[e1]at w;exact w
   |some φ=>
    rw[e1]at w;show WantG _ _ _ _ _ _ _ (((denL Φ Γ (c::cs) ρ S).bind λds S1=>φ ds S1).bind _);cases e2:denL Φ Γ (c::cs) ρ S with
    |ok ds S1=>rw[e2]at w;exact w
    |err y S1=>rw[e2]at w;exact w
    |fail=>rw[e2]at w;exact w
 |blt b es=>
  have hL:=a3Y' es O (andB (andB h).2).1;cases es with
  |nil=>cases(andB (andB (andB h).2).2).1
  |cons c cs=>
   refine weakT (t_val (σ:=[]) (s_blt O (blt_ok O b (andB (andB (andB h).2).2).2) (andB h).1 (a1H' (cs:=c::cs) (andB (andB h).2).1) hL) λ_=>rfl) λσ H Q zz=>ex43 zz λF μ ρ S sk en w=>⟨F,μ,ρ,S,sk,en,?_⟩;simp only[denT]at w;simp only[den];cases e2:denL Φ Γ (c::cs) ρ S with
   |ok ds S1=>rw[e2]at w;exact w
   |err y S1=>rw[e2]at w;exact w
   |fail=>rw[e2]at w;exact w
 |cmp op a b=>exact t_cmp O.room.units (a0v' a O (andB h).1) (a0v' b O (andB (andB h).2).1) (notB (andB (andB h).2).2)
 |chain op op' a b c=>exact t_chain O.room.units (a0v' a O (andB h).1) (a0v' b O (andB (andB h).2).1) (a0v' c O (andB (andB (andB h).2).2).1) (notB (andB (andB (andB h).2).2).2)
 |band a b=>exact(b1L' (a3n' a O (andB h).1) (λz=>a3n' b O (cond1 (andB h).2 z)) λz=>by have g:=(andB (cond2 (andB h).2 z)).1;obtain⟨r,rest,q⟩:=a9A' (pos:=(vw e).pos) (N:=N) (es:=(vw e).es.tail) g;exact⟨r,rest,q,b0R' b O (andB (cond2 (andB h).2 z)).2 (by rw[g];rfl)⟩).pt
 |bor a b=>exact(em_orT (a3n' a O (andB h).1) (λz=>a3n' b O (cond1 (andB h).2 z)) λz=>by have g:=(andB (cond2 (andB h).2 z)).1;obtain⟨r,rest,q⟩:=b2T' (pos:=(vw e).pos) (N:=N) (es:=(vw e).es.tail) g;exact⟨r,rest,q,b0R' b O (andB (cond2 (andB h).2 z)).2 (by rw[g,Bool.or_true])⟩).pt
 |bnot a=>exact t_not (a3n' a O h)
 |_=>exact(tT_fail λ_ _=>by simp only[denT]).pt
theorem b0R'(c:CE):∀{X:Cx} {cell:Str→Bool} {N:Ls} {sc:Sc} {CX:CXT} {E:XK} {Φ:FT} {Γ:Str→Option D} {k:Nat} {e:Expr},XOk X cell N sc CX E Φ Γ k→sdE c N sc e=true→(b2B' c||isBor c)=true→PW X (emE c N e) (tT X.K X.mg E Φ Γ c):=by
 intro X cell N sc CX E Φ Γ k e O h hb;cases c with
 |band a b=>exact b1L' (a3n' a O (andB h).1) (λz=>a3n' b O (cond1 (andB h).2 z)) λz=>by have g:=(andB (cond2 (andB h).2 z)).1;obtain⟨r,rest,q⟩:=a9A' (pos:=(vw e).pos) (N:=N) (es:=(vw e).es.tail) g;exact⟨r,rest,q,b0R' b O (andB (cond2 (andB h).2 z)).2 (by rw[g];rfl)⟩
 |bor a b=>exact em_orT (a3n' a O (andB h).1) (λz=>a3n' b O (cond1 (andB h).2 z)) λz=>by have g:=(andB (cond2 (andB h).2 z)).1;obtain⟨r,rest,q⟩:=b2T' (pos:=(vw e).pos) (N:=N) (es:=(vw e).es.tail) g;exact⟨r,rest,q,b0R' b O (andB (cond2 (andB h).2 z)).2 (by rw[g,Bool.or_true])⟩
 |_=>cases hb
theorem a3Y'(cs:List CE):∀{X:Cx} {cell:Str→Bool} {N:Ls} {sc:Sc} {CX:CXT} {E:XK} {Φ:FT} {Γ:Str→Option D} {k:Nat} {es:Lx},XOk X cell N sc CX E Φ Γ k→sdL cs N sc es=true→PA X (emL cs N es) (tL X.K X.mg E Φ Γ cs):=by
 intro X cell N sc CX E Φ Γ k es O h;cases cs with
 |nil=>exact s_nil
 |cons c cs=>exact s_cons (andB (andB h).2).1 (a0v' c O (andB h).1) (a3Y' cs O (andB (andB h).2).2)
theorem soundP(cs:List CE):∀{X:Cx} {cell:Str→Bool} {N:Ls} {sc:Sc} {CX:CXT} {E:XK} {Φ:FT} {Γ:Str→Option D} {k:Nat} {es:Lx},XOk X cell N sc CX E Φ Γ k→sdL cs N sc es=true→cs.length<2→PO X (emL cs N es).head? (tPt X.K X.mg E Φ Γ cs):=by
 intro X cell N sc CX E Φ Γ k es O h hl;cases cs with
 |nil=>exact s_part0
 |cons c cs=>cases cs with
  |nil=>exact s_part1 (a0v' c O (andB h).1)
  |cons _ _=>exact absurd hl (by simp)
theorem a7H'(cs:List CE):∀{X:Cx} {cell:Str→Bool} {N:Ls} {sc:Sc} {CX:CXT} {E:XK} {Φ:FT} {Γ:Str→Option D} {k:Nat} {es:Lx},XOk X cell N sc CX E Φ Γ k→sdL cs N sc es=true→PTs X (emL cs N es) (cs.map (tT X.K X.mg E Φ Γ)):=by
 intro X cell N sc CX E Φ Γ k es O h;cases cs with
 |nil=>trivial
 |cons c cs=>exact⟨a3n' c O (andB h).1,a7H' cs O (andB (andB h).2).2⟩
theorem b0S'(c:CE):∀{X:Cx} {cell:Str→Bool} {N:Ls} {sc:Sc} {CX:CXT} {E:XK} {Φ:FT} {Γ:Str→Option D} {k:Nat} {tg:CT} {t e:Expr},XOk X cell N sc CX E Φ Γ k→sdI c N sc tg e=true→(b0F' tg=true→isTup t=true)→PI X t (emI c N e) (tI X.K X.mg E Φ Γ c):=by
 intro X cell N sc CX E Φ Γ k tg t e O h ht;cases c with
 |seq a=>exact i_seq (a0v' a O h)
 |range es=>
  have h2:=(andB (andB h).2).1;have h3:=(andB (andB h).2).2;have hs:=a1H' h2;have hL:=a3Y' es O h2;cases es with
  |nil=>cases h3
  |cons a es=>cases es with
   |nil=>exact b2I' O (andB h).1 (hs _ Zd) rfl hL
   |cons b es=>cases es with
    |nil=>exact b2J' O (andB h).1 (hs _ Zd) (hs _ (Zb _ Zd)) rfl hL
    |cons d es=>cases h3
 |down es=>cases h
 |by2 es=>cases h
 |revl es=>cases h
 |enum es=>cases h
 |zip es=>
  have h2:=(andB (andB h).2).1;have h3:=(andB (andB h).2).2;have hs:=a1H' h2;have hL:=a3Y' es O h2;cases es with
  |nil=>cases(andB h3).1
  |cons a es=>cases es with
   |nil=>cases(andB h3).1
   |cons b es=>cases es with
    |nil=>exact i_zip O (andB h).1 (ht (andB h3).2) (hs _ Zd) (hs _ (Zb _ Zd)) hL
    |cons d es=>cases(andB h3).1
 |_=>cases h
theorem b2U'(c:CE):∀{X:Cx} {cell:Str→Bool} {N:Ls} {sc:Sc} {CX:CXT} {E:XK} {Φ:FT} {Γ:Str→Option D} {k:Nat} {el:Expr} {gens gs:List Comprehension} {scope:Scope} {pos:Pos} {d:Nat} {acc:Addr},XOk X cell N sc CX E Φ Γ k→X.xe=(λ_ _=>False)→gens.drop (d+1)=emBg c N gs→sdB c cell N sc gs el=true→
  PB X (cRest (emBe c N el) gens scope pos d (.ref acc) X.env) (tB X.K X.mg Φ Γ c acc):=by
 intro X cell N sc CX E Φ Γ k el gens gs scope pos d acc O hx hd h;cases c with
 |emit a=>exact c_emit (b0P' hd) (a0v' a O h)
 |inner tg it ifs body=>obtain⟨h4,h⟩:=andB h;obtain⟨h5,h⟩:=andB h;obtain⟨h6,h⟩:=andB h;obtain⟨h7,h8⟩:=andB h;exact c_inner hx O.calm (b2S' hd) (b0S' it O h5 a6f') (a2p' h6) (g_pg O h4) (b2O' (a7H' ifs O h7) (b2U' body O hx (b0Q' hd) h8))
 |_=>cases h
end
def WantS(K:Fg)(mg:GS)(E:XK)(D:Ends)(μ:La)(H:Hp):Res Fl→Prop
 | .ok (.next ρ') S'=>∀μ' H' σ',Ext μ H μ' H'→SOk K mg μ' S' H'→EnvR K mg μ' H' ρ' σ'→D.nx σ' H'
 | .ok (.ret d) S'=>∀μ' H' v,Ext μ H μ' H'→SOk K mg μ' S' H'→Rep K mg μ' H' d v→D.rt v H'
 | .ok (.brk ρ') S'=>∀μ' H' σ',Ext μ H μ' H'→SOk K mg μ' S' H'→EnvR K mg μ' H' ρ' σ'→D.bk σ' H'
 | .ok (.cont ρ') S'=>∀μ' H' σ',Ext μ H μ' H'→SOk K mg μ' S' H'→EnvR K mg μ' H' ρ' σ'→D.ct σ' H'
 | .err x S'=>∀μ' H',Ext μ H μ' H'→SOk K mg μ' S' H'→exOf mg.mg E x H'
 | .fail=>False
def tS(K:Fg)(mg:Mg)(E:XK)(Φ:FT)(Γ:Str→Option D)(c:CS):TS:=λD σ H=>∃F μ ρ S,SOk K ⟨mg,F⟩ μ S H∧EnvR K ⟨mg,F⟩ μ H ρ σ∧WantS K ⟨mg,F⟩ E D μ H (denS Φ Γ c ρ S)
def tSs(K:Fg)(mg:Mg)(E:XK)(Φ:FT)(Γ:Str→Option D)(cs:List CS):TS:=λD σ H=>∃F μ ρ S,SOk K ⟨mg,F⟩ μ S H∧EnvR K ⟨mg,F⟩ μ H ρ σ∧WantS K ⟨mg,F⟩ E D μ H (denSs Φ Γ cs ρ S)
section
variable {mg:GS}{E:XK}{D D':Ends}
theorem WantS.ext{r:Res Fl}(x:Ext μ H μ' H')(w:WantS K mg E D μ H r):WantS K mg E D μ' H' r:=by
 cases r with
 |ok f S=>
  cases f with
  |next ρ=>exact λm h s y=>w m h s (x.trans y)
  |ret d=>exact λm h s y=>w m h s (x.trans y)
  |brk ρ=>exact λm h s y=>w m h s (x.trans y)
  |cont ρ=>exact λm h s y=>w m h s (x.trans y)
 |err z S=>exact λm h y=>w m h (x.trans y)
 |fail=>exact w
theorem WantS.bind{Rel:La→Hp→α→β→Prop}{r:Res α}{f:α→Store→Res Fl}(w:WantS K mg E D μ H (r.bind f)):
  WantG K mg E Rel μ H (λb H'=>∃μ' S' a,Ext μ H μ' H'∧SOk K mg μ' S' H'∧Rel μ' H' a b∧WantS K mg E D μ' H' (f a S')) r:=by
 cases r with
 |ok a S'=>exact λμ2 H2 b x s r=>⟨μ2,S',a,x,s,r,WantS.ext x (show WantS K mg E D μ H (f a S')from w)⟩
 |err y S'=>exact w
 |fail=>exact w
theorem WantS.seq{r:Res Fl}{f:Rho→Store→Res Fl}{N:L2.St→Hp→Prop}(w:WantS K mg E D μ H (r.bind λfl S1=>match fl with
   | .next ρ'=>f ρ' S1
   |fl=>.ok fl S1)) (hN:∀μ' H' σ' ρ' S',Ext μ H μ' H'→SOk K mg μ' S' H'→EnvR K mg μ' H' ρ' σ'→WantS K mg E D μ' H' (f ρ' S')→N σ' H'):WantS K mg E {D with nx:=N} μ H r:=by
 cases r with
 |ok fl S=>
  cases fl with
  |next ρ=>exact λm h s x k en=>hN m h s ρ S x k en (WantS.ext x (show WantS K mg E D μ H (f ρ S)from w))
  |ret d=>exact w
  |brk ρ=>exact w
  |cont ρ=>exact w
 |err z S=>exact w
 |fail=>exact w
end
theorem weakS{t t':TS}(h:PS X st t)(w:∀D σ H,t' D σ H→t D σ H):PS X st t':=λpq s σ H D I q=>h pq s σ H D I (w D σ H q)
theorem weakSs{st:List Stmt}{t t':TS}(h:PSs X st t)(w:∀D σ H,t' D σ H→t D σ H):PSs X st t':=λpq s σ H D I q=>h pq s σ H D I (w D σ H q)
noncomputable def a3A':Expr→Bool
 | .ListComp .. =>false
 | .SetComp .. =>false
 | .DictComp .. =>false
 |_=>true
def isComp:Expr→Bool
 | .ListComp .. =>true
 |_=>false
noncomputable def locB(sc:Sc)(x:Str):Bool:=sc.lookup x==some .local||sc.lookup x==some .cell
noncomputable def swB(sc:Sc)(x:Str)(p:Pos)(v:Expr):Bool:=sc.lookup x==some .local&&(p.line==(vw v).pos.line&& !((vw v).sc.names.any λ(n,k)=>n==x&&(k== .local||k== .cell)))
def dS:Stmt:=.Pass ⟨0,0,0,0⟩
structure NdS where
 e0:Expr:=dE
 e1:Expr:=dE
 a:List Stmt:=[]
 b:List Stmt:=[]
 pos:Pos:=⟨0,0,0,0⟩
noncomputable def vs:Stmt→NdS
 | .Assign ts v p=>{e0:=ts.headD dE,e1:=v,pos:=p}
 | .AugAssign t _ v p=>{e0:=t,e1:=v,pos:=p}
 | .Expr v p=>{e0:=v,pos:=p}
 | .Return v p=>{e0:=v.getD dE,pos:=p}
 | .Pass p=>{pos:=p}
 | .Break p=>{pos:=p}
 | .Continue p=>{pos:=p}
 | .If t x y p=>{e0:=t,a:=x,b:=y,pos:=p}
 | .For t i x _ p=>{e0:=t,e1:=i,a:=x,pos:=p}
 | .While t x _ p=>{e0:=t,a:=x,pos:=p}
 |_=>{}
noncomputable def emSub(o i:CE)(N:Ls)(e:Expr):Expr:=.Subscript (emE o N (vw e).e0) (emE i N (vw e).e1) (vw e).pos
noncomputable def sdSub(o i:CE)(N:Ls)(sc:Sc)(e:Expr):Bool:=a3k' (emE i N (vw e).e1)&&(sdE o N sc (vw e).e0&&sdE i N sc (vw e).e1)
mutual
noncomputable def emS:CS→Ls→Stmt→Stmt
 | .asg i e,N,st=>.Assign [.Name (N.getD i "") (vw (vs st).e0).pos] (emE e N (vs st).e1) (vs st).pos
 | .asgT t e,N,st=>.Assign [emT t N (vs st).e0] (emE e N (vs st).e1) (vs st).pos
 | .par _ _,_,st=>st
 | .aug _ _,_,st=>st
 | .set o i v,N,st=>.Assign [emSub o i N (vs st).e0] (emE v N (vs st).e1) (vs st).pos
 | .set2 _ _ _ _ _,_,st=>st
 | .expr e,N,st=>.Expr (emE e N (vs st).e0) (vs st).pos
 | .ret e,N,st=>.Return (some (emE e N (vs st).e0)) (vs st).pos
 | .retN,_,st=>.Return none (vs st).pos
 | .pass,_,st=>.Pass (vs st).pos
 | .brk,_,st=>.Break (vs st).pos
 | .cont,_,st=>.Continue (vs st).pos
 | .ite c a b,N,st=>.If (emE c N (vs st).e0) (emSs a N (vs st).a) (emSs b N (vs st).b) (vs st).pos
 | .for_ t it body,N,st=>.For (emT t N (vs st).e0) (emI it N (vs st).e1) (emSs body N (vs st).a) [] (vs st).pos
 | .while_ _ c body,N,st=>.While (emE c N (vs st).e0) (emSs body N (vs st).a) [] (vs st).pos
 | .never,_,st=>st
noncomputable def emSs:List CS→Ls→List Stmt→List Stmt
 | [],_,_=>[]
 |c::cs,N,st=>emS c N (st.headD dS)::emSs cs N st.tail
end
noncomputable def foldB:Expr→Bool
 | .Tuple xs _ _=>xs.all (foldedForSure 8)
 |_=>true
noncomputable def cellB(sc:Sc):Expr→Bool
 | .Tuple ts _ _=>ts.any fun
  | .Name id _=>sc.lookup id==some .cell
  |_=>false
 |_=>false
mutual
noncomputable def sdS:CS→Ls→Sc→Stmt→Bool
 | .asg i e,N,sc,st=>N[i]?==some (N.getD i "")&&(locB sc (N.getD i "")&&(sdE e N sc (vs st).e1&&(a3A' (emE e N (vs st).e1)||(isCmp e&&(sc.lookup (N.getD i "")==some .cell||swB sc (N.getD i "") (vw (vs st).e0).pos (emE e N (vs st).e1))))))
 | .asgT t e,N,sc,st=>b0F' t&&((foldB (emE e N (vs st).e1)||cellB sc (emT t N (vs st).e0))&&(a3A' (emE e N (vs st).e1)&&(sdT (λ_=>true) N sc t&&sdE e N sc (vs st).e1)))
 | .par _ _,_,_,_=>false
 | .aug _ _,_,_,_=>false
 | .set o i v,N,sc,st=>sdSub o i N sc (vs st).e0&&(a3A' (emE v N (vs st).e1)&&sdE v N sc (vs st).e1)
 | .set2 _ _ _ _ _,_,_,_=>false
 | .expr e,N,sc,st=>a3A' (emE e N (vs st).e0)&&sdE e N sc (vs st).e0
 | .ret e,N,sc,st=>sdE e N sc (vs st).e0
 | .retN,_,_,_=>true
 | .pass,_,_,_=>true
 | .brk,_,_,_=>true
 | .cont,_,_,_=>true
 | .ite c a b,N,sc,st=>sdE c N sc (vs st).e0&&(sdSs a N sc (vs st).a&&sdSs b N sc (vs st).b)
 | .for_ t it body,N,sc,st=>sdT (λ_=>true) N sc t&&(sdI it N sc t (vs st).e1&&(b0E' (emI it N (vs st).e1)&&sdSs body N sc (vs st).a))
 | .while_ _ c body,N,sc,st=>sdE c N sc (vs st).e0&&sdSs body N sc (vs st).a
 | .never,_,_,_=>true
noncomputable def sdSs:List CS→Ls→Sc→List Stmt→Bool
 | [],_,_,_=>true
 |c::cs,N,sc,st=>sdS c N sc (st.headD dS)&&sdSs cs N sc st.tail
end
section
variable {E:XK}{pos:Pos}
theorem b0T'{v:Expr}{o:Option Expr}(h:a3A' v=true):swapsWith v o line env=pure false:=by cases v<;>first|rfl|cases h
theorem bk_fn(O:XOk X cell N sc CX E Φ Γ k):X.env.blockKind=.function:=by unfold Env.blockKind;rw[O.kd];rfl
theorem sw_cell(O:XOk X cell N sc CX E Φ Γ k){v:Expr}{x:Str}{p:Pos}(h:isComp v=true)(hx:sc.lookup x=some .cell):swapsWith v (some (.Name x p)) line X.env=pure false:=by
 have e1:X.env.kindOf x=some .cell:=by show X.env.scope.names.lookup x=_;rw[O.sc];exact hx
 cases v<;>first| (cases h;done)|skip
 rename_i el gs scope vp;unfold swapsWith;show(pure (X.env.blockKind== .function&&X.env.kindOf x==some .local&&p.line==vp.line&& !_):Sem Bool)=pure false;rw[e1];have e2:(some NameKind.cell==some NameKind.local)=false:=by decide
 rw[e2,Bool.and_false,Bool.false_and,Bool.false_and]
theorem sw_yes(O:XOk X cell N sc CX E Φ Γ k){el:Expr}{gs:List Comprehension}{vp p:Pos}{x:Str}(h:swB sc x p (.ListComp el gs scope vp)=true):swapsWith (.ListComp el gs scope vp) (some (.Name x p)) line X.env=pure true:=by
 obtain⟨h1,h⟩:=andB h;obtain⟨h2,h3⟩:=andB h;have e1:X.env.kindOf x=some .local:=by show X.env.scope.names.lookup x=_;rw[O.sc];exact beq_iff_eq.mp h1
 unfold swapsWith;show(pure (X.env.blockKind== .function&&X.env.kindOf x==some .local&&p.line==vp.line&& !_):Sem Bool)=pure true;rw[bk_fn O,e1,show(p.line==vp.line)=true from h2];have h3':(!(scope.names.any λx_1=>match x_1 with| (n,k)=>n==x&&(k== .local||k== .cell)))=true:=h3
 first|rw[h3'];rfl|simp_all
theorem loc_ok(O:XOk X (λ_=>true) N sc CX E Φ Γ k){x:Str}(h:locB sc x=true):L2.Loc X.env.scope x:=by unfold L2.Loc;rw[O.sc];unfold locB at h;simpa using h
theorem b1M'{D:Ends}{i:Nat}{e:CE}(h:tS X.K X.mg E Φ Γ (.asg i e) D σ H):tE X.K X.mg E Φ Γ e σ H λv H1=>D.nx (σ.set i (some v)) H1:=by obtain⟨F,μ,ρ,S,sk,en,w⟩:=h;simp only[denS]at w;exact⟨F,μ,ρ,S,sk,en,(WantS.bind w).mono λv H1 zz=>ex34 zz λμ1 S1 d x1 s1 r1 w1=>w1 μ1 H1 _ .refl s1 ((en.mono x1).set r1)⟩
theorem s_asg(O:XOk X (λ_=>true) N sc CX E Φ Γ k){i:Nat}{e:CE}(h:sdS (.asg i e) N sc st=true):PS X (emS (.asg i e) N st) (tS X.K X.mg E Φ Γ (.asg i e)):=by
 obtain⟨h1,h⟩:=andB h;obtain⟨h2,h⟩:=andB h;obtain⟨h3,h4⟩:=andB h;have h1:=beq_iff_eq.mp h1
 have plain:swapsWith (emE e N (vs st).e1) (some (.Name (N.getD i "") (vw (vs st).e0).pos)) (vs st).pos.line X.env=pure false→PS X (emS (.asg i e) N st) (tS X.K X.mg E Φ Γ (.asg i e)):=λhs=>
  weakS (ps_set (i:=i) (by rw[O.n];exact O.nd) (by rw[O.n];exact h1) (loc_ok O h2) (a0v' e O h3) hs (.inl (O.fn _ rfl))) λD σ H q=>b1M' q
 rcases Bool.or_eq_true_iff.mp h4 with h4|h4
 ·exact plain (b0T' h4)
 ·obtain⟨h4,h5⟩:=andB h4;cases e with
  |comp box N' fr tg it ifs body=>
   rcases Bool.or_eq_true_iff.mp h5 with h5|h5
   ·exact plain (sw_cell O rfl (beq_iff_eq.mp h5))
   ·have hsw:=sw_yes O (line:=(vs st).pos.line) h5;have hx:X.env.scope.names.lookup (N.getD i "")=some .local:=by rw[O.sc];exact beq_iff_eq.mp (andB h5).1
    obtain⟨k1,h⟩:=andB h3;obtain⟨k2,h⟩:=andB h;obtain⟨k3,h⟩:=andB h;obtain⟨k4,h⟩:=andB h;obtain⟨k5,h⟩:=andB h;obtain⟨k6,h⟩:=andB h;obtain⟨k7,k8⟩:=andB h;have sc1:=a9x' O k1
    refine weakS (ps_comp (N:=N') (j:=i) (g:=gCT X.K tg) (tb:=tC X.K X.mg Φ Γ ifs body) O.calm (by rw[O.n];exact O.nd) (by rw[O.n];exact h1) hx hsw sc1 (a9y' O k2) (b0S' it O k5 a6f') (λacc env=>a5X' _ env>>=λok=>if ok=true then cRest _ (_::_) _ _ 0 (.ref acc) env else pure ())
     (λit acc env=>a3l' rfl) (λC s0 H0 fp acc=>?_) (a2p' k6)) λD σ H q=>c_comp (tg0:=.Name (N.getD i "") (vw (vs st).e0).pos) (b1M' q)
    have O':=a9z' O sc1.kind k3 C s0 H0 fp;exact⟨g_pg O' k4,b2O' (a7H' ifs O' k7) (b2U' body O' rfl rfl k8)⟩
  |_=>cases h4
end
structure YOk (X:Cx)(N:Ls)(sc:Sc)(CX:CXT)(E:XK)(Φ:FT)(Γ:Str→Option D)(k:Nat):Prop where
 x:XOk X (λ_=>true) N sc CX E Φ Γ k
 own:PassesOwn (model X.prog X.w) X.A X.env X.xe
section
variable {E:XK}{pos:Pos}
theorem fm_lt{α β:Type}{f:α→Option β}{x:α}(h:f x=none):∀{l:List α},x∈l→(l.filterMap f).length<l.length
 | [],hx=>by cases hx
 |y::l,hx=>by
  rcases Zm.mp hx with rfl|hx
  ·rw[List.filterMap_cons_none h];exact Nat.lt_succ_of_le (List.length_filterMap_le _ _)
  ·have:=fm_lt h hx;have h2:=List.length_filterMap_le f [y];rw[show y::l=[y]++l from rfl,List.filterMap_append,Zt,Zt];simp at h2⊢;omega
theorem sws_tup{v:Expr}(hs:env.scope.names=sc)(h1:isTup tg=true)(h2:(foldB v||cellB sc tg)=true):swappedStores [tg] v env=pure none:=by
 cases tg<;>first| (cases h1;done)|skip
 cases v<;>first|rfl|skip
 rename_i ts _ _ us _ _;unfold swappedStores;simp only[];split
 ·rfl
 ·split
  ·rfl
  ·split
   ·rfl
   ·rename_i hn;rcases Bool.or_eq_true_iff.mp h2 with h|h
    ·have h:(List.all us (foldedForSure 8))=true:=h
     first|rfl|rw[if_pos h]
    ·exfalso
     have h:(ts.any λx=>match x with
      | .Name id _=>sc.lookup id==some .cell
      |_=>false)=true:=h
     obtain⟨x,hx,hc⟩:=List.any_eq_true.mp h;refine hn ?_
     have hl:=fm_lt (f:=λx=>match x with
      |Expr.Name id pos=>if env.kindOf id==some .local&&pos.line==(ts.head?.map (·.pos.line)).getD 0 then some id else none
      |_=>none) (x:=x) (by
       cases x<;>first|rfl|skip
       rename_i id pos;have hc:(sc.lookup id==some .cell)=true:=hc
       have e:env.kindOf id=some .cell:=by show env.scope.names.lookup id=_;rw[hs];exact eq_of_beq hc
       show(if(env.kindOf id==some .local&&_)=true then _ else _)=none;rw[e];rfl) hx
     rw[Bool.or_eq_true];exact .inl (bne_iff_ne.mpr (ZA hl))
theorem b2V'(h1:isTup tg=true):(assignEach [tg] env).map (·.2)=[assign tg env]:=by cases tg<;>first|rfl|cases h1
theorem sole{t v:Expr}(h:swapsWith v (some t) line env=pure false):swapsWithSole [t] v line env=pure false:=h
theorem asg_sub{o i:Expr}{p:Pos}(h:a3k' i=true):∀v,assign (.Subscript o i p) env v=(do
   let ov ←holding [v] (eval o env)
   let iv ←holding [v,ov] (eval i env)
   standAt p
   holding [v,ov,iv] (setItem ov iv v)
   release [v,ov,iv] []):=by
 intro v;cases i<;>first|rfl|cases h
theorem s_asgT(O:XOk X (λ_=>true) N sc CX E Φ Γ k){t:CT}{e:CE}{v:Expr}(h1:isTup (emT t N tg)=true)(h2:(foldB v||cellB sc (emT t N tg))=true)(h3:a3A' v=true)(h4:sdT (λ_=>true) N sc t=true)(h5:PE X v (tE X.K X.mg E Φ Γ e)):PS X (.Assign [emT t N tg] v pos) (tS X.K X.mg E Φ Γ (.asgT t e)):=
 weakS (ps_asg h5 (g_pg O h4) (b0T' h3) (sws_tup O.sc h1 h2) (b2V' h1)) λD σ H zz=>ex43 zz λF μ ρ S sk en w=>by
  simp only[denS]at w;refine⟨F,μ,ρ,S,sk,en,(WantS.bind w).mono λv H1 zz=>ex34 zz λμ1 S1 d x1 s1 r1 w1=>?_⟩;cases ea:asgCT t d ρ with
  |none=>rw[ea]at w1;exact w1.elim
  |some ρ'=>rw[ea]at w1;exact g_do ea r1 (en.mono x1) λσ' en'=>w1 μ1 H1 σ' .refl s1 en'
theorem s_set{o i v:CE}{eo ei ev:Expr}{p:Pos}(hn:a3k' ei=true)(h0:a3A' ev=true)(ho:PE X eo (tE X.K X.mg E Φ Γ o))(hi:PE X ei (tE X.K X.mg E Φ Γ i))(hv:PE X ev (tE X.K X.mg E Φ Γ v)):PS X (.Assign [.Subscript eo ei p] ev pos) (tS X.K X.mg E Φ Γ (.set o i v)):=
 weakS (ps_asg hv (pg_sub ho hi set_D (asg_sub hn)) (sole (b0T' h0)) (by cases ev<;>rfl)) λD σ H zz=>ex43 zz λF μ ρ S sk en w=>by
  simp only[denS]at w;refine⟨F,μ,ρ,S,sk,en,(WantS.bind w).mono λvv H1 zz=>ex34 zz λμ1 S1 f x1 s1 r1 w1=>?_⟩;refine⟨F,μ1,ρ,S1,s1,en.mono x1,(WantS.bind w1).mono λvo H2 zz=>ex34 zz λμ2 S2 d x2 s2 r2 w2=>?_⟩;refine⟨F,μ2,ρ,S2,s2,(en.mono x1).mono x2,(WantS.bind w2).mono λvi H3 zz=>ex34 zz λμ3 S3 e x3 s3 r3 w3=>?_⟩;cases es:setD d e f S3 with
  |none=>rw[es]at w3;exact w3.elim
  |some S4=>rw[es]at w3;exact⟨F,μ3,S3,d,e,f,s3,Rep.mono x3 _ _ r2,r3,Rep.mono (x2.trans x3) _ _ r1,S4,es,λμ4 H4 x4 s4=>w3 μ4 H4 σ x4 s4 ((((en.mono x1).mono x2).mono x3).mono x4)⟩
theorem s_expr{e:CE}{v:Expr}(h0:a3A' v=true)(he:PE X v (tE X.K X.mg E Φ Γ e)):PS X (.Expr v pos) (tS X.K X.mg E Φ Γ (.expr e)):=
 weakS (ps_expr he (b0T' h0)) λD σ H zz=>ex43 zz λF μ ρ S sk en w=>by simp only[denS]at w;exact⟨F,μ,ρ,S,sk,en,(WantS.bind w).mono λv H1 zz=>ex34 zz λμ1 S1 d x1 s1 r1 w1=>w1 μ1 H1 σ .refl s1 (en.mono x1)⟩
theorem s_ret{e:CE}{v:Expr}(he:PE X v (tE X.K X.mg E Φ Γ e)):PS X (.Return (some v) pos) (tS X.K X.mg E Φ Γ (.ret e)):=
 weakS (ps_ret he) λD σ H zz=>ex43 zz λF μ ρ S sk en w=>by simp only[denS]at w;exact⟨F,μ,ρ,S,sk,en,(WantS.bind w).mono λv H1 zz=>ex34 zz λμ1 S1 d x1 s1 r1 w1=>w1 μ1 H1 v .refl s1 r1⟩
theorem s_retN:PS X (.Return none pos) (tS X.K X.mg E Φ Γ .retN):=weakS ps_retN λD σ H zz=>ex43 zz λF μ ρ S sk en w=>w μ H .non .refl sk a8P'
theorem s_pass:PS X (.Pass pos) (tS X.K X.mg E Φ Γ .pass):=weakS ps_pass λD σ H zz=>ex43 zz λF μ ρ S sk en w=>w μ H σ .refl sk en
theorem s_brk:PS X (.Break pos) (tS X.K X.mg E Φ Γ .brk):=weakS b2a' λD σ H zz=>ex43 zz λF μ ρ S sk en w=>w μ H σ .refl sk en
theorem s_cont:PS X (.Continue pos) (tS X.K X.mg E Φ Γ .cont):=weakS a7Y' λD σ H zz=>ex43 zz λF μ ρ S sk en w=>w μ H σ .refl sk en
theorem s_if{c:CE}{a b:List CS}{t:Expr}{x y:List Stmt}(hc:PT X t (tT X.K X.mg E Φ Γ c))(ha:PSs X x (tSs X.K X.mg E Φ Γ a))(hb:PSs X y (tSs X.K X.mg E Φ Γ b)):PS X (.If t x y pos) (tS X.K X.mg E Φ Γ (.ite c a b)):=
 weakS (ps_if hc ha hb) λD σ H zz=>ex43 zz λF μ ρ S sk en w=>by
  simp only[denS]at w;refine⟨F,μ,ρ,S,sk,en,(WantS.bind w).mono λk H1 zz=>ex34 zz λμ1 S1 k' x1 s1 e1 w1=>?_⟩;subst e1;cases k' with
  |true=>rw[if_pos rfl]at w1⊢;exact⟨F,μ1,ρ,S1,s1,en.mono x1,w1⟩
  |false=>rw[if_neg (by decide)]at w1⊢;exact⟨F,μ1,ρ,S1,s1,en.mono x1,w1⟩
theorem s_nilS:PSs X [] (tSs X.K X.mg E Φ Γ []):=weakSs pss_nil λD σ H zz=>ex43 zz λF μ ρ S sk en w=>w μ H σ .refl sk en
theorem s_consS{c:CS}{s:Stmt}{st:List Stmt}(h1:PS X s (tS X.K X.mg E Φ Γ c))(h2:PSs X st (tSs X.K X.mg E Φ Γ cs)):PSs X (s::st) (tSs X.K X.mg E Φ Γ (c::cs)):=
 weakSs (b1Z' h1 h2) λD σ H zz=>ex43 zz λF μ ρ S sk en w=>by simp only[denSs]at w;exact⟨F,μ,ρ,S,sk,en,WantS.seq w λμ' H' σ' ρ' S' x k en' w'=>⟨F,μ',ρ',S',k,en',w'⟩⟩
theorem a7I'{mg:GS}{D:Ends}{r:Res Fl}{f:Rho→Store→Res Fl}{Nx:L2.St→Hp→Prop}(w:WantS K mg E D μ H (r.bind λfl S'=>match fl with
   | .next ρ'=>f ρ' S'
   | .cont ρ'=>f ρ' S'
   | .brk ρ'=>.ok (.next ρ') S'
   | .ret d=>.ok (.ret d) S')) (hN:∀μ' H' σ' ρ' S',Ext μ H μ' H'→SOk K mg μ' S' H'→EnvR K mg μ' H' ρ' σ'→WantS K mg E D μ' H' (f ρ' S')→Nx σ' H'):WantS K mg E {D with nx:=Nx,ct:=Nx,bk:=D.nx} μ H r:=by
 cases r with
 |ok fl S=>
  cases fl with
  |next ρ=>exact λm h s x k en=>hN m h s ρ S x k en (WantS.ext x (show WantS K mg E D μ H (f ρ S)from w))
  |ret d=>exact w
  |brk ρ=>exact w
  |cont ρ=>exact λm h s x k en=>hN m h s ρ S x k en (WantS.ext x (show WantS K mg E D μ H (f ρ S)from w))
 |err z S=>exact w
 |fail=>exact w
theorem s_while{c:CE}{t:Expr}{x:List Stmt}(hp:PassesOwn (model X.prog X.w) X.A X.env X.xe)(hc:PT X t (tT X.K X.mg E Φ Γ c))(hb:PSs X x (tSs X.K X.mg E Φ Γ body)):PS X (.While t x [] pos) (tS X.K X.mg E Φ Γ (.while_ n c body)):=
 weakS (b2c' hp hc hb) λD σ H zz=>ex43 zz λF μ ρ S sk en w=>by
  simp only[denS]at w;refine⟨λm σ H=>∃μ ρ S,SOk X.K ⟨X.mg,F⟩ μ S H∧EnvR X.K ⟨X.mg,F⟩ μ H ρ σ∧WantS X.K ⟨X.mg,F⟩ E D μ H (a4z' (denT Φ Γ c) (denSs Φ Γ body) m ρ S),⟨n,μ,ρ,S,sk,en,w⟩,?_⟩;rintro m σ H ⟨μ,ρ,S,sk,en,w⟩;cases m with
  |zero=>exact w.elim
  |succ m=>
   unfold a4z' at w;refine⟨F,μ,ρ,S,sk,en,(WantS.bind w).mono λk H1 zz=>ex34 zz λμ1 S1 k' x1 s1 e1 w1=>?_⟩;subst e1;cases k' with
   |true=>rw[if_pos rfl]at w1⊢;refine⟨λσ' H'=>∃μ ρ S,SOk X.K ⟨X.mg,F⟩ μ S H'∧EnvR X.K ⟨X.mg,F⟩ μ H' ρ σ'∧WantS X.K ⟨X.mg,F⟩ E D μ H' (a4z' (denT Φ Γ c) (denSs Φ Γ body) m ρ S),λσ' H' q=>⟨m,Nat.lt_succ_self m,q⟩,F,μ1,ρ,S1,s1,en.mono x1,?_⟩;exact a7I' w1 λμ' H' σ' ρ' S' x k en' w'=>⟨μ',ρ',S',k,en',w'⟩
   |false=>rw[if_neg (by decide)]at w1⊢;exact w1 μ1 H1 σ .refl s1 (en.mono x1)
end
theorem a3Z'(step:D→Rho→Store→Res Fl)(xs:List D):∀(n i:Nat) (ρ:Rho) (S:Store),i+n=xs.length→forB step (λ_ i=>some xs[i]?) (n+1) i ρ S=forD step (xs.drop i) ρ S
 |0,i,ρ,S,h=>by rw[List.drop_eq_nil_of_le (by omega)];unfold forB;have:xs[i]?=none:=List.getElem?_eq_none_iff.mpr (by omega);rw[this];rfl
 |n+1,i,ρ,S,h=>by
  have hi:i<xs.length:=by omega
  rw[List.drop_eq_getElem_cons hi];unfold forB;rw[Zh hi];show(step xs[i] ρ S).bind _=(step xs[i] ρ S).bind _;congr 1;funext fl S';cases fl with
  |next ρ'=>exact a3Z' step xs n (i+1) ρ' S' (by omega)
  |cont ρ'=>exact a3Z' step xs n (i+1) ρ' S' (by omega)
  |brk ρ'=>rfl
  |ret d=>rfl
theorem forI_eq(step:D→Rho→Store→Res Fl)(its:Its)(ρ:Rho)(S:Store):forI step its ρ S=forB step (getOf its) (a9m' its) 0 ρ S:=by
 cases its with
 |items xs=>exact(a3Z' step xs xs.length 0 ρ S (by omega)).symm
 |live f get=>rfl
noncomputable def stepF(Φ:FT)(Γ:Str→Option D)(t:CT)(body:List CS):D→Rho→Store→Res Fl:=λx ρ S=>match asgCT t x ρ with
 |some ρ'=>denSs Φ Γ body ρ' S
 |none=>.fail
section
variable {E:XK}{pos:Pos}
theorem s_for{t:CT}{it:CE}{i:Expr}{x:List Stmt}(hp:PassesOwn (model X.prog X.w) X.A X.env X.xe)(hc:X.calm=true)(hi:PI X tg i (tI X.K X.mg E Φ Γ it))(hg:PG X tg (gCT X.K t))(hs:∀x,foldedSetIterable i X.env x=pure x)(hb:PSs X x (tSs X.K X.mg E Φ Γ body)):
  PS X (.For tg i x [] pos) (tS X.K X.mg E Φ Γ (.for_ t it body)):=
 weakS (ps_for hp hc hi hg hb hs) λD σ H zz=>ex43 zz λF μ ρ S sk en w=>by
  simp only[denS]at w;refine⟨F,μ,ρ,S,sk,en,WantG.mono (Rel:=λμ' H' its J=>ItOk X.K ⟨X.mg,F⟩ J (getOf its) μ' H') (WantS.bind w) λJ H1 h=>?_⟩;obtain⟨μ1,S1,its,x1,s1,ok,w1⟩:=h;have w2:WantS X.K ⟨X.mg,F⟩ E D μ1 H1 (forI (stepF Φ Γ t body) its ρ S1):=w1;rw[forI_eq]at w2;refine⟨λi m σ H=>∃μ ρ S,Chg X.K F μ1 H1 F μ H∧SOk X.K ⟨X.mg,F⟩ μ S H∧EnvR X.K ⟨X.mg,F⟩ μ H ρ σ∧WantS X.K ⟨X.mg,F⟩ E D μ H (forB (stepF Φ Γ t body) (getOf its) m i ρ S),⟨a9m' its,μ1,ρ,S1,.refl,s1,en.mono x1,w2⟩,?_⟩;rintro i m σ H ⟨μ,ρ,S,ch,sk,en,w⟩;cases m with
  |zero=>exact w.elim
  |succ m=>
   unfold forB at w;obtain⟨k1,k2⟩:=ok i μ S H F ch sk;cases e:getOf its S i with
   |none=>rw[e]at w;exact w.elim
   |some o=>
    cases o with
    |none=>rw[e]at w;exact .inl ⟨k2 e,w μ H σ .refl sk en⟩
    |some y=>
     rw[e]at w;obtain⟨go,yld⟩:=k1 y e;refine .inr ⟨go,λσ' H'=>∃μ ρ S,Chg X.K F μ1 H1 F μ H'∧SOk X.K ⟨X.mg,F⟩ μ S H'∧EnvR X.K ⟨X.mg,F⟩ μ H' ρ σ'∧WantS X.K ⟨X.mg,F⟩ E D μ H' (forB (stepF Φ Γ t body) (getOf its) m (i+1) ρ S),λσ' H' q=>⟨m,Nat.lt_succ_self m,q⟩,λv H' hv=>?_⟩;obtain⟨x2,s2,r2⟩:=yld v H' hv;have ch2:Chg X.K F μ1 H1 F μ H':=ch.trans (.of_ext x2 λ_ z=>.inl z);have w':=WantS.ext x2 w
     have w3:WantS X.K ⟨X.mg,F⟩ E D μ H' ((stepF Φ Γ t body y ρ S).bind λfl S'=>match fl with
      | .next ρ'=>forB (stepF Φ Γ t body) (getOf its) m (i+1) ρ' S'
      | .cont ρ'=>forB (stepF Φ Γ t body) (getOf its) m (i+1) ρ' S'
      | .brk ρ'=>.ok (.next ρ') S'
      | .ret d=>.ok (.ret d) S'):=w'
     have w4:=a7I' (f:=λρ' S'=>forB (stepF Φ Γ t body) (getOf its) m (i+1) ρ' S') (Nx:=λσ' H'=>∃μ ρ S,Chg X.K F μ1 H1 F μ H'∧SOk X.K ⟨X.mg,F⟩ μ S H'∧EnvR X.K ⟨X.mg,F⟩ μ H' ρ σ'∧WantS X.K ⟨X.mg,F⟩ E D μ H' (forB (stepF Φ Γ t body) (getOf its) m (i+1) ρ S)) w3
      λμ' H'' σ' ρ' S' x3 k en' w''=>⟨μ',ρ',S',ch2.trans (.of_ext x3 λ_ z=>.inl z),k,en',w''⟩
     unfold stepF at w4;cases ea:asgCT t y ρ with
     |none=>simp only[ea]at w4;exact w4.elim
     |some ρ'=>simp only[ea]at w4;exact g_do ea r2 (en.mono x2) λσ2 en2=>⟨F,μ,ρ',S,s2,en2,w4⟩
end
mutual
theorem soundS(c:CS):∀{X:Cx} {N:Ls} {sc:Sc} {CX:CXT} {E:XK} {Φ:FT} {Γ:Str→Option D} {k:Nat} {st:Stmt},YOk X N sc CX E Φ Γ k→sdS c N sc st=true→PS X (emS c N st) (tS X.K X.mg E Φ Γ c):=by
 intro X N sc CX E Φ Γ k st O h;cases c with
 |asg i e=>exact s_asg O.x h
 |asgT t e=>exact s_asgT O.x (a6f' (andB h).1) ((andB (andB h).2).1) (andB (andB (andB h).2).2).1 (andB (andB (andB (andB h).2).2).2).1 (a0v' e O.x (andB (andB (andB (andB h).2).2).2).2)
 |par=>cases h
 |aug=>cases h
 |set o i v=>exact s_set (andB (andB h).1).1 (andB (andB h).2).1 (a0v' o O.x (andB (andB (andB h).1).2).1) (a0v' i O.x (andB (andB (andB h).1).2).2) (a0v' v O.x (andB (andB h).2).2)
 |set2=>cases h
 |expr e=>exact s_expr (andB h).1 (a0v' e O.x (andB h).2)
 |ret e=>exact s_ret (a0v' e O.x h)
 |retN=>exact s_retN
 |pass=>exact s_pass
 |brk=>exact s_brk
 |cont=>exact s_cont
 |ite c a b=>exact s_if (a3n' c O.x (andB h).1) (a4O' a O (andB (andB h).2).1) (a4O' b O (andB (andB h).2).2)
 |for_ t it body=>exact s_for O.own O.x.calm (b0S' it O.x (andB (andB h).2).1 a6f') (g_pg O.x (andB h).1) (a2p' (andB (andB (andB h).2).2).1) (a4O' body O (andB (andB (andB h).2).2).2)
 |while_ n c body=>exact s_while O.own (a3n' c O.x (andB h).1) (a4O' body O (andB h).2)
 |never=>exact λpq s σ H D I zz=>ex43 zz λF μ ρ S sk en w=>w.elim
theorem a4O'(cs:List CS):∀{X:Cx} {N:Ls} {sc:Sc} {CX:CXT} {E:XK} {Φ:FT} {Γ:Str→Option D} {k:Nat} {st:List Stmt},YOk X N sc CX E Φ Γ k→sdSs cs N sc st=true→PSs X (emSs cs N st) (tSs X.K X.mg E Φ Γ cs):=by
 intro X N sc CX E Φ Γ k st O h;cases cs with
 |nil=>exact s_nilS
 |cons c cs=>exact s_consS (soundS c O (andB h).1) (a4O' cs O (andB h).2)
end
mutual
noncomputable def lowD(k:Nat):D→Bool
 | .tup xs=>lowL k xs
 | .lst xs=>lowL k xs
 | .scr xs=>lowL k xs
 | .ref n=>decide (n<k)
 |_=>true
noncomputable def lowL(k:Nat):List D→Bool
 | []=>true
 |x::xs=>lowD k x&&lowL k xs
end
noncomputable def trim(k:Nat)(d:D)(S':Store):Res D:=
 if(S'.take k).all (lowL k)=true then
  (if lowD k d=true then .ok d (S'.take k)else match d with
   | .ref n=>(match S'[n]? with
    |some xs=>if lowL k xs=true∧k≤n then .ok (.ref k) (S'.take k++[xs])else .fail
    |none=>.fail)
   |_=>.fail)
 else .fail
noncomputable def runD(Φ:FT)(Γ:Str→Option D)(body:List CS)(n np:Nat)(ds:List D)(S:Store):Res D:=
 if ds.length=np then
  (match denSs Φ Γ body (ds.map some++List.replicate (n-np) none) S with
  | .ok (.ret d) S'=>trim S.length d S'
  | .ok (.next _) S'=>trim S.length .non S'
  | .err x S'=>if(S'.take S.length).all (lowL S.length)=true then .err x (S'.take S.length)else .fail
  |_=>.fail)
 else .fail
section
variable {mg:GS}{μ'':La}
mutual
theorem Rep.low(hk:∀n,n<k→μ''[n]?=μ'[n]?)(hs:∀a∈μ'',a∈μ'):∀(d:D) (v:V),lowD k d=true→Rep K mg μ' H d v→Rep K mg μ'' H d v
 | .non,_,_,h=>h
 | .bl _,_,_,h=>h
 | .int _,_,_,h=>h
 | .str _,_,_,h=>h
 | .tup ds,v,l,h=>by unfold Rep at h⊢;unfold lowD at l;obtain⟨a,vs,e,q,r⟩:=h;exact⟨a,vs,e,q,RepL.low hk hs ds vs l r⟩
 | .lst ds,v,l,h=>by unfold Rep at h⊢;unfold lowD at l;obtain⟨a,vs,e,q,n,r⟩:=h;exact⟨a,vs,e,q,⟨λz=>n.1 (hs a z),n.2⟩,RepL.low hk hs ds vs l r⟩
 | .scr ds,v,l,h=>by unfold Rep at h⊢;unfold lowD at l;obtain⟨a,vs,e,q,r⟩:=h;exact⟨a,vs,e,q,RepL.low hk hs ds vs l r⟩
 | .ref n,v,l,h=>by unfold Rep at h⊢;unfold lowD at l;obtain⟨a,e,q⟩:=h;exact⟨a,e,by rw[hk n (by simpa using l)];exact q⟩
 | .fn y,v,_,h=>h
 | .ty y,v,_,h=>h
 | .dct,v,_,h=>h
theorem RepL.low(hk:∀n,n<k→μ''[n]?=μ'[n]?)(hs:∀a∈μ'',a∈μ'):∀(ds:List D) (vs:List V),lowL k ds=true→RepL K mg μ' H ds vs→RepL K mg μ'' H ds vs
 | [],vs,_,h=>h
 |d::ds,vs,l,h=>by unfold RepL at h⊢;unfold lowL at l;simp only[ZB]at l;obtain⟨w,ws,e,r,q⟩:=h;exact⟨w,ws,e,Rep.low hk hs d w l.1 r,RepL.low hk hs ds ws l.2 q⟩
end
theorem Ext.cut(x:Ext μ H μ' H'):Ext μ H μ H':=⟨⟨[],by simp⟩,x.keep,x.there,λ_ h=>.inl h⟩
theorem SOk.cut(x:Ext μ H μ' H')(hk:μ.length=k)(s:SOk K mg μ' S' H')(l:(S'.take k).all (lowL k)=true):SOk K mg μ (S'.take k) H':=by
 obtain⟨r,rfl⟩:=x.pre;have hl:=s.len;simp at hl;refine⟨s.live,by rw[List.length_take];omega,(ZZ.mp s.nd).1,λn a ds h1 h2=>?_⟩;have hn:n<k:=by rw[←hk];exact(Zf.mp h1).1
 have h2':=h2;rw[List.getElem?_take_of_lt hn]at h2;obtain⟨vs,q,rr⟩:=s.at_ n a ds (by rw[Zl (by omega)];exact h1) h2;exact⟨vs,q,RepL.low (k:=k) (λm hm=>by rw[Zl (by omega)]) (λb hb=>ZJ _ hb) _ _ (ZD.mp l ds (Zn h2')) rr⟩
theorem b1N'{E:XK}{Q:VK}(x:Ext μ H μ' H')(hk:μ.length=k)(s:SOk K mg μ' S' H')(r:Rep K mg μ' H' d v)(w:WantG K mg E (Rep K mg) μ H Q (trim k d S')):Q v H':=by
 unfold trim at w;split at w
 ·rename_i hl;split at w
  ·rename_i hd;refine w μ H' v x.cut (SOk.cut x hk s hl) ?_;obtain⟨r',rfl⟩:=x.pre;exact Rep.low (k:=k) (λm hm=>by rw[Zl (by omega)]) (λb hb=>ZJ _ hb) _ _ hd r
  ·split at w
   ·rename_i n hnl;split at w
    ·rename_i xs hx;split at w
     ·rename_i hxl;unfold Rep at r;obtain⟨a,rfl,ha⟩:=r;obtain⟨vs,q,rr⟩:=s.at_ n a xs ha hx;have s1:=SOk.cut x hk s hl;obtain⟨r',rfl⟩:=x.pre;have hnd:=ZZ.mp s.nd;have hn:μ.length≤n:=by omega
      have har:a∈r':=by rw[Zp hn]at ha;exact Zn ha
      have hna:a∉μ:=λz=>hnd.2.2 a z a har rfl
      have hfr:H a=none:=by
       rcases x.fresh a (Zq _ har)with z|z
       ·exact absurd z hna
       ·exact z
      have sub:∀b∈μ++[a],b∈μ++r':=λb hb=>by
       rcases ZF.mp hb with z|z
       ·exact ZJ _ z
       ·have:b=a:=by simpa using z
        subst this;exact Zq _ har
      have same:∀m,m<k→(μ++[a])[m]?=(μ++r')[m]? :=λm hm=>by rw[Zl (by omega),Zl (by omega)]
      have hl2:=s.len;simp at hl2;refine w (μ++[a]) H' (.ref a) ⟨⟨[a],rfl⟩,x.keep,x.there,λb hb=>?_⟩ ⟨s.live,?_,?_,λm b ds h1 h2=>?_⟩ ?_
      ·rcases ZF.mp hb with z|z
       ·exact .inl z
       ·have:b=a:=by simpa using z
        subst this;exact .inr hfr
      ·rw[Zt,Zt,List.length_take];simp;omega
      ·rw[ZZ]
       exact⟨hnd.1,by simp,λb hb c hc=>by
        have:c=a:=by simpa using hc
        subst this;intro z;subst z;exact hna hb⟩
      ·by_cases hm:m<μ.length
       ·rw[Zl hm]at h1;rw[Zl (by rw[List.length_take];omega)]at h2;have h2':=h2;rw[List.getElem?_take_of_lt (by omega)]at h2;obtain⟨ws,q',rr'⟩:=s.at_ m b ds (by rw[Zl hm];exact h1) h2;exact⟨ws,q',RepL.low (k:=k) same sub _ _ (ZD.mp hl ds (Zn h2')) rr'⟩
       ·have e1:m=μ.length:=by
         have:=(Zf.mp h1).1;simp at this;omega
        subst e1;rw[Zp (Zi _)]at h1;rw[Zp (by rw[List.length_take];omega)]at h2;have e2:μ.length-(S'.take k).length=0:=by rw[List.length_take];omega
        rw[e2]at h2;simp at h1 h2;subst h1;subst h2;exact⟨vs,q,RepL.low (k:=k) same sub _ _ hxl.1 rr⟩
      ·unfold Rep;exact⟨a,rfl,by rw[←hk,Zp (Zi _)];simp⟩
     ·exact w.elim
    ·exact w.elim
   ·exact w.elim
 ·exact w.elim
end
theorem b0U'{mg:GS}{vs:List V}(r:RepL K mg μ H ds vs):EnvR K mg μ H (ds.map some++List.replicate (N.length-ds.length) none) (L2.start N vs):=by
 unfold L2.start;have hl:=r.length;refine⟨by simp[hl],λi d e=>?_⟩;by_cases hi:i<ds.length
 ·rw[Zl (by simpa using hi),ZP]at e;cases e1:ds[i]? with
  |none=>rw[e1]at e;cases e
  |some d'=>rw[e1]at e;cases e;obtain⟨v,h1,h2⟩:=r.get e1;exact⟨v,by rw[Zl (by simp;omega),ZP,h1];rfl,h2⟩
 ·rw[Zp (by simpa using hi),List.getElem?_replicate]at e;split at e<;>cases e
section
variable {P:Program}
theorem FOk.mono{j:Nat}{f:Str}(F:FOk P w K mg base CX j f φ)(h:j≤k):FOk P w K mg base CX k f φ:=by obtain⟨fa,fd,ps,m1,m2,m3,m4,m5⟩:=F.ex;exact⟨fa,fd,ps,m1,m2,m3,m4.mono h,m5⟩
theorem fnok{x:Str}{fd:FuncData}(F:Fun K x qual st f fd)(S:FnScope N ps (a0x' st))(M:MOk P w K mg base CX0 Φ Γ k)(he:emSs body N (a1c' st)=a1c' st)(hc:sdSs body N (a0x' st).names (a1c' st)=true):
  FnOk P w K mg base CX0 (k+1) f fd ps (spOf K mg ps.length (runD Φ Γ body N.length ps.length)):=by
 refine F.ok S (λvs H Q E h=>h.1) (λcdv A outer s H vs Q E hr h=>?_)
 ·obtain⟨hl,F',μ,S0,ds,sk,r,wt⟩:=h;have O:YOk (cxOf CX0 P w K mg base N qual (a0x' st) f cdv A outer s H E).nox N (a0x' st).names CX0 E Φ Γ k:=⟨⟨rfl,S.nd,rfl,S.kind,rfl,hr,λ_ _=>rfl,M,λ_ _ _ _ _ _ _ z=>z.elim,λ_ _ _ _ _ z=>z⟩,PassesOwn.never⟩;refine⟨_,he▸a4O' body O hc,F',μ,ds.map some++List.replicate (N.length-ds.length) none,S0,sk,b0U' r,?_⟩;have hl2:ds.length=ps.length:=by rw[r.length];exact hl
  unfold runD at wt;rw[if_pos hl2,←hl2]at wt;have hkl:μ.length=S0.length:=sk.len;show WantS K ⟨mg,F'⟩ E _ μ H (denSs Φ Γ body (ds.map some++List.replicate (N.length-ds.length) none) S0);cases e:denSs Φ Γ body (ds.map some++List.replicate (N.length-ds.length) none) S0 with
  |ok fl S'=>
   rw[e]at wt;cases fl with
   |next ρ=>exact λμ' H' σ' x s' _=>b1N' x hkl s' a8P' wt
   |ret d=>exact λμ' H' v x s' r'=>b1N' x hkl s' r' wt
   |brk ρ=>exact wt.elim
   |cont ρ=>exact wt.elim
  |err y S'=>
   rw[e]at wt;intro μ' H' x s';by_cases hz:(S'.take S0.length).all (lowL S0.length)=true
   ·simp only[hz,if_true]at wt;exact wt μ H' x.cut (SOk.cut x hkl s' hz)
   ·simp only[hz]at wt;exact wt.elim
  |fail=>rw[e]at wt;exact wt.elim
theorem fok{x:Str}{fd:FuncData}(F:Fun K x qual st f fd)(S:FnScope N ps (a0x' st))(hm:mg x=some (.ref f))(hb:Binds K fd ps [])(M:MOk P w K mg base CX0 Φ Γ k)(he:emSs body N (a1c' st)=a1c' st)(hc:sdSs body N (a0x' st).names (a1c' st)=true):
  FOk P w K mg base CX0 (k+1) x (runD Φ Γ body N.length ps.length):=by
 refine⟨f,fd,ps,hm,F.kp,hb,fnok F S M he hc,λds S' hne=>?_⟩;unfold runD at hne;by_cases h:ds.length=ps.length
 ·exact h
 ·rw[if_neg h]at hne;exact absurd rfl hne
theorem len1{P:Lv→Prop}(h:∀a,P [a]):∀us:Lv,us.length=1→P us:=λus hl=>by obtain⟨a,rfl⟩:=List.length_eq_one_iff.mp hl;exact h a
theorem len2{P:Lv→Prop}(h:∀a b,P [a,b]):∀us:Lv,us.length=2→P us:=λus hl=>by
 cases us with
 |nil=>cases hl
 |cons a us=>exact len1 (P:=λus=>P (a::us)) (h a) us (Nat.succ.inj hl)
theorem len3{P:Lv→Prop}(h:∀a b c,P [a,b,c]):∀us:Lv,us.length=3→P us:=λus hl=>by
 cases us with
 |nil=>cases hl
 |cons a us=>exact len2 (P:=λus=>P (a::us)) (h a) us (Nat.succ.inj hl)
noncomputable def tbl(l:List (Str×(List D→Store→Res D))):FT:=λf=>l.lookup f
theorem mok(h:∀p∈l,FOk P w K mg base CX0 k p.1 p.2)(hg:∀x d,Γ x=some d→∃v u,mg x=some u∧RelV v u∧∀F μ H,Rep K ⟨mg,F⟩ μ H d v)(hb:∀x∈a1V',mg x=none):MOk P w K mg base CX0 (tbl l) Γ k:=
 ⟨λf φ e=>h (f,φ) (Zv e),hg,hb⟩
end
end Py
namespace K05
noncomputable def G0:Str→Option D:=λx=>[(("MOST_PLACES":Str),D.int 8)].lookup x
def a8i':Ls:=["thing"]
noncomputable def a8j':List CS:=[.ret (.band (.blt .isinst [.var 0,.ty "int"]) (.bnot (.blt .isinst [.var 0,.ty "bool"])))]
def a8k':FT:=tbl []
noncomputable def a2q':List D→Store→Res D:=runD a8k' G0 a8j' a8i'.length 1
def a1Y':Ls:=["thing","low","high"]
noncomputable def a1Z':List CS:=[.ret (.band (.call "is_number" [.var 0]) (.chain .LtE .LtE (.var 1) (.var 0) (.var 2)))]
def a2a':FT:=tbl [("is_number",a2q')]
theorem a1n':a2a' "is_number"=some a2q':=rfl
noncomputable def a0g':List D→Store→Res D:=runD a2a' G0 a1Z' a1Y'.length 3
def a6g':Ls:=["many","thing"]
noncomputable def a6h':List CS:=[.ret (.call "is_number_from" [.var 1,.lit (.int 0),.bin .Sub (.var 0) (.lit (.int 1))])]
def a6i':FT:=tbl [("is_number_from",a0g')]
theorem a1u':a6i' "is_number_from"=some a0g':=rfl
noncomputable def a1A':List D→Store→Res D:=runD a6i' G0 a6h' a6g'.length 2
def a4P':Ls:=["things"]
noncomputable def a4Q':List CS:=[.ret (.blt .all [.comp false ["one","other"] [none,none] (.tup [.var 0,.var 1]) (.zip [.var 0,.sl (.var 0) [.lit (.int 1)] []]) [] (.emit (.cmp .Lt (.var 0) (.var 1)))])]
def a8l':FT:=tbl []
noncomputable def a0r':List D→Store→Res D:=runD a8l' G0 a4Q' a4P'.length 1
def a4a':Ls:=["many","thing"]
noncomputable def a4b':List CS:=[.ret (.band (.blt .isinst [.var 1,.ty "tuple"]) (.blt .all [.comp false ["place","many"] [none,some 0] (.var 0) (.seq (.var 1)) [] (.emit (.call "is_place" [.var 1,.var 0]))]))]
def a4c':FT:=tbl [("is_place",a1A')]
theorem a2b':a4c' "is_place"=some a1A':=rfl
noncomputable def a0z':List D→Store→Res D:=runD a4c' G0 a4b' a4a'.length 2
def a9B':Ls:=["many","thing"]
noncomputable def a9C':List CS:=[.ret (.band (.call "are_places" [.var 0,.var 1]) (.band (.cmp .Eq (.blt .len [.var 1]) (.lit (.int 2))) (.call "is_rising" [.var 1])))]
def a6U':FT:=tbl [("are_places",a0z'),("is_rising",a0r')]
theorem a2N':a6U' "are_places"=some a0z':=rfl
theorem a3a':a6U' "is_rising"=some a0r':=rfl
noncomputable def a5t':List D→Store→Res D:=runD a6U' G0 a9C' a9B'.length 2
def a9D':Ls:=["thing","many","ties"]
noncomputable def a9E':List CS:=[.ite (.bor (.bnot (.blt .isinst [.var 0,.ty "tuple"])) (.cmp .NotEq (.blt .len [.var 0]) (.lit (.int 2)))) [.ret (.lit (.bl false))] [],.asgT (.tup [.var 1,.var 2]) (.var 0),.ite (.bor (.bnot (.call "is_number_from" [.var 1,.lit (.int 1),.glob "MOST_PLACES"])) (.bnot (.blt .isinst [.var 2,.ty "tuple"]))) [.ret (.lit (.bl false))] [],.ret (.band (.blt .all [.comp false ["tie","many"] [none,some 1] (.var 0) (.seq (.var 2)) [] (.emit (.call "is_tie" [.var 1,.var 0]))]) (.call "is_rising" [.var 2]))]
noncomputable def a5u':FT:=tbl [("is_rising",a0r'),("is_number_from",a0g'),("is_tie",a5t')]
theorem a3b':a5u' "is_rising"=some a0r':=rfl
theorem a1I':a5u' "is_number_from"=some a0g':=rfl
theorem a2c':a5u' "is_tie"=some a5t':=rfl
noncomputable def a2d':List D→Store→Res D:=runD a5u' G0 a9E' a9D'.length 1
def a7J':Ls:=["web","thing"]
noncomputable def a7K':List CS:=[.ret (.band (.call "are_places" [.idx (.var 0) (.lit (.int 0)),.var 1]) (.call "is_rising" [.var 1]))]
def a5v':FT:=tbl [("are_places",a0z'),("is_rising",a0r')]
theorem a2w':a5v' "are_places"=some a0z':=rfl
theorem a2O':a5v' "is_rising"=some a0r':=rfl
noncomputable def a3L':List D→Store→Res D:=runD a5v' G0 a7K' a7J'.length 2
def a3B':Ls:=["thing"]
noncomputable def a3C':List CS:=[.ite (.bnot (.call "is_web" [.var 0])) [.never] []]
def a3D':FT:=tbl [("is_web",a2d')]
theorem a2x':a3D' "is_web"=some a2d':=rfl
noncomputable def a0j':List D→Store→Res D:=runD a3D' G0 a3C' a3B'.length 1
def a2F':Ls:=["web","thing"]
noncomputable def a2G':List CS:=[.ite (.bnot (.call "is_place" [.idx (.var 0) (.lit (.int 0)),.var 1])) [.never] []]
def a2H':FT:=tbl [("is_place",a1A')]
theorem a1B':a2H' "is_place"=some a1A':=rfl
noncomputable def a0E':List D→Store→Res D:=runD a2H' G0 a2G' a2F'.length 2
def a3c':Ls:=["web","thing"]
noncomputable def a3d':List CS:=[.ite (.bnot (.call "is_some" [.var 0,.var 1])) [.never] []]
def a3e':FT:=tbl [("is_some",a3L')]
theorem a1S':a3e' "is_some"=some a3L':=rfl
noncomputable def a1f':List D→Store→Res D:=runD a3e' G0 a3d' a3c'.length 2
def a9F':Ls:=["one","other"]
noncomputable def a9G':List CS:=[.ret (.tup [.blt .min [.var 0,.var 1],.blt .max [.var 0,.var 1]])]
def b2W':FT:=tbl []
noncomputable def a5w':List D→Store→Res D:=runD b2W' G0 a9G' a9F'.length 2
def a6j':Ls:=["web","one","other"]
noncomputable def a6k':List CS:=[.ret (.cmp .In (.call "tie_of" [.var 1,.var 2]) (.idx (.var 0) (.lit (.int 1))))]
def a6l':FT:=tbl [("tie_of",a5w')]
theorem a3o':a6l' "tie_of"=some a5w':=rfl
noncomputable def a1C':List D→Store→Res D:=runD a6l' G0 a6k' a6j'.length 3
def n_near:Ls:=["web","place"]
noncomputable def c_near:List CS:=[.expr (.call "must_be_web" [.var 0]),.expr (.call "must_be_place" [.var 0,.var 1]),.ret (.blt .tuple [.comp false ["other","web","place"] [none,some 0,some 1] (.var 0) (.range [.idx (.var 0) (.lit (.int 0))]) [.call "have_tie" [.var 1,.var 2,.var 0]] (.emit (.var 0))])]
noncomputable def b0V':FT:=tbl [("must_be_web",a0j'),("must_be_place",a0E'),("have_tie",a1C')]
theorem a3f':b0V' "must_be_web"=some a0j':=rfl
theorem a2y':b0V' "must_be_place"=some a0E':=rfl
theorem a4d':b0V' "have_tie"=some a1C':=rfl
noncomputable def a6V':List D→Store→Res D:=runD b0V' G0 c_near n_near.length 2
noncomputable def a4e':Ls:=["web","left","start","reached","waiting","here","fresh"]
noncomputable def a2e':List CS:=[.asg 3 (.lst true [.var 2]),.asg 4 (.lst true [.var 2]),.while_ 100 (.var 4) [.asg 5 (.meth .pop (.var 4) []),.asg 6 (.comp false ["place","reached","web","here"] [none,some 3,some 0,some 5] (.var 0) (.seq (.var 1)) [.band (.cmp .NotIn (.var 0) (.var 1)) (.call "have_tie" [.var 2,.var 3,.var 0])] (.emit (.var 0))),.expr (.meth .extend (.var 3) [.var 6]),.expr (.meth .extend (.var 4) [.var 6])],.ret (.blt .tuple [.blt (.sorted false (.int)) [.var 3]])]
def a0n':FT:=tbl [("have_tie",a1C')]
theorem a2P':a0n' "have_tie"=some a1C':=rfl
noncomputable def a2f':List D→Store→Res D:=runD a0n' G0 a2e' a4e'.length 3
def a2g':Ls:=["web","some","left","found","place"]
noncomputable def a2h':List CS:=[.expr (.call "must_be_web" [.var 0]),.expr (.call "must_be_some" [.var 0,.var 1]),.asg 2 (.comp false ["place","some"] [none,some 1] (.var 0) (.range [.idx (.var 0) (.lit (.int 0))]) [.cmp .NotIn (.var 0) (.var 1)] (.emit (.var 0))),.asg 3 (.lst true []),.for_ (.var 4) (.seq (.var 2)) [.ite (.bnot (.blt .any [.comp false ["piece","place"] [none,some 4] (.var 0) (.seq (.var 3)) [] (.emit (.cmp .In (.var 1) (.var 0)))])) [.expr (.meth .append (.var 3) [.call "piece_of" [.var 0,.var 2,.var 4]])] []],.ret (.var 3)]
noncomputable def a0h':FT:=tbl [("must_be_web",a0j'),("must_be_some",a1f'),("piece_of",a2f')]
theorem a1g':a0h' "must_be_web"=some a0j':=rfl
theorem a0Z':a0h' "must_be_some"=some a1f':=rfl
theorem a1v':a0h' "piece_of"=some a2f':=rfl
noncomputable def a0f':List D→Store→Res D:=runD a0h' G0 a2h' a2g'.length 2
def a9H':Ls:=["web"]
noncomputable def a9I':List CS:=[.ret (.call "pieces_without" [.var 0,.tup []])]
def a9J':FT:=tbl [("pieces_without",a0f')]
theorem a1J':a9J' "pieces_without"=some a0f':=rfl
noncomputable def a1K':List D→Store→Res D:=runD a9J' G0 a9I' a9H'.length 1
def a2I':Ls:=["thing","least"]
noncomputable def a2J':List CS:=[.ite (.bnot (.call "is_number_from" [.var 0,.var 1,.glob "MOST_PLACES"])) [.never] []]
def a2K':FT:=tbl [("is_number_from",a0g')]
theorem a0X':a2K' "is_number_from"=some a0g':=rfl
noncomputable def a0i':List D→Store→Res D:=runD a2K' G0 a2J' a2I'.length 2
def n_row:Ls:=["n"]
noncomputable def c_row:List CS:=[.expr (.call "must_be_count" [.var 0,.lit (.int 1)]),.ret (.tup [.var 0,.blt .tuple [.comp false ["place"] [none] (.var 0) (.range [.bin .Sub (.var 0) (.lit (.int 1))]) [] (.emit (.tup [.var 0,.bin .Add (.var 0) (.lit (.int 1))]))]])]
def t_row:FT:=tbl [("must_be_count",a0i')]
theorem a2Q':t_row "must_be_count"=some a0i':=rfl
noncomputable def f_row:List D→Store→Res D:=runD t_row G0 c_row n_row.length 1
def n_ring:Ls:=["n","many","ties"]
noncomputable def c_ring:List CS:=[.expr (.call "must_be_count" [.var 0,.lit (.int 3)]),.asgT (.tup [.var 1,.var 2]) (.call "row" [.var 0]),.ret (.tup [.var 1,.blt .tuple [.blt (.sorted false (.seq .int)) [.bin .Add (.var 2) (.tup [.tup [.lit (.int 0),.bin .Sub (.var 0) (.lit (.int 1))]])]]])]
def b2X':FT:=tbl [("must_be_count",a0i'),("row",f_row)]
theorem a2z':b2X' "must_be_count"=some a0i':=rfl
theorem a8m':b2X' "row"=some f_row:=rfl
noncomputable def b0W':List D→Store→Res D:=runD b2X' G0 c_ring n_ring.length 1
def n_full:Ls:=["n"]
noncomputable def c_full:List CS:=[.expr (.call "must_be_count" [.var 0,.lit (.int 1)]),.ret (.tup [.var 0,.blt .tuple [.comp false ["low","high","n"] [none,none,some 0] (.var 0) (.range [.var 0]) [] (.inner (.var 1) (.range [.bin .Add (.var 0) (.lit (.int 1)),.var 2]) [] (.emit (.tup [.var 0,.var 1])))]])]
def t_full:FT:=tbl [("must_be_count",a0i')]
theorem a2A':t_full "must_be_count"=some a0i':=rfl
noncomputable def b0X':List D→Store→Res D:=runD t_full G0 c_full n_full.length 1
def a4R':Ls:=["a","b","many"]
noncomputable def a8n':List CS:=[.expr (.call "must_be_count" [.var 0,.lit (.int 1)]),.expr (.call "must_be_count" [.var 1,.lit (.int 1)]),.asg 2 (.bin .Add (.var 0) (.var 1)),.ite (.cmp .Gt (.var 2) (.glob "MOST_PLACES")) [.never] [],.ret (.tup [.var 2,.blt .tuple [.comp false ["left","right","a","many"] [none,none,some 0,some 2] (.var 0) (.range [.var 0]) [] (.inner (.var 1) (.range [.var 2,.var 3]) [] (.emit (.tup [.var 0,.var 1])))]])]
def a4S':FT:=tbl [("must_be_count",a0i')]
theorem a0F':a4S' "must_be_count"=some a0i':=rfl
noncomputable def a2r':List D→Store→Res D:=runD a4S' G0 a8n' a4R'.length 2
noncomputable def b2Y':Ls:=["web","other","ahead","ties","behind","more","many","moved"]
noncomputable def bsC:CE:=.comp false ["low","high","ahead"] [none,none,some 2] (.tup [.var 0,.var 1]) (.seq (.var 5)) [] (.emit (.tup [.bin .Add (.var 0) (.var 2),.bin .Add (.var 1) (.var 2)]))
noncomputable def a6W':List CS:=[.expr (.call "must_be_web" [.var 0]),.expr (.call "must_be_web" [.var 1]),.asgT (.tup [.var 2,.var 3]) (.var 0),.asgT (.tup [.var 4,.var 5]) (.var 1),.asg 6 (.bin .Add (.var 2) (.var 4)),.ite (.cmp .Gt (.var 6) (.glob "MOST_PLACES")) [.never] [],.asg 7 (.blt .tuple [bsC]),.ret (.tup [.var 6,.bin .Add (.var 3) (.var 7)])]
def a2R':FT:=tbl [("must_be_web",a0j')]
theorem a1d':a2R' "must_be_web"=some a0j':=rfl
noncomputable def a3p':List D→Store→Res D:=runD a2R' G0 a6W' b2Y'.length 2
def a4f':Ls:=["_law_pen_here","_law_many","_law_found"]
noncomputable def a4g':List CS:=[.ite (.cmp .Eq (.idx (.var 0) (.lit (.int 1))) (.lit (.int 1))) [.asg 2 (.bin .Mod (.idx (.var 0) (.lit (.int 0))) (.var 1)),.set (.var 0) (.lit (.int 0)) (.bin .FloorDiv (.idx (.var 0) (.lit (.int 0))) (.var 1)),.ret (.var 2)] [],.set (.var 0) (.lit (.int 0)) (.bin .Mod (.bin .Add (.bin .Mult (.bin .Mod (.idx (.var 0) (.lit (.int 0))) (.lit (.int 2147483629))) (.lit (.int 48271))) (.lit (.int 11))) (.lit (.int 2147483629))),.ret (.bin .Mod (.bin .FloorDiv (.bin .Mod (.bin .Add (.bin .Mult (.idx (.var 0) (.lit (.int 0))) (.idx (.var 0) (.lit (.int 0)))) (.bin .Mult (.lit (.int 40692)) (.idx (.var 0) (.lit (.int 0))))) (.lit (.int 2147483647))) (.lit (.int 8))) (.var 1))]
def a9K':FT:=tbl []
noncomputable def a0w':List D→Store→Res D:=runD a9K' G0 a4g' a4f'.length 2
def a4h':Ls:=["_law_pen_here","_law_many","_law_often"]
noncomputable def a6m':List CS:=[.asg 2 (.bin .Add (.lit (.int 1)) (.call "_law_draw" [.var 0,.lit (.int 3)])),.ret (.blt .tuple [.comp false ["_law_place","_law_pen_here","_law_often"] [none,some 0,some 2] (.var 0) (.range [.var 1]) [.cmp .Lt (.call "_law_draw" [.var 1,.lit (.int 4)]) (.var 2)] (.emit (.var 0))])]
def a3g':FT:=tbl [("_law_draw",a0w')]
theorem a1i':a3g' "_law_draw"=some a0w':=rfl
noncomputable def a1D':List D→Store→Res D:=runD a3g' G0 a6m' a4h'.length 2
def a6n':Ls:=["_law_script","_law_k"]
noncomputable def a6o':List CS:=[.ite (.cmp .Lt (.var 1) (.blt .len [.var 0])) [.ret (.idx (.var 0) (.var 1))] [],.ret (.lit (.int 0))]
def a9L':FT:=tbl []
noncomputable def a1E':List D→Store→Res D:=runD a9L' G0 a6o' a6n'.length 2
def a3M':Ls:=["_law_cell_here"]
noncomputable def a3N':List CS:=[.ret (.lst true [.var 0,.blt .int [.cmp .GtE (.var 0) (.bin .Pow (.lit (.int 10)) (.lit (.int 18)))]])]
def a5x':FT:=tbl []
noncomputable def a2s':List D→Store→Res D:=runD a5x' G0 a3N' a3M'.length 1
def a4T':Ls:=["_law_many","_law_found","_law_one"]
noncomputable def a4U':List CS:=[.asg 1 (.lst false []),.for_ (.var 2) (.range [.var 0]) [.asg 1 (.bin .Add (.var 1) (.comp false ["_law_other","_law_one"] [none,some 2] (.var 0) (.range [.bin .Add (.var 2) (.lit (.int 1)),.var 0]) [] (.emit (.tup [.var 1,.var 0]))))],.ret (.var 1)]
def a4V':FT:=tbl []
noncomputable def a2t':List D→Store→Res D:=runD a4V' G0 a4U' a4T'.length 1
noncomputable def b0Y':Ls:=["_law_pen_here","_law_upto","_law_many","_law_way","_law_rest","_law_mids","_law_often"]
noncomputable def a3h':List CS:=[.asg 2 (.bin .Sub (.bin .Sub (.bin .Add (.lit (.int 1)) (.var 1)) (.lit (.int 1))) (.bin .Mod (.idx (.lst false [.lit (.int 0),.lit (.int 0),.lit (.int 1),.lit (.int 0),.lit (.int 2),.lit (.int 1),.lit (.int 3),.lit (.int 4),.lit (.int 5),.lit (.int 6),.lit (.int 7),.lit (.int 0)]) (.call "_law_draw" [.var 0,.lit (.int 12)])) (.var 1))),.asg 3 (.call "_law_draw" [.var 0,.lit (.int 9)]),.ite (.band (.cmp .Eq (.var 3) (.lit (.int 0))) (.cmp .Gt (.var 2) (.lit (.int 2)))) [.ret (.tup [.var 2,.blt .tuple [.blt (.sorted false (.seq .int)) [.bin .Add (.comp false ["_law_k"] [none] (.var 0) (.range [.bin .Sub (.var 2) (.lit (.int 1))]) [] (.emit (.tup [.var 0,.bin .Add (.var 0) (.lit (.int 1))]))) (.lst false [.tup [.lit (.int 0),.bin .Sub (.var 2) (.lit (.int 1))]])]]])] [],.ite (.band (.cmp .Eq (.var 3) (.lit (.int 1))) (.cmp .Gt (.var 2) (.lit (.int 5)))) [.asg 4 (.bin .Add (.comp false ["_law_k"] [none] (.var 0) (.range [.lit (.int 3),.bin .Sub (.var 2) (.lit (.int 1))]) [] (.emit (.tup [.var 0,.bin .Add (.var 0) (.lit (.int 1))]))) (.lst false [.tup [.lit (.int 3),.bin .Sub (.var 2) (.lit (.int 1))],.tup [.lit (.int 2),.lit (.int 3)]])),.ret (.tup [.var 2,.blt .tuple [.blt (.sorted false (.seq .int)) [.bin .Add (.lst false [.tup [.lit (.int 0),.lit (.int 1)],.tup [.lit (.int 0),.lit (.int 2)],.tup [.lit (.int 1),.lit (.int 2)]]) (.var 4)]]])] [],.ite (.band (.cmp .Eq (.var 3) (.lit (.int 2))) (.cmp .Gt (.var 2) (.lit (.int 2)))) [.asg 5 (.bin .Add (.lit (.int 1)) (.call "_law_draw" [.var 0,.lit (.int 2)])),.ret (.tup [.var 2,.blt .tuple [.comp false ["_law_tie","_law_mids"] [none,some 5] (.var 0) (.seq (.call "_law_pairs" [.var 2])) [.chain .Lt .LtE (.idx (.var 0) (.lit (.int 0))) (.var 1) (.idx (.var 0) (.lit (.int 1)))] (.emit (.var 0))]])] [],.ite (.cmp .Eq (.var 3) (.lit (.int 3))) [.ret (.tup [.var 2,.blt .tuple [.blt (.sorted false (.seq .int)) [.comp false ["_law_place","_law_pen_here"] [none,some 0] (.var 0) (.range [.lit (.int 1),.var 2]) [] (.emit (.tup [.call "_law_draw" [.var 1,.var 0],.var 0]))]]])] [],.asg 6 (.idx (.lst false [.lit (.int 2),.lit (.int 3),.lit (.int 4),.lit (.int 6),.lit (.int 8)]) (.call "_law_draw" [.var 0,.lit (.int 5)])),.ret (.tup [.var 2,.blt .tuple [.comp false ["_law_tie","_law_pen_here","_law_often"] [none,some 0,some 6] (.var 0) (.seq (.call "_law_pairs" [.var 2])) [.cmp .Lt (.call "_law_draw" [.var 1,.lit (.int 8)]) (.var 2)] (.emit (.var 0))]])]
def a0k':FT:=tbl [("_law_draw",a0w'),("_law_pairs",a2t')]
theorem a0b':a0k' "_law_draw"=some a0w':=rfl
theorem a0t':a0k' "_law_pairs"=some a2t':=rfl
noncomputable def a1L':List D→Store→Res D:=runD a0k' G0 a3h' b0Y'.length 2
noncomputable def a1w':Ls:=["_law_pen_here","_law_web_here","_law_one","_law_other","_law_rows","_law_piece","_law_place","_law_some_here"]
def wrL:CE:=.range [.idx (.var 1) (.lit (.int 0))]
noncomputable def wr1:CE:=.bor (.cmp .NotEq (.cmp .In (.var 3) (.call "near" [.var 1,.var 2])) (.cmp .In (.var 2) (.call "near" [.var 1,.var 3]))) (.cmp .In (.var 2) (.call "near" [.var 1,.var 2]))
noncomputable def wr2c:CE:=.comp false ["_law_piece"] [none] (.var 0) (.seq (.var 4)) [] (.emit (.blt (.list false) [.var 0]))
noncomputable def wr2:CE:=.cmp .NotEq (.blt (.sorted false (.int)) [.sumL wr2c]) (.rng false false [.idx (.var 1) (.lit (.int 0))])
noncomputable def wr3c:CE:=.comp false ["_law_other","_law_piece"] [none,some 5] (.var 0) (.seq (.call "near" [.var 1,.var 6])) [.cmp .NotIn (.var 0) (.var 1)] (.emit (.var 0))
def wr3:CE:=.cmp .NotEq wr3c (.lst false [])
noncomputable def wr4i:CE:=.comp false ["_law_one","_law_wide"] [none,some 0] (.var 0) (.seq (.var 1)) [.cmp .NotIn (.var 0) (.var 1)] (.emit (.var 0))
noncomputable def wr4c:CE:=.comp false ["_law_wide","_law_piece"] [none,some 5] (.var 0) (.seq (.call "pieces_without" [.var 1,.sl (.var 7) [.lit (.int 1)] []])) [.cmp .Eq wr4i (.lst false [])] (.emit (.lit (.int 1)))
def wr4:CE:=.cmp .NotEq wr4c (.lst false [.lit (.int 1)])
noncomputable def a0G':List CS:=[.for_ (.var 2) wrL [.for_ (.var 3) wrL [.ite wr1 [.ret (.lit (.bl false))] []]],.asg 4 (.call "pieces" [.var 1]),.ite wr2 [.ret (.lit (.bl false))] [],.for_ (.var 5) (.seq (.var 4)) [.for_ (.var 6) (.seq (.var 5)) [.ite wr3 [.ret (.lit (.bl false))] []]],.asg 7 (.call "_law_some" [.var 0,.idx (.var 1) (.lit (.int 0))]),.for_ (.var 5) (.seq (.call "pieces_without" [.var 1,.var 7])) [.ite wr4 [.ret (.lit (.bl false))] []],.ret (.lit (.bl true))]
noncomputable def a0a':FT:=tbl [("pieces",a1K'),("_law_some",a1D'),("pieces_without",a0f'),("near",a6V')]
theorem a1T':a0a' "pieces"=some a1K':=rfl
theorem a1F':a0a' "_law_some"=some a1D':=rfl
theorem a0s':a0a' "pieces_without"=some a0f':=rfl
theorem a2B':a0a' "near"=some a6V':=rfl
noncomputable def a0U':List D→Store→Res D:=runD a0a' G0 a0G' a1w'.length 2
noncomputable def n_law:Ls:=["_law_script","_law_cell_here","_law_pen_here","_law_one","_law_other","_law_web_here","_law_both","_law_moved","_law_many"]
noncomputable def lI:CE:=.seq (.bin .Add (.lst false [.call "_law_cell" [.var 0,.lit (.int 0)]]) (.sl (.var 0) [.lit (.int 1)] [.lit (.int 6)]))
noncomputable def lwE:CE:=.tup [.call "_law_web" [.var 2,.lit (.int 4)],.call "_law_web" [.var 2,.lit (.int 4)],.call "_law_web" [.var 2,.lit (.int 8)]]
noncomputable def mvI:CE:=.comp false ["_law_place","_law_one"] [none,some 1] (.var 0) (.seq (.var 0)) [] (.emit (.bin .Add (.idx (.var 1) (.lit (.int 0))) (.var 0)))
noncomputable def mvC:CE:=.comp false ["_law_piece","_law_one"] [none,some 3] (.var 0) (.seq (.call "pieces" [.var 4])) [] (.emit (.blt .tuple [mvI]))
noncomputable def lC1:CE:=.bor (.bnot (.call "is_web" [.var 6])) (.bor (.cmp .NotEq (.call "pieces" [.var 6]) (.bin .Add (.call "pieces" [.var 3]) (.var 7))) (.bnot (.call "_law_web_right" [.var 2,.var 5])))
def lC2:CE:=.bnot (.call "_law_web_right" [.var 2,.var 6])
noncomputable def lA:List CS:=[.asg 2 (.call "_law_pen" [.var 1]),.asgT (.tup [.var 3,.var 4,.var 5]) lwE,.asg 6 (.call "beside" [.var 3,.var 4]),.asg 7 mvC,.ite lC1 [.ret (.lit (.bl false))] [],.ite lC2 [.ret (.lit (.bl false))] []]
noncomputable def q1:CE:=.bor (.cmp .NotEq (.blt .len [.call "pieces" [.call "row" [.var 8]]]) (.lit (.int 1))) (.cmp .NotEq (.blt .len [.call "pieces" [.call "full" [.var 8]]]) (.lit (.int 1)))
def qG:CE:=.cmp .Gt (.var 8) (.lit (.int 2))
noncomputable def q2:CE:=.band qG (.cmp .NotEq (.blt .len [.call "pieces_without" [.call "row" [.var 8],.tup [.lit (.int 1)]]]) (.lit (.int 2)))
noncomputable def q3:CE:=.band qG (.cmp .NotEq (.blt .len [.call "pieces_without" [.call "ring" [.var 8],.tup [.bin .Sub (.var 8) (.lit (.int 1))]]]) (.lit (.int 1)))
noncomputable def q4:CE:=.band qG (.cmp .NotEq (.blt .len [.call "pieces_without" [.call "full" [.var 8],.tup [.lit (.int 0)]]]) (.lit (.int 1)))
noncomputable def q5i:CE:=.idx (.lst false [.lit (.int 1),.lit (.int 7)]) (.blt .int [.cmp .Eq (.var 8) (.lit (.int 1))])
noncomputable def q5:CE:=.band (.cmp .Lt (.var 8) (.lit (.int 8))) (.cmp .NotEq (.blt .len [.call "pieces_without" [.call "sides_web" [.var 8,.bin .Sub (.lit (.int 8)) (.var 8)],.tup [.lit (.int 0)]]]) q5i)
noncomputable def lB:List CS:=[.ite q1 [.ret (.lit (.bl false))] [],.ite q2 [.ret (.lit (.bl false))] [],.ite q3 [.ret (.lit (.bl false))] [],.ite q4 [.ret (.lit (.bl false))] [],.ite q5 [.ret (.lit (.bl false))] []]
noncomputable def c_law:List CS:=[.for_ (.var 1) lI lA,.for_ (.var 8) (.range [.lit (.int 1),.lit (.int 9)]) lB,.ret (.lit (.bl true))]
noncomputable def t_law:FT:=tbl [("_law_pen",a2s'),("beside",a3p'),("_law_cell",a1E'),("_law_web",a1L'),("_law_web_right",a0U'),("pieces",a1K'),("is_web",a2d'),("pieces_without",a0f'),("row",f_row),("full",b0X'),("ring",b0W'),("sides_web",a2r')]
theorem a5y':t_law "_law_pen"=some a2s':=rfl
theorem a6p':t_law "beside"=some a3p':=rfl
theorem a4A':t_law "_law_cell"=some a1E':=rfl
theorem a1M':t_law "_law_web"=some a1L':=rfl
theorem a1j':t_law "_law_web_right"=some a0U':=rfl
theorem a1q':t_law "pieces"=some a1K':=rfl
theorem a6q':t_law "is_web"=some a2d':=rfl
theorem a2C':t_law "pieces_without"=some a0f':=rfl
theorem a9M':t_law "row"=some f_row:=rfl
theorem a8o':t_law "full"=some b0X':=rfl
theorem a8p':t_law "ring"=some b0W':=rfl
theorem a4i':t_law "sides_web"=some a2r':=rfl
noncomputable def f_law:List D→Store→Res D:=runD t_law G0 c_law n_law.length 1
noncomputable def top(i:Nat):Stmt:=PySem.Challenge.pw_pairwebs_k05_whole_webs_made_of_webs.main.body.getD i (.Pass ⟨0,0,0,0⟩)
def DefIn(K:Fg)(x:Str)(st:Stmt):Prop:=∃f fd,PySem.W.nsIn K mainGlobals x=some (some (.ref f))∧Fun K x x st f fd
theorem dm{x:Str}{an:Option Addr}{kV:Value}(a:PySem.W.nsIn K mainGlobals x=some (some (.ref f)))(l:K.lookup f=some ⟨oc,od,.func (PySem.W.fnOf x x (a4E' st) (a1c' st) (a0x' st) .none kV doc pm an cdv ct),osl⟩)
  (c:PySem.W.codeIn K cdv x=true) (k:PySem.W.keepIn K (.ref f)=true):DefIn K x st:=⟨f,_,a,fun_mk l c k⟩
noncomputable def b2Z'(N P:Ls)(sc:Scope):Bool:=(sc.kind== .function)&& !sc.isCoroutine&& !sc.isGenerator&&a8c' N&&(N.take P.length==P)&&P.all (λx=>sc.names.lookup x==some .local||sc.names.lookup x==some .cell)&&sc.names.all (λy=>y.2 !=.free)
theorem a4W'{P:Ls}{sc:Scope}(h:b2Z' N P sc=true):FnScope N P sc:=by unfold b2Z' at h;simp only[ZB,beq_iff_eq,ZD,Bool.or_eq_true,bne_iff_ne,Bool.not_eq_true']at h;obtain⟨⟨⟨⟨⟨⟨h1,h2⟩,h3⟩,h4⟩,h5⟩,h6⟩,h7⟩:=h;exact⟨h1,h2,h3,a3m' h4,h5,h6,h7⟩
structure En (K:Fg)(mg:Mg)(h:Heap):Prop where
 X:K.In h
 G:h.Ns mainGlobals mg
 hg:∀x d,G0 x=some d→∃v u,mg x=some u∧RelV v u∧∀F μ H,Rep K ⟨mg,F⟩ μ H d v
 hb:∀x∈a1V',mg x=none
section
variable {P:Program}{j:Nat}
theorem fe{x:Str}(E:En K mg h)(d:DefIn K x st)
  (hb:∀(kV doc pm:Value) (an:Option Addr) (cdv ct:Value) (us:Lv),us.length=ps.length→bindArgs (PySem.W.fnOf x x (a4E' st) (a1c' st) (a0x' st) .none kV doc pm an cdv ct) ⟨us,[]⟩=pure (ps.zip us))
  (H:∀p∈l,FOk P w K mg base CX0 k p.1 p.2) (he:emSs body N (a1c' st)=a1c' st) (S:(b2Z' N ps (a0x' st)&&sdSs body N (a0x' st).names (a1c' st))=true):FOk P w K mg base CX0 (k+1) x (runD (tbl l) G0 body N.length ps.length):=by
 obtain⟨f,fd,a,F⟩:=d;have S:=Bool.and_eq_true_iff.mp S;exact fok F (a4W' S.1) (PySem.W.mg_of E.X E.G a) (F.binds hb) (mok H E.hg E.hb) he S.2
theorem an:∀p∈([]:List (Str×(List D→Store→Res D))),FOk P w K mg base CX0 k p.1 p.2:=λp h=>(ZO h).elim
theorem ac{x:Str}(F:FOk P w K mg base CX0 j x φ)(hj:j≤k)(r:∀p∈l,FOk P w K mg base CX0 k p.1 p.2):∀p∈(x,φ)::l,FOk P w K mg base CX0 k p.1 p.2:=λp hp=>by
 rcases Zm.mp hp with rfl|h
 ·exact F.mono hj
 ·exact r p h
end
structure Df (K:Fg):Prop where
 d_is_number:DefIn K "is_number" (top 9)
 d_is_number_from:DefIn K "is_number_from" (top 10)
 d_is_place:DefIn K "is_place" (top 11)
 d_is_rising:DefIn K "is_rising" (top 12)
 d_are_places:DefIn K "are_places" (top 13)
 d_is_tie:DefIn K "is_tie" (top 14)
 d_is_web:DefIn K "is_web" (top 15)
 d_is_some:DefIn K "is_some" (top 16)
 d_must_be_web:DefIn K "must_be_web" (top 17)
 d_must_be_place:DefIn K "must_be_place" (top 18)
 d_must_be_some:DefIn K "must_be_some" (top 19)
 d_tie_of:DefIn K "tie_of" (top 20)
 d_have_tie:DefIn K "have_tie" (top 21)
 d_near:DefIn K "near" (top 22)
 d_piece_of:DefIn K "piece_of" (top 23)
 d_pieces_without:DefIn K "pieces_without" (top 24)
 d_pieces:DefIn K "pieces" (top 25)
 d_must_be_count:DefIn K "must_be_count" (top 27)
 d_row:DefIn K "row" (top 28)
 d_ring:DefIn K "ring" (top 29)
 d_full:DefIn K "full" (top 30)
 d_sides_web:DefIn K "sides_web" (top 31)
 d_beside:DefIn K "beside" (top 32)
 d_law_draw:DefIn K "_law_draw" (top 34)
 d_law_some:DefIn K "_law_some" (top 35)
 d_law_cell:DefIn K "_law_cell" (top 36)
 d_law_pen:DefIn K "_law_pen" (top 37)
 d_law_pairs:DefIn K "_law_pairs" (top 38)
 d_law_web:DefIn K "_law_web" (top 39)
 d_law_web_right:DefIn K "_law_web_right" (top 40)
 d_law:DefIn K "law" (top 41)
section
variable {P:Program}(E9:En K mg h)(D9:Df K)
include E9 D9
theorem a6X':FOk P w K mg base CX0 1 "is_number" a2q':=fe (ps:=["thing"]) E9 D9.d_is_number (λ_ _ _ _ _ _=>len1 λ_=>rfl) an rfl (by decide+kernel)
theorem a1a':FOk P w K mg base CX0 2 "is_number_from" a0g':=fe (ps:=["thing","low","high"]) E9 D9.d_is_number_from (λ_ _ _ _ _ _=>len3 λ_ _ _=>rfl) (ac (a6X' E9 D9) (by decide) an) rfl (by decide+kernel)
theorem a4X':FOk P w K mg base CX0 3 "is_place" a1A':=fe (ps:=["many","thing"]) E9 D9.d_is_place (λ_ _ _ _ _ _=>len2 λ_ _=>rfl) (ac (a1a' E9 D9) (by decide) an) rfl (by decide+kernel)
theorem a2S':FOk P w K mg base CX0 1 "is_rising" a0r':=fe (ps:=["things"]) E9 D9.d_is_rising (λ_ _ _ _ _ _=>len1 λ_=>rfl) an rfl (by decide+kernel)
theorem a3E':FOk P w K mg base CX0 4 "are_places" a0z':=fe (ps:=["many","thing"]) E9 D9.d_are_places (λ_ _ _ _ _ _=>len2 λ_ _=>rfl) (ac (a4X' E9 D9) (by decide) an) rfl (by decide+kernel)
theorem b0Z':FOk P w K mg base CX0 5 "is_tie" a5t':=fe (ps:=["many","thing"]) E9 D9.d_is_tie (λ_ _ _ _ _ _=>len2 λ_ _=>rfl) (ac (a3E' E9 D9) (by decide) (ac (a2S' E9 D9) (by decide) an)) rfl (by decide+kernel)
theorem a5z':FOk P w K mg base CX0 6 "is_web" a2d':=fe (ps:=["thing"]) E9 D9.d_is_web (λ_ _ _ _ _ _=>len1 λ_=>rfl) (ac (a2S' E9 D9) (by decide) (ac (a1a' E9 D9) (by decide) (ac (b0Z' E9 D9) (by decide) an))) rfl (by decide+kernel)
theorem a9N':FOk P w K mg base CX0 5 "is_some" a3L':=fe (ps:=["web","thing"]) E9 D9.d_is_some (λ_ _ _ _ _ _=>len2 λ_ _=>rfl) (ac (a3E' E9 D9) (by decide) (ac (a2S' E9 D9) (by decide) an)) rfl (by decide+kernel)
theorem a1N':FOk P w K mg base CX0 7 "must_be_web" a0j':=fe (ps:=["thing"]) E9 D9.d_must_be_web (λ_ _ _ _ _ _=>len1 λ_=>rfl) (ac (a5z' E9 D9) (by decide) an) rfl (by decide+kernel)
theorem a4j':FOk P w K mg base CX0 4 "must_be_place" a0E':=fe (ps:=["web","thing"]) E9 D9.d_must_be_place (λ_ _ _ _ _ _=>len2 λ_ _=>rfl) (ac (a4X' E9 D9) (by decide) an) rfl (by decide+kernel)
theorem a4B':FOk P w K mg base CX0 6 "must_be_some" a1f':=fe (ps:=["web","thing"]) E9 D9.d_must_be_some (λ_ _ _ _ _ _=>len2 λ_ _=>rfl) (ac (a9N' E9 D9) (by decide) an) rfl (by decide+kernel)
theorem b1a':FOk P w K mg base CX0 1 "tie_of" a5w':=fe (ps:=["one","other"]) E9 D9.d_tie_of (λ_ _ _ _ _ _=>len2 λ_ _=>rfl) an rfl (by decide+kernel)
theorem a4Y':FOk P w K mg base CX0 2 "have_tie" a1C':=fe (ps:=["web","one","other"]) E9 D9.d_have_tie (λ_ _ _ _ _ _=>len3 λ_ _ _=>rfl) (ac (b1a' E9 D9) (by decide) an) rfl (by decide+kernel)
theorem ok_near:FOk P w K mg base CX0 8 "near" a6V':=fe (ps:=["web","place"]) E9 D9.d_near (λ_ _ _ _ _ _=>len2 λ_ _=>rfl) (ac (a1N' E9 D9) (by decide) (ac (a4j' E9 D9) (by decide) (ac (a4Y' E9 D9) (by decide) an))) rfl (by decide+kernel)
theorem a8q':FOk P w K mg base CX0 3 "piece_of" a2f':=fe (ps:=["web","left","start"]) E9 D9.d_piece_of (λ_ _ _ _ _ _=>len3 λ_ _ _=>rfl) (ac (a4Y' E9 D9) (by decide) an) rfl (by decide+kernel)
theorem a0I':FOk P w K mg base CX0 8 "pieces_without" a0f':=fe (ps:=["web","some"]) E9 D9.d_pieces_without (λ_ _ _ _ _ _=>len2 λ_ _=>rfl) (ac (a1N' E9 D9) (by decide) (ac (a4B' E9 D9) (by decide) (ac (a8q' E9 D9) (by decide) an))) rfl (by decide+kernel)
theorem a5A':FOk P w K mg base CX0 9 "pieces" a1K':=fe (ps:=["web"]) E9 D9.d_pieces (λ_ _ _ _ _ _=>len1 λ_=>rfl) (ac (a0I' E9 D9) (by decide) an) rfl (by decide+kernel)
theorem a0N':FOk P w K mg base CX0 3 "must_be_count" a0i':=fe (ps:=["thing","least"]) E9 D9.d_must_be_count (λ_ _ _ _ _ _=>len2 λ_ _=>rfl) (ac (a1a' E9 D9) (by decide) an) rfl (by decide+kernel)
theorem b3a':FOk P w K mg base CX0 4 "row" f_row:=fe (ps:=["n"]) E9 D9.d_row (λ_ _ _ _ _ _=>len1 λ_=>rfl) (ac (a0N' E9 D9) (by decide) an) rfl (by decide+kernel)
theorem b1O':FOk P w K mg base CX0 5 "ring" b0W':=fe (ps:=["n"]) E9 D9.d_ring (λ_ _ _ _ _ _=>len1 λ_=>rfl) (ac (a0N' E9 D9) (by decide) (ac (b3a' E9 D9) (by decide) an)) rfl (by decide+kernel)
theorem b1P':FOk P w K mg base CX0 4 "full" b0X':=fe (ps:=["n"]) E9 D9.d_full (λ_ _ _ _ _ _=>len1 λ_=>rfl) (ac (a0N' E9 D9) (by decide) an) rfl (by decide+kernel)
theorem a4k':FOk P w K mg base CX0 4 "sides_web" a2r':=fe (ps:=["a","b"]) E9 D9.d_sides_web (λ_ _ _ _ _ _=>len2 λ_ _=>rfl) (ac (a0N' E9 D9) (by decide) an) rfl (by decide+kernel)
theorem a7L':FOk P w K mg base CX0 8 "beside" a3p':=fe (ps:=["web","other"]) E9 D9.d_beside (λ_ _ _ _ _ _=>len2 λ_ _=>rfl) (ac (a1N' E9 D9) (by decide) an) rfl (by decide+kernel)
theorem a4Z':FOk P w K mg base CX0 1 "_law_draw" a0w':=fe (ps:=["_law_pen_here","_law_many"]) E9 D9.d_law_draw (λ_ _ _ _ _ _=>len2 λ_ _=>rfl) an rfl (by decide+kernel)
theorem a8r':FOk P w K mg base CX0 2 "_law_some" a1D':=fe (ps:=["_law_pen_here","_law_many"]) E9 D9.d_law_some (λ_ _ _ _ _ _=>len2 λ_ _=>rfl) (ac (a4Z' E9 D9) (by decide) an) rfl (by decide+kernel)
theorem a5a':FOk P w K mg base CX0 1 "_law_cell" a1E':=fe (ps:=["_law_script","_law_k"]) E9 D9.d_law_cell (λ_ _ _ _ _ _=>len2 λ_ _=>rfl) an rfl (by decide+kernel)
theorem a6r':FOk P w K mg base CX0 1 "_law_pen" a2s':=fe (ps:=["_law_cell_here"]) E9 D9.d_law_pen (λ_ _ _ _ _ _=>len1 λ_=>rfl) an rfl (by decide+kernel)
theorem a6Y':FOk P w K mg base CX0 1 "_law_pairs" a2t':=fe (ps:=["_law_many"]) E9 D9.d_law_pairs (λ_ _ _ _ _ _=>len1 λ_=>rfl) an rfl (by decide+kernel)
theorem a6s':FOk P w K mg base CX0 2 "_law_web" a1L':=fe (ps:=["_law_pen_here","_law_upto"]) E9 D9.d_law_web (λ_ _ _ _ _ _=>len2 λ_ _=>rfl) (ac (a4Z' E9 D9) (by decide) (ac (a6Y' E9 D9) (by decide) an)) rfl (by decide+kernel)
theorem a2i':FOk P w K mg base CX0 10 "_law_web_right" a0U':=fe (ps:=["_law_pen_here","_law_web_here"]) E9 D9.d_law_web_right (λ_ _ _ _ _ _=>len2 λ_ _=>rfl) (ac (a5A' E9 D9) (by decide) (ac (a8r' E9 D9) (by decide) (ac (a0I' E9 D9) (by decide) (ac (ok_near E9 D9) (by decide) an)))) rfl (by decide+kernel)
theorem ok_law:FOk P w K mg base CX0 11 "law" f_law:=fe (ps:=["_law_script"]) E9 D9.d_law (λ_ _ _ _ _ _=>len1 λ_=>rfl) (ac (a6r' E9 D9) (by decide) (ac (a7L' E9 D9) (by decide) (ac (a5a' E9 D9) (by decide) (ac (a6s' E9 D9) (by decide) (ac (a2i' E9 D9) (by decide) (ac (a5A' E9 D9) (by decide) (ac (a5z' E9 D9) (by decide) (ac (a0I' E9 D9) (by decide) (ac (b3a' E9 D9) (by decide) (ac (b1P' E9 D9) (by decide) (ac (b1O' E9 D9) (by decide) (ac (a4k' E9 D9) (by decide) an)))))))))))) rfl (by decide+kernel)
end
noncomputable def spLaw(K:Fg):Sp:=λvs H Q _=>∃(a:Addr) (ns:Li),vs=[.ref a]∧Only H∧SqL K H a (ns.map V.int)∧ns.length≤63∧∀H',Q (.bl true) H'
def Good(f:List D→Store→Res D):Prop:=∀ns:Li,ns.length≤63→∃S',f [.scr (ns.map D.int)] []=.ok (.bl true) S'
theorem a7M'{K:Fg}{mg:GS}{μ:La}{H:Hp}:∀ns:Li,RepL K mg μ H (ns.map D.int) (ns.map V.int)
 | []=>.nil
 |n::ns=>.cons a1m' (a7M' ns)
theorem sp_of{f:List D→Store→Res D}(g:Good f):∀vs H Q E,spLaw K vs H Q E→spOf K mg 1 f vs H Q E:=by
 rintro vs H Q E ⟨a,ns,rfl,ho,hs,hl,q⟩;refine⟨rfl,[],[],[],[.scr (ns.map D.int)],⟨λa h=>(by cases h),rfl,List.nodup_nil,λn a ds h=>(by cases h)⟩,.cons ?_ .nil,?_⟩
 ·unfold Rep;refine⟨a,ns.map V.int,rfl,?_,a7M' ns⟩;rcases hs with(h| ⟨o,h⟩)|h
  ·rcases ho a with z| ⟨o,xs,z⟩<;>rw[z]at h<;>cases h
  ·exact .inl ⟨o,h⟩
  ·exact .inr h
 ·obtain⟨S',e⟩:=g ns hl;rw[e];intro μ' H' b x s r;unfold Rep at r;rw[r];exact q H'
theorem all_mk{l:PySem.W.OpenLaw}(X:K.In h)(G:h.Ns mainGlobals mg)(hfa:mg "law"=some (.ref fa))(good:Good f_law)(D:Df K)(Z:∀x∈a1V',PySem.W.nsIn K mainGlobals x=some none)
  {gi0:Tok} (mp0:PySem.W.nsIn K mainGlobals "MOST_PLACES"=some (some (.int 8 gi0))):
  ∃fd:FuncData,(∀(s:Shared) (v:Value),BindsTo s fd ⟨[v],[]⟩ [("_law_script",v)])∧∀base:Heap,K.In base→base.Ns mainGlobals mg→FnOk l.prog w K mg base CX0 11 fa fd ["_law_script"] (spLaw K):=by
 have hg:∀x d,G0 x=some d→∃v u,mg x=some u∧RelV v u∧∀F μ H,Rep K ⟨mg,F⟩ μ H d v:=λx d e=>by
  unfold G0 at e;rw[List.lookup_cons]at e;split at e
  ·rename_i hx;cases e;have hx':x="MOST_PLACES":=by simpa using hx
   subst hx';exact⟨.int 8,_,PySem.W.mg_of X G mp0,⟨_,rfl⟩,λ_ _ _=>a1m'⟩
  cases e
 have E:En K mg h:=⟨X,G,hg,λx hx=>PySem.W.mg_none_of X G (Z x hx)⟩;obtain⟨f,fd,a,F⟩:=D.d_law;have e:=hfa.symm.trans (PySem.W.mg_of X G a);cases e;have S:FnScope n_law ["_law_script"] (a0x' (top 41)):=a4W' (by decide+kernel);refine⟨fd,λs v=>?_,λbase _ _=>?_⟩
 ·obtain⟨oc,od,kV,doc,pm,an,cdv,ct,osl,rfl,lk,hcd⟩:=F.ex;exact .of_eq rfl
 ·exact FnOk.imp (fnok (k:=10) F S (mok (ac (a6r' E D) (by decide) (ac (a7L' E D) (by decide) (ac (a5a' E D) (by decide) (ac (a6s' E D) (by decide) (ac (a2i' E D) (by decide) (ac (a5A' E D) (by decide) (ac (a5z' E D) (by decide) (ac (a0I' E D) (by decide) (ac (b3a' E D) (by decide) (ac (b1P' E D) (by decide) (ac (b1O' E D) (by decide) (ac (a4k' E D) (by decide) an)))))))))))) hg E.hb) rfl (by decide+kernel)) (sp_of good)
mutual
theorem a7N'{k:Nat}:∀(d:D),lowD 0 d=true→lowD k d=true
 | .non,_=>rfl
 | .bl _,_=>rfl
 | .int _,_=>rfl
 | .str _,_=>rfl
 | .tup ds,h=>by unfold lowD at h⊢;exact a2u' ds h
 | .lst ds,h=>by unfold lowD at h⊢;exact a2u' ds h
 | .scr ds,h=>by unfold lowD at h⊢;exact a2u' ds h
 | .ref n,h=>by unfold lowD at h;simp at h
 | .fn y,_=>rfl
 | .ty y,_=>rfl
 | .dct,_=>rfl
theorem a2u'{k:Nat}:∀(ds:List D),lowL 0 ds=true→lowL k ds=true
 | [],_=>rfl
 |d::ds,h=>by unfold lowL at h⊢;simp only[ZB]at h⊢;exact⟨a7N' d h.1,a2u' ds h.2⟩
end
def Flat(S:Store):Prop:=∀xs∈S,lowL 0 xs=true
theorem Flat.all(h:Flat S):S.all (lowL k)=true:=ZD.mpr λxs hx=>a2u' xs (h xs hx)
theorem Flat.nil:Flat []:=λ_ h=>by cases h
theorem Flat.snoc{xs:List D}(h:Flat S)(hx:lowL 0 xs=true):Flat (S++[xs]):=λys hy=>by
 rcases ZF.mp hy with z|z
 ·exact h ys z
 ·have:ys=xs:=by simpa using z
  subst this;exact hx
theorem Flat.set{xs:List D}(h:Flat S)(hx:lowL 0 xs=true):Flat (S.set n xs):=λys hy=>by
 rcases List.mem_or_eq_of_mem_set hy with z|z
 ·exact h ys z
 ·subst z;exact hx
theorem a3O'(h:Flat (S'.take k))(hd:lowD 0 d=true):trim k d S'=.ok d (S'.take k):=by unfold trim;rw[if_pos h.all,if_pos (a7N' d hd)]
theorem b1b'(h:Flat S)(hd:lowD 0 d=true):trim S.length d S=.ok d S:=by rw[a3O' (by rw[List.take_length];exact h) hd,List.take_length]
theorem a6Z'(hk:S.length=k)(h:Flat S)(hd:lowD 0 d=true):trim k d S=.ok d S:=by subst hk;exact b1b' h hd
theorem a6t'{step:D→List D→Store→Res (List D)}{S:Store}(g:D→Option D):∀(xs acc:List D),(∀x∈xs,∀acc,acc.length<big→step x acc S=.ok (acc++(g x).toList) S)→acc.length+xs.length≤big→compD step xs acc S=.ok (acc++xs.filterMap g) S
 | [],acc,_,_=>by simp[compD]
 |x::xs,acc,h,hl=>by
  simp only[Zz]at hl;unfold compD;rw[h x Zd acc (by omega)];unfold Res.bind;dsimp only
  rw[a6t' g xs _ (λy hy=>h y (Zb _ hy)) (by
   have:(g x).toList.length≤1:=by cases g x<;>simp
   simp only[Zt];omega)]
  cases e:g x<;>simp[e]
theorem b1c'{l:List α}{f:α→Option Bool}(h:∀x∈l,f x=some true):allO (l.map f)=some true:=by
 induction l with
 |nil=>rfl
 |cons x l ih=>simp only[ZK];unfold allO;rw[h x Zd,ih λy hy=>h y (Zb _ hy)];rfl
theorem allO_map{l:List α}{f:α→Bool}:allO (l.map λx=>some (f x))=some (l.all f):=by
 induction l with
 |nil=>rfl
 |cons x l ih=>simp only[ZK];unfold allO;rw[ih];rfl
theorem a7a'{l:List α}{f:α→Bool}:anyO (l.map λx=>some (f x))=some (l.any f):=by unfold anyO;rw[List.map_map];have e:(λo:Option Bool=>o.map not)∘(λx:α=>some (f x))=λx=>some (!f x):=rfl;rw[e,allO_map];simp[List.not_all_eq_any_not]
def tieD(t:Int×Int):D:=.tup [.int t.1,.int t.2]
def tiesD(ts:Lq):List D:=ts.map tieD
def webD(m:Int)(ts:Lq):D:=.tup [.int m,.tup (tiesD ts)]
theorem low_tie(t:Int×Int):lowD 0 (tieD t)=true:=rfl
theorem a7b':∀(ts:Lq),lowL 0 (tiesD ts)=true
 | []=>rfl
 |t::ts=>by show(lowD 0 (tieD t)&&lowL 0 (tiesD ts))=true;rw[low_tie,a7b' ts];rfl
theorem a2T':∀(ns:Li),lowL 0 (ns.map D.int)=true
 | []=>rfl
 |t::ts=>by show(lowD 0 (.int t)&&lowL 0 (ts.map D.int))=true;rw[a2T' ts];rfl
theorem a4l'(m:Int)(ts:Lq):lowD 0 (webD m ts)=true:=by show(true&&((lowL 0 (tiesD ts))&&true))=true;rw[a7b'];rfl
def lexlt(a b:Int×Int):Prop:=a.1<b.1∨(a.1=b.1∧a.2<b.2)
instance (a b:Int×Int):Decidable (lexlt a b):=by unfold lexlt;exact inferInstance
theorem a6u'(S:Store)(n:Nat)(a b:Int):eqF S (n+1) (.int a) (.int b)=some (a==b):=rfl
theorem eqF_tie(S:Store)(n:Nat)(a b:Int×Int):eqF S (n+2) (tieD a) (tieD b)=some (decide (a=b)):=by have e:eqF S (n+2) (tieD a) (tieD b)=some ((a.1==b.1&&(a.2==b.2&&true))&&true):=rfl;rw[e];obtain⟨a1,a2⟩:=a;obtain⟨b1,b2⟩:=b;simp[Prod.ext_iff];by_cases h1:a1=b1<;>by_cases h2:a2=b2<;>simp[h1,h2]
theorem ltF_tie(S:Store)(n:Nat)(a b:Int×Int):ltF S (n+2) (tieD a) (tieD b)=some (decide (lexlt a b)):=by
 have e:ltF S (n+2) (tieD a) (tieD b)=(match eqF S (n+1) (.int a.1) (.int b.1)with
  |some true=>(match eqF S (n+1) (.int a.2) (.int b.2)with
   |some true=>some false
   |some false=>some (decide (a.2<b.2))
   |none=>none)
  |some false=>some (decide (a.1<b.1))
  |none=>none):=rfl
 rw[e,a6u',a6u'];obtain⟨a1,a2⟩:=a;obtain⟨b1,b2⟩:=b;unfold lexlt;dsimp only;by_cases h1:a1=b1
 ·subst h1;by_cases h2:a2=b2
  ·subst h2;simp
  ·have:(a2==b2)=false:=by simpa using h2
   simp[this]
 ·have:(a1==b1)=false:=by simpa using h1
  simp[this,h1]
theorem in_ties(S:Store)(t:Int×Int)(ts:Lq):inD (tieD t) (.tup (tiesD ts)) S=some (decide (t∈ts)):=by
 have e:inD (tieD t) (.tup (tiesD ts)) S=anyO ((tiesD ts).map λy=>eqF S deep y (tieD t)):=rfl;rw[e];unfold tiesD;rw[List.map_map];have e2:((λy=>eqF S deep y (tieD t))∘tieD)=λu=>some (decide (u=t)):=by funext u;exact eqF_tie S 38 u t
 rw[e2,a7a'];congr 1;clear e e2
 induction ts with
 |nil=>rfl
 |cons u us ih=>
  rw[List.any_cons,ih];by_cases h:u=t
  ·subst h;simp
  ·have h':¬t=u:=λz=>h z.symm;by_cases h2:t∈us<;>simp[h,h',h2]
def PenAt(S:Store)(n:Nat):Prop:=∃a b,S[n]?=some [.int a,.int b]
theorem PenAt.set{m:Nat}{a b:Int}(h:PenAt S n):PenAt (S.set m [.int a,.int b]) n:=by
 obtain⟨x,y,h⟩:=h;by_cases e:m=n
 ·subst e;have hl:=(Zf.mp h).1;exact⟨a,b,by rw[ZV hl]⟩
 ·exact⟨x,y,by rw[List.getElem?_set_ne e];exact h⟩
theorem draw_ok(hS:Flat S)(hp:PenAt S n)(h0:0<m)(h1:m<1000):∃r a b,0≤r∧r<m∧a0w' [.ref n,.int m] S=.ok (.int r) (S.set n [.int a,.int b]):=by
 obtain⟨a,b,h⟩:=hp;have hl:=(Zf.mp h).1;have fl:∀x y:Int,Flat (S.set n [.int x,.int y]):=λx y=>hS.set rfl;have tr:∀(r x y:Int),trim S.length (.int r) (S.set n [.int x,.int y])=.ok (.int r) (S.set n [.int x,.int y]):=λr x y=>a6Z' (by simp) (fl x y) rfl;by_cases hb:b=1
 ·subst hb;refine⟨a%m,a/m,1,Int.emod_nonneg _ (by omega),Int.emod_lt_of_pos _ h0,?_⟩;rw[←tr];have hm:m<1073741824:=by omega
  simp[a0w',runD,a4g',a4f',denSs,denS,denT,den,denL,Res.bind,Res.noErr,onBl,idxD,seqOf,h,atI,ixN,cmpD,boolR,eqF,sh,eqS,deep,opD,modD,fdivD,setD,h0,hm]
 ·have hb':(b==1)=false:=by simpa using hb
  have hp0:0≤(a%2147483629*48271+11)%2147483629:=Int.emod_nonneg _ (by omega);have hp1:(a%2147483629*48271+11)%2147483629<2147483629:=Int.emod_lt_of_pos _ (by omega)
  have e0:∀p:Int,(a%2147483629*48271+11)%2147483629=p→a0w' [.ref n,.int m] S=.ok (.int ((p*p+40692*p)%2147483647/8%m)) (S.set n [.int p,.int b]):=λp hp=>by
   rw[hp]at hp0 hp1;have h2: -(18446744073709551616:Int)<p:=by omega
   have h3:p<(18446744073709551616:Int):=by omega
   have hs:∀x,(S.set n x)[n]?=some x:=λx=>ZV hl;have hss:∀x y:List D,(S.set n x).set n y=S.set n y:=λx y=>List.set_set ..;clear hl;rw[←tr];simp[a0w',runD,a4g',a4f',denSs,denS,denT,den,denL,Res.bind,Res.noErr,onBl,idxD,seqOf,h,atI,ixN,cmpD,boolR,eqF,sh,eqS,deep,opD,modD,fdivD,mulD,addD,setD,h0,hb',hb,hs,hss,hp,h2,h3]
  exact⟨_,_,b,Int.emod_nonneg _ (show m≠0 by omega),Int.emod_lt_of_pos _ h0,e0 _ rfl⟩
structure Web (m:Int)(ts:Lq):Prop where
 lo:1≤m
 hi:m≤8
 ris:ts.Pairwise lexlt
 tie:∀t∈ts,0≤t.1∧t.1<t.2∧t.2<m
 few:ts.length≤28
theorem a0D'(hl:ds.length=np)(h:denSs Φ Γ body (ds.map some++List.replicate (n-np) none) S=.ok (.ret d) S')(hk:S'.length=S.length)(hf:Flat S')(hd:lowD 0 d=true):runD Φ Γ body n np ds S=.ok d S':=by unfold runD;rw[if_pos hl,h];exact a6Z' hk hf hd
theorem a5B'(hl:ds.length=np)(h:denSs Φ Γ body (ds.map some++List.replicate (n-np) none) S=.ok (.next ρ) S')(hk:S'.length=S.length)(hf:Flat S'):runD Φ Γ body n np ds S=.ok .non S':=by unfold runD;rw[if_pos hl,h];exact a6Z' hk hf rfl
theorem a6v'(hS:Flat S)(i:Int):a2q' [.int i] S=.ok (.bl true) S:=a0D' rfl rfl rfl hS rfl
theorem a0R'(hS:Flat S)(i lo hi:Int):a0g' [.int i,.int lo,.int hi] S=.ok (.bl (decide (lo≤i∧i≤hi))) S:=by refine a0D' rfl ?_ rfl hS rfl;simp[a1Z',a1Y',denSs,denS,denT,den,denL,Res.bind,Res.noErr,onBl,a1n',a6v' hS,cmpD,leD];by_cases h:lo≤i<;>simp[h]
theorem a4m'(hS:Flat S)(m i:Int):a1A' [.int m,.int i] S=.ok (.bl (decide (0≤i∧i<m))) S:=by refine a0D' rfl ?_ rfl hS rfl;have e:(i≤m-1)=(i<m):=propext (by omega);simp[a6h',a6g',denSs,denS,denT,den,denL,Res.bind,Res.noErr,onBl,a1u',a0R' hS,opD,subD,e]
theorem a4n'{step:D→List D→Store→Res (List D)}{xs:List D}(h:∀x∈xs,∀acc,acc.length<big→step x acc S=.ok (acc++[.bl true]) S)(hl:xs.length≤big):compD step xs [] S=.ok (xs.map λ_=>D.bl true) S:=by rw[a6t' (λ_=>some (.bl true)) xs [] (λx hx acc ha=>h x hx acc ha) (by simpa using hl)];simp
theorem a7c'{xs:List D}:allD [.lst (xs.map λ_=>D.bl true)] S=.ok (.bl true) S:=by unfold allD;simp only[seqOf];rw[List.map_map,show allO (xs.map (asB∘λx=>D.bl true))=some true from b1c' λx hx=>rfl];rfl
theorem cut1(xs:List D):cutL xs (some 1) none=xs.drop 1:=by
 unfold cutL
 have e1:HT.sIx xs.length 0 (some 1)=min 1 xs.length:=by
  unfold HT.sIx;simp
  try omega
 have e2:HT.sIx xs.length xs.length none=xs.length:=rfl;rw[e1,e2];cases xs with
 |nil=>rfl
 |cons x r=>simp
theorem a3q'(hS:Flat S){xs:List D}(hl:xs.length≤1000)(h:∀(i:Nat) x y,xs[i]?=some x→xs[i+1]?=some y→ltF S deep x y=some true):a0r' [.tup xs] S=.ok (.bl true) S:=by
 refine a0D' rfl ?_ rfl hS rfl;have hz:zipOf S (.tup xs) (.tup (xs.drop 1))=some (.items (List.zipWith (λx y=>.tup [x,y]) xs (xs.drop 1))):=rfl;have hc:=cut1 xs;simp[a4Q',a4P',denSs,denS,denT,den,denL,denI,Res.bind,Res.noErr,onBl,slD,optL,toOpt,bltD];simp only[hc,hz,compI];rw[a4n']
 ·simp only[Res.noErr];rw[a7c']
 ·intro z hz acc ha;obtain⟨i,hi⟩:=List.mem_iff_getElem?.mp hz;rw[List.getElem?_zipWith]at hi;cases e1:xs[i]? with
  |none=>rw[e1]at hi;cases hi
  |some x=>
   cases e2:(xs.drop 1)[i]? with
   |none=>rw[e1,e2]at hi;cases hi
   |some y=>rw[e1,e2]at hi;cases hi;rw[List.getElem?_drop,Nat.add_comm]at e2;have hlt:=h i x y e1 e2;simp[a0q',isNew,slots,a1h',asgCT,asgVs,denTs,denB,den,Res.bind,cmpD,hlt,boolR,Res.noErr];unfold big at ha;omega
 ·simp;unfold big;omega
theorem a2L'(hS:Flat S)(hl:ns.length≤1000)(h:∀n∈ns,0≤n∧n<m):a0z' [.int m,.tup (ns.map D.int)] S=.ok (.bl true) S:=by
 refine a0D' rfl ?_ rfl hS rfl;have hi:a4F' [.tup (ns.map D.int),.ty "tuple"] S=.ok (.bl true) S:=rfl;simp[a4b',a4a',denSs,denS,denT,den,denL,denI,Res.bind,Res.noErr,onBl,bltD,hi,a1y'];simp only[compI];rw[a4n']
 ·simp only[Res.noErr];rw[a7c']
 ·intro z hz acc ha;obtain⟨n,hn,rfl⟩:=Zs.mp hz;have hp:=a4m' hS m n;have hd:decide (0≤n∧n<m)=true:=ZI (h n hn);rw[hd]at hp;simp[a0q',isNew,slots,a1h',asgCT,asgVs,denTs,denB,den,denL,Res.bind,a2b',hp,Res.noErr];unfold big at ha;omega
 ·simp;unfold big;omega
theorem a8s'(hS:Flat S)(h:0≤t.1∧t.1<t.2∧t.2<m):a5t' [.int m,tieD t] S=.ok (.bl true) S:=by
 refine a0D' rfl ?_ rfl hS rfl;have h1:a0z' [.int m,tieD t] S=.ok (.bl true) S:=a2L' hS (ns:=[t.1,t.2]) (by simp) (by intro n hn;simp at hn;rcases hn with rfl|rfl<;>omega)
 have h2:a0r' [tieD t] S=.ok (.bl true) S:=a3q' hS (xs:=[.int t.1,.int t.2]) (by simp) (by
  intro i x y e1 e2;have hi:i=0:=by have:=(Zf.mp e2).1;simp at this;omega
  subst hi;simp at e1 e2;subst e1;subst e2;show some (decide (t.1<t.2))=some true;simp[h.2.1])
 have h3:bltD .len [tieD t] S=.ok (.int 2) S:=rfl;have h4:cmpD .Eq (.int 2) (.int 2) S=.ok (.bl true) S:=rfl;simp[a9C',a9B',denSs,denS,denT,den,denL,Res.bind,Res.noErr,onBl,a2N',a3a',h1,h2,h3,h4]
theorem a9O'{i:Nat}{x:D}(h:(tiesD ts)[i]?=some x):∃t,ts[i]?=some t∧x=tieD t:=by
 unfold tiesD at h;rw[ZP]at h;cases e:ts[i]? with
 |none=>rw[e]at h;cases h
 |some t=>rw[e]at h;cases h;exact⟨t,rfl,rfl⟩
theorem a8t'(hS:Flat S)(hl:ts.length≤1000)(h:ts.Pairwise lexlt):a0r' [.tup (tiesD ts)] S=.ok (.bl true) S:=
 a3q' hS (by unfold tiesD;simpa using hl) λi x y e1 e2=>by obtain⟨t,f1,rfl⟩:=a9O' e1;obtain⟨u,f2,rfl⟩:=a9O' e2;rw[show ltF S deep (tieD t) (tieD u)=some (decide (lexlt t u))from ltF_tie S 38 t u];obtain⟨g1,rfl⟩:=Zf.mp f1;obtain⟨g2,rfl⟩:=Zf.mp f2;rw[ZI (List.pairwise_iff_getElem.mp h i (i+1) g1 g2 (by omega))]
theorem a5b'(hS:Flat S)(W:Web m ts):a2d' [webD m ts] S=.ok (.bl true) S:=by
 have hf:=W.few;refine a0D' rfl ?_ rfl hS rfl;have h1:a4F' [webD m ts,.ty "tuple"] S=.ok (.bl true) S:=rfl;have h2:lenD [webD m ts] S=.ok (.int 2) S:=rfl;have h3:cmpD .NotEq (.int 2) (.int 2) S=.ok (.bl false) S:=rfl;have h4:=a0R' hS m 1 8;rw[ZI (⟨W.lo,W.hi⟩:1≤m∧m≤8)]at h4;have h5:a4F' [.tup (tiesD ts),.ty "tuple"] S=.ok (.bl true) S:=rfl;have h6:=a8t' hS (show ts.length≤1000 by omega) W.ris;have h7:G0 "MOST_PLACES"=some (.int 8):=rfl;have h8:asgCT (.tup [.var 1,.var 2]) (webD m ts) [some (webD m ts),none,none]=some [some (webD m ts),some (.int m),some (.tup (tiesD ts))]:=rfl;simp[a9E',a9D',denSs,denS,denT,den,denL,denI,Res.bind,Res.noErr,onBl,bltD,h1,h2,h3,a3b',a1I',a2c',h4,h5,truD,h6,h7,h8,a1y'];simp only[compI];rw[a4n']
 ·simp only[Res.noErr];rw[a7c'];simp[h6]
 ·intro z hz acc ha;obtain⟨t,ht,rfl⟩:=Zs.mp hz;have hp:=a8s' hS (W.tie t ht);simp[a0q',isNew,slots,a1h',asgCT,asgVs,denTs,denB,den,denL,Res.bind,a2c',hp,Res.noErr];unfold big at ha;omega
 ·unfold tiesD big;simp;omega
theorem a0O'(hS:Flat S)(W:Web m ts):a0j' [webD m ts] S=.ok .non S:=by refine a5B' (ρ:=[some (webD m ts)]) rfl ?_ rfl hS;simp[a3C',a3B',denSs,denS,denT,den,denL,Res.bind,a2x',a5b' hS W,truD]
theorem a3r'(hS:Flat S){p:Int}(h:0≤p∧p<m):a0E' [webD m ts,.int p] S=.ok .non S:=by refine a5B' (ρ:=[some (webD m ts),some (.int p)]) rfl ?_ rfl hS;have h1:=a4m' hS m p;rw[ZI h]at h1;have h2:idxD (webD m ts) (.int 0) S=.ok (.int m) S:=rfl;simp[a2G',a2F',denSs,denS,denT,den,denL,Res.bind,Res.noErr,a1B',h1,h2,truD]
theorem a3F'{α:Type}{f e:α→D}{p:α→Bool}{step:D→List D→Store→Res (List D)}{S:Store}:∀(xs:List α) (acc:List D),(∀x∈xs,∀acc,acc.length<big→step (f x) acc S=.ok (if p x=true then acc++[e x]else acc) S)→acc.length+xs.length≤big→compD step (xs.map f) acc S=.ok (acc++(xs.filter p).map e) S
 | [],acc,_,_=>by simp[compD]
 |x::xs,acc,h,hl=>by
  simp only[Zz]at hl;simp only[ZK];unfold compD;rw[h x Zd acc (by omega)];unfold Res.bind;dsimp only;have ih:=λa=>a3F' (f:=f) (e:=e) (p:=p) (step:=step) xs a (λy hy=>h y (Zb _ hy));by_cases hp:p x=true
  ·rw[if_pos hp,ih _ (by simp;omega)];simp[hp]
  ·rw[if_neg hp,ih _ (by omega)];simp[hp]
theorem a0A'{f e:α→D}{p:α→Bool}{step:D→List D→Store→Res (List D)}{xs:List α}(h:∀x∈xs,∀acc,acc.length<big→step (f x) acc S=.ok (if p x=true then acc++[e x]else acc) S)(hl:xs.length≤big):compD step (xs.map f) [] S=.ok ((xs.filter p).map e) S:=by rw[a3F' xs [] h (by simpa using hl)];simp
theorem a0o'{c:CS}(h:denS Φ Γ c ρ S=.ok (.next ρ') S'):denSs Φ Γ (c::cs) ρ S=denSs Φ Γ cs ρ' S':=by rw[denSs,h];rfl
theorem a4C'{c:CS}(h:denS Φ Γ c ρ S=.ok (.ret d) S'):denSs Φ Γ (c::cs) ρ S=.ok (.ret d) S':=by rw[denSs,h];rfl
theorem a6w'{t:CT}{it:CE}{its:Its}(h:denI Φ Γ it ρ S=.ok its S1):denS Φ Γ (.for_ t it body) ρ S=forI (λx ρ S=>match asgCT t x ρ with
   |some ρ'=>denSs Φ Γ body ρ' S
   |none=>.fail) its ρ S1:=by
 rw[denS,h];rfl
theorem a1o'{i:Nat}{e:CE}(h:den Φ Γ e ρ S=.ok d S'):denSs Φ Γ (.asg i e::cs) ρ S=denSs Φ Γ cs (ρ.set i (some d)) S':=
 a0o' (by rw[denS,h];rfl)
def a0e'(lo:Int):Nat→Li
 |0=>[]
 |n+1=>lo::a0e' (lo+1) n
theorem a1k'(lo:Int)(n:Nat):a1G' lo n=(a0e' lo n).map D.int:=by
 induction n generalizing lo with
 |zero=>rfl
 |succ n ih=>unfold a1G' a0e';rw[ih];rfl
theorem a4o'{x:Int}:x∈a0e' lo n→lo≤x∧x<lo+n:=by
 induction n generalizing lo with
 |zero=>intro h;cases h
 |succ n ih=>
  intro h;unfold a0e' at h;rcases Zm.mp h with rfl|h
  ·omega
  ·have:=ih h;omega
theorem a0d':(a0e' lo n).length=n:=by
 induction n generalizing lo with
 |zero=>rfl
 |succ n ih=>unfold a0e';simp[ih]
noncomputable def insI(x:Int×Int):Lq→Lq
 | []=>[x]
 |y::ys=>if lexlt x y then x::y::ys else y::insI x ys
def sortI(l:Lq):Lq:=l.foldl (λacc x=>insI x acc) []
theorem ltK_tie(a b:Int×Int):ltK (.seq .int) (tieD a) (tieD b)=decide (lexlt a b):=by
 have e:ltK (.seq .int) (tieD a) (tieD b)=(if decide (a.1<b.1)=true then true else if decide (b.1<a.1)=true then false else if decide (a.2<b.2)=true then true else if decide (b.2<a.2)=true then false else false):=rfl;rw[e];simp only[decide_eq_true_eq];by_cases h:lexlt a b
 ·rw[ZI h];unfold lexlt at h
  repeat' split
  all_goals first|rfl|omega
 ·rw[ZC h];unfold lexlt at h
  repeat' split
  all_goals first|rfl|omega
theorem a9P'(x:Int×Int):∀l:Lq,insB (ltK (.seq .int)) (tieD x) (tiesD l)=tiesD (insI x l)
 | []=>rfl
 |y::ys=>by
  show(if ltK (.seq .int) (tieD x) (tieD y)=true then tieD x::tieD y::tiesD ys else tieD y::insB (ltK (.seq .int)) (tieD x) (tiesD ys))=tiesD (insI x (y::ys));have e:insI x (y::ys)=if lexlt x y then x::y::ys else y::insI x ys:=rfl;rw[ltK_tie,a9P' x ys,e];by_cases h:lexlt x y
  ·rw[ZI h,if_pos rfl,if_pos h];rfl
  ·rw[ZC h,if_neg ZS,if_neg h];rfl
theorem a7O':∀(l acc:Lq),(tiesD l).foldl (λacc x=>insB (ltK (.seq .int)) x acc) (tiesD acc)=tiesD (l.foldl (λacc x=>insI x acc) acc)
 | [],acc=>rfl
 |x::l,acc=>by show(tiesD l).foldl (λacc x=>insB (ltK (.seq .int)) x acc) (insB (ltK (.seq .int)) (tieD x) (tiesD acc))=_;rw[a9P',a7O' l];rfl
theorem b1d'(l:Lq):a5n' (ltK (.seq .int)) (tiesD l)=tiesD (sortI l):=a7O' l []
theorem a3P'(x:Int×Int):∀l,(insI x l).Perm (x::l)
 | []=>.refl _
 |y::ys=>by
  unfold insI;split
  ·exact .refl _
  ·exact((a3P' x ys).cons y).trans (.swap x y ys)
theorem a6x':∀(l acc:Lq),(l.foldl (λacc x=>insI x acc) acc).Perm (l++acc)
 | [],acc=>.refl _
 |x::l,acc=>by refine(a6x' l (insI x acc)).trans ?_;exact((a3P' x acc).append_left l).trans List.perm_middle
theorem a6y'(l:Lq):(sortI l).Perm l:=by have:=a6x' l [];rw[List.append_nil]at this;exact this
theorem lex_tot{x y:Int×Int}(h:¬lexlt x y)(n:x≠y):lexlt y x:=by unfold lexlt at h⊢;have:¬(x.1=y.1∧x.2=y.2):=λz=>n (Prod.ext z.1 z.2);omega
theorem b1e'{x y z:Int×Int}(a:lexlt x y)(b:lexlt y z):lexlt x z:=by unfold lexlt at*;omega
theorem a5c'(x:Int×Int):∀l,l.Pairwise lexlt→x∉l→(insI x l).Pairwise lexlt
 | [],_,_=>List.pairwise_singleton _ _
 |y::ys,h,n=>by
  obtain⟨h1,h2⟩:=ZE.mp h;unfold insI;by_cases e:lexlt x y
  ·rw[if_pos e];refine ZE.mpr ⟨λz hz=>?_,h⟩;rcases Zm.mp hz with rfl|hz
   ·exact e
   ·exact b1e' e (h1 z hz)
  ·rw[if_neg e];refine ZE.mpr ⟨λz hz=>?_,a5c' x ys h2 λz=>n (Zb _ z)⟩;rcases Zm.mp ((a3P' x ys).mem_iff.mp hz)with rfl|hz
   ·exact lex_tot e λz=>n (by subst z;exact Zd)
   ·exact h1 z hz
theorem a4p':∀(l acc:Lq),acc.Pairwise lexlt→(l++acc).Nodup→(l.foldl (λacc x=>insI x acc) acc).Pairwise lexlt
 | [],acc,h,_=>h
 |x::l,acc,h,n=>by have n':(x::(l++acc)).Nodup:=n;obtain⟨n1,n2⟩:=List.nodup_cons.mp n';refine a4p' l (insI x acc) (a5c' x acc h λz=>n1 (Zq _ z)) ?_;exact(((a3P' x acc).append_left l).trans List.perm_middle).nodup_iff.mpr n'
theorem a7d'{l:Lq}(h:l.Nodup):(sortI l).Pairwise lexlt:=a4p' l [] .nil (by simpa using h)
theorem a4q'{l:Lq}(hd:seqOf S d=some (tiesD l))(hl:l.length<64):a3y' false (.seq .int) [d] S=.ok (.lst (tiesD (sortI l))) S:=by
 have e1:(tiesD l).all (hasTy (.seq .int))=true:=by rw[ZD];intro x hx;obtain⟨t,_,rfl⟩:=Zs.mp hx;rfl
 have e2:a5o' (.seq .int) (tiesD l)=true:=by
  have:((tiesD l).all λd=> !isNil d)=true:=by rw[ZD];intro x hx;obtain⟨t,_,rfl⟩:=Zs.mp hx;rfl
  show(true&&(((tiesD l).all λd=> !isNil d)||isNil ((tiesD l).headD .non)))=true;rw[this];rfl
 have e3:(tiesD l).length<64:=by unfold tiesD;rw[Zw];omega
 unfold a3y';simp only[hd];rw[if_pos ⟨e1,e3,e2⟩,b1d'];rfl
theorem a3s'{l:Lq}(h1:1≤m)(h2:m≤8)(hn:l.Nodup)(hv:∀t∈l,0≤t.1∧t.1<t.2∧t.2<m)(hl:l.length≤28):Web m (sortI l):=
 ⟨h1,h2,a7d' hn,λt ht=>hv t ((a6y' l).mem_iff.mp ht),by rw[(a6y' l).length_eq];exact hl⟩
noncomputable def a2D'(m:Nat):Lq:=(a0e' 0 m).flatMap λi=>(a0e' (i+1) (m-1-i.toNat)).map λj=>(i,j)
theorem eight(h1:1≤m)(h2:m≤8):m=1∨m=2∨m=3∨m=4∨m=5∨m=6∨m=7∨m=8:=by omega
theorem b1f'(h1:1≤m)(h2:m≤8):denSs a4V' G0 a4U' ([D.int m].map some++List.replicate (a4T'.length-1) none) S=.ok (.ret (.lst (tiesD (a2D' m.toNat)))) S:=by rcases eight h1 h2 with rfl|rfl|rfl|rfl|rfl|rfl|rfl|rfl<;>rfl
theorem a5C'(hS:Flat S)(h1:1≤m)(h2:m≤8):a2t' [.int m] S=.ok (.lst (tiesD (a2D' m.toNat))) S:=
 a0D' rfl (b1f' h1 h2) rfl hS (a7b' _)
theorem a3Q'(h1:1≤m)(h2:m≤8):Web m (a2D' m.toNat):=by rcases eight h1 h2 with rfl|rfl|rfl|rfl|rfl|rfl|rfl|rfl<;>exact⟨by decide,by decide,by decide+kernel,by decide+kernel,by decide+kernel⟩
theorem a7P'{us:Lq}(W:Web m ts)(h:us.Sublist ts):Web m us:=
 ⟨W.lo,W.hi,W.ris.sublist h,λt ht=>W.tie t (h.subset ht),ZT h.length_le W.few⟩
def Drawn(n:Nat)(S S':Store):Prop:=∃a b:Int,S'=S.set n [.int a,.int b]
theorem Drawn.refl(h:PenAt S n):Drawn n S S:=by obtain⟨a,b,h⟩:=h;obtain⟨hl,e⟩:=Zf.mp h;exact⟨a,b,by rw[←e,List.set_getElem_self]⟩
theorem Drawn.trans{S2:Store}(a:Drawn n S S1)(b:Drawn n S1 S2):Drawn n S S2:=by obtain⟨x,y,rfl⟩:=a;obtain⟨z,w,rfl⟩:=b;exact⟨z,w,by rw[List.set_set]⟩
theorem Drawn.flat(h:Drawn n S S')(hS:Flat S):Flat S':=by obtain⟨a,b,rfl⟩:=h;exact hS.set rfl
theorem Drawn.pen(h:Drawn n S S')(hS:PenAt S n):PenAt S' n:=by obtain⟨a,b,rfl⟩:=h;exact hS.set
theorem Drawn.len(h:Drawn n S S'):S'.length=S.length:=by obtain⟨a,b,rfl⟩:=h;simp
theorem a3i'(hS:Flat S)(hp:PenAt S n)(h0:0<m)(h1:m<1000):∃r S',0≤r∧r<m∧Drawn n S S'∧a0w' [.ref n,.int m] S=.ok (.int r) S':=by obtain⟨r,a,b,x,y,e⟩:=draw_ok hS hp h0 h1;exact⟨r,_,x,y,⟨a,b,rfl⟩,e⟩
theorem a3R'{n:Nat}{step:D→List D→Store→Res (List D)}{f:Int×Int→D}:∀(ts:Lq) (acc:List D) (S:Store),Flat S→PenAt S n→acc.length+ts.length≤1000→
  (∀t∈ts,∀acc S,Flat S→PenAt S n→acc.length≤1000→∃k S',Drawn n S S'∧step (f t) acc S=.ok (if k=true then acc++[f t]else acc) S')→
  ∃(us:Lq) (S':Store),us.Sublist ts∧Drawn n S S'∧compD step (ts.map f) acc S=.ok (acc++us.map f) S'
 | [],acc,S,hS,hp,_,_=>⟨[],S,.slnil,.refl hp,by simp[compD]⟩
 |t::ts,acc,S,hS,hp,hl,h=>by
  simp only[Zz]at hl;obtain⟨k,S1,d1,e1⟩:=h t Zd acc S hS hp (by omega);simp only[ZK];unfold compD;rw[e1];cases k with
  |true=>obtain⟨us,S2,s2,d2,e2⟩:=a3R' ts (acc++[f t]) S1 (d1.flat hS) (d1.pen hp) (by simp;omega) λu hu=>h u (Zb _ hu);exact⟨t::us,S2,s2.cons_cons t,d1.trans d2,by show compD step (ts.map f) (acc++[f t]) S1=_;rw[e2];simp⟩
  |false=>obtain⟨us,S2,s2,d2,e2⟩:=a3R' ts acc S1 (d1.flat hS) (d1.pen hp) (by omega) λu hu=>h u (Zb _ hu);exact⟨us,S2,s2.cons t,d1.trans d2,by show compD step (ts.map f) acc S1=_;rw[e2]⟩
theorem a5D'{n:Nat}{step:D→List D→Store→Res (List D)}:∀(k:Nat) (lo:Int) (acc:List D) (S:Store),1≤lo→lo+k≤100→Flat S→PenAt S n→acc.length+k≤1000→
  (∀p:Int,1≤p→p<100→∀acc S,Flat S→PenAt S n→acc.length≤1000→∃r S',0≤r∧r<p∧Drawn n S S'∧step (.int p) acc S=.ok (acc++[tieD (r,p)]) S')→
  ∃(us:Lq) (S':Store),us.map (·.2)=a0e' lo k∧(∀t∈us,0≤t.1∧t.1<t.2∧lo≤t.2∧t.2<lo+k)∧Drawn n S S'∧compD step ((a0e' lo k).map D.int) acc S=.ok (acc++tiesD us) S'
 |0,lo,acc,S,_,_,hS,hp,_,_=>⟨[],S,rfl,λt h=>(by cases h),.refl hp,by simp[compD,a0e',tiesD]⟩
 |k+1,lo,acc,S,h1,h2,hS,hp,hl,h=>by
  obtain⟨r,S1,r0,r1,d1,e1⟩:=h lo h1 (by omega) acc S hS hp (by omega);obtain⟨us,S2,s2,v2,d2,e2⟩:=a5D' k (lo+1) (acc++[tieD (r,lo)]) S1 (by omega) (by omega) (d1.flat hS) (d1.pen hp) (by simp;omega) h;refine⟨(r,lo)::us,S2,?_,λt ht=>?_,d1.trans d2,?_⟩
  ·simp only[ZK,s2];rfl
  ·rcases Zm.mp ht with rfl|ht
   ·dsimp only;omega
   ·have:=v2 t ht;omega
  ·show compD step (D.int lo::(a0e' (lo+1) k).map D.int) acc S=_;unfold compD;rw[e1];show compD step _ (acc++[tieD (r,lo)]) S1=_;rw[e2];simp[tiesD]
theorem a1O':(a0e' lo n).Nodup:=by
 induction n generalizing lo with
 |zero=>exact List.nodup_nil
 |succ n ih=>unfold a0e';refine List.nodup_cons.mpr ⟨λh=>?_,ih⟩;have:=a4o' h;omega
theorem a9Q'{c:CE}{a b:List CS}{k:Bool}(h:denT Φ Γ c ρ S=.ok k S1):denS Φ Γ (.ite c a b) ρ S=if k=true then denSs Φ Γ a ρ S1 else denSs Φ Γ b ρ S1:=by rw[denS,h];rfl
theorem a1l'{tg:CT}{it:CE}{ifs:List CE}{body:CE}{S5:Store}{its:Its}{ys:List D}(hI:denI Φ Γ it ρ S=.ok its S1)
  (hc:compI (λx acc S2=>match a0q' tg x (fr.map λj=>j.bind λj=>(ρ[j]?).join)with
    |some ρ'=>(denTs Φ Γ ifs ρ' S2).bind λk S3=>if k=true then denB Φ Γ body ρ' acc S3 else .ok acc S3
    |none=>.fail) its [] S1=.ok ys S5):den Φ Γ (.comp false N fr tg it ifs body) ρ S=.ok (.lst ys) S5:=by
 rw[den,hI];exact Eq.trans (congrArg (λr=>Res.bind (Res.noErr r) (λys S5=>if false=true then Res.ok (D.ref S5.length) (S5++[ys])else Res.ok (.lst ys) S5)) hc) rfl
section
variable {S2 S3:Store}{d2 r x y:D}{e a b:CE}
theorem den_v{i:Nat}(h:ρ[i]?=some (some d)):den Φ Γ (.var i) ρ S=.ok d S:=by rw[den,h]
theorem a0P'{k:Blt}(h:den Φ Γ e ρ S=.ok d S1)(hb:bltD k [d] S1=.ok r S2):den Φ Γ (.blt k [e]) ρ S=.ok r S2:=by simp[den,denL,h,Res.bind,hb,Res.noErr]
theorem a5E'(h1:den Φ Γ a ρ S=.ok x S1)(h2:den Φ Γ b ρ S1=.ok y S2):den Φ Γ (.tup [a,b]) ρ S=.ok (.tup [x,y]) S2:=by simp[den,denL,h1,h2,Res.bind]
theorem a0V'{f:Str}(hf:Φ f=some φ)(h1:den Φ Γ a ρ S=.ok x S1)(h:φ [x] S1=.ok r S2):den Φ Γ (.call f [a]) ρ S=.ok r S2:=by simp[den,denL,hf,h1,h,Res.bind]
theorem a0W'{f:Str}(hf:Φ f=some φ)(h1:den Φ Γ a ρ S=.ok x S1)(h2:den Φ Γ b ρ S1=.ok y S2)(h:φ [x,y] S2=.ok r S3):den Φ Γ (.call f [a,b]) ρ S=.ok r S3:=by simp[den,denL,hf,h1,h2,h,Res.bind]
theorem a8u'(h:den Φ Γ e ρ S=.ok d S1):denS Φ Γ (.ret e) ρ S=.ok (.ret d) S1:=by rw[denS,h];rfl
end
theorem a0J'{w k j:Int}(h2:ρ[2]?=some (some (.int m)))(h3:ρ[3]?=some (some (.int w))):denT Φ Γ (.band (.cmp .Eq (.var 3) (.lit (.int k))) (.cmp .Gt (.var 2) (.lit (.int j)))) ρ S=.ok (decide (w=k∧j<m)) S:=by
 have e1:cmpD .Eq (.int w) (.int k) S=.ok (.bl (w==k)) S:=rfl;have e2:cmpD .Gt (.int m) (.int j) S=.ok (.bl (decide (j<m))) S:=rfl;by_cases h:w=k
 ·subst h;have h':(w==w)=true:=by simp
  rw[h']at e1;simp[denT,den,Res.bind,Res.noErr,onBl,h2,h3,e1,e2]
 ·have h':(w==k)=false:=by simpa using h
  rw[h']at e1;simp[denT,den,Res.bind,Res.noErr,onBl,h2,h3,e1,e2,h]
theorem a5F'{w k:Int}(h3:ρ[3]?=some (some (.int w))):denT Φ Γ (.cmp .Eq (.var 3) (.lit (.int k))) ρ S=.ok (decide (w=k)) S:=by have e1:cmpD .Eq (.int w) (.int k) S=.ok (.bl (w==k)) S:=rfl;have e2:(w==k)=decide (w=k):=rfl;simp[denT,den,Res.bind,Res.noErr,onBl,h3,e1,e2]
theorem a2j'{c:CE}{a:List CS}{P:Prop} [Decidable P] (h:denT Φ Γ c ρ S=.ok (decide P) S)(hn:¬P):denSs Φ Γ (.ite c a []::cs) ρ S=denSs Φ Γ cs ρ S:=
 a0o' (by rw[a9Q' h,ZC hn,if_neg ZS,denSs])
theorem a2k'{c:CE}{a:List CS}{P:Prop} [Decidable P] (h:denT Φ Γ c ρ S=.ok (decide P) S)(hn:P)(ha:denSs Φ Γ a ρ S=.ok (.ret d) S'):denSs Φ Γ (.ite c a []::cs) ρ S=.ok (.ret d) S':=
 a4C' (by rw[a9Q' h,ZI hn,if_pos rfl,ha])
theorem a9R'{r:Int}(h0:0≤r)(h1:r<12):∃v,0≤v∧v<8∧idxD (.lst [.int 0,.int 0,.int 1,.int 0,.int 2,.int 1,.int 3,.int 4,.int 5,.int 6,.int 7,.int 0]) (.int r) S=.ok (.int v) S:=by
 have:r=0∨r=1∨r=2∨r=3∨r=4∨r=5∨r=6∨r=7∨r=8∨r=9∨r=10∨r=11:=by omega
 rcases this with rfl|rfl|rfl|rfl|rfl|rfl|rfl|rfl|rfl|rfl|rfl|rfl<;>exact⟨_,by decide,by decide,rfl⟩
theorem a7Q'{r:Int}(h0:0≤r)(h1:r<5):∃v:Int,idxD (.lst [.int 2,.int 3,.int 4,.int 6,.int 8]) (.int r) S=.ok (.int v) S:=by
 have:r=0∨r=1∨r=2∨r=3∨r=4:=by omega
 rcases this with rfl|rfl|rfl|rfl|rfl<;>exact⟨_,rfl⟩
noncomputable def ringI(m:Nat):Lq:=(a0e' 0 (m-1)).map (λk=>(k,k+1))++[(0,(m:Int)-1)]
noncomputable def ring2I(m:Nat):Lq:=[(0,1),(0,2),(1,2)]++((a0e' 3 (m-4)).map (λk=>(k,k+1))++[(3,(m:Int)-1),(2,3)])
theorem web_eq(hS:Flat S)(hp:PenAt S n):∃m ts S',Web m ts∧Drawn n S S'∧a1L' [.ref n,.int 8] S=.ok (webD m ts) S':=by
 suffices h:∃m ts S',Web m ts∧Drawn n S S'∧denSs a0k' G0 a3h' [some (.ref n),some (.int 8),none,none,none,none,none] S=.ok (.ret (webD m ts)) S' by obtain⟨m,ts,S',W,d,e⟩:=h;exact⟨m,ts,S',W,d,a0D' rfl e d.len (d.flat hS) (a4l' m ts)⟩
 obtain⟨r,S1,r0,r1,d1,e1⟩:=a3i' hS hp (m:=12) (by decide) (by decide);have hS1:=d1.flat hS;have hp1:=d1.pen hp;obtain⟨v,v0,v1,ev⟩:=a9R' (S:=S1) r0 r1;obtain⟨w,S2,w0,w1,d2,e2⟩:=a3i' hS1 hp1 (m:=9) (by decide) (by decide);have hS2:=d2.flat hS1;have hp2:=d2.pen hp1;have d12:=d1.trans d2;have hm:∃m:Int,1≤m∧m≤8∧1+8-1-v%8=m:=⟨8-v,by omega,by omega,by omega⟩;obtain⟨m,m0,m1,em⟩:=hm;unfold a3h'
 rw[a1o' (d:=.int m) (S':=S1) (by simp[den,denL,Res.bind,Res.noErr,a0b',e1,ev,opD,addD,subD,modD];omega)];rw[a1o' (d:=.int w) (S':=S2) (by simp[den,denL,Res.bind,Res.noErr,a0b',e2])];simp only[Zy,Zx];by_cases c1:w=0∧2<m
 ·refine⟨m,sortI (ringI m.toNat),S2,?_,d12,?_⟩
  ·have:m=3∨m=4∨m=5∨m=6∨m=7∨m=8:=by omega
   rcases this with rfl|rfl|rfl|rfl|rfl|rfl<;>exact a3s' (by decide) (by decide) (by decide+kernel) (by decide+kernel) (by decide+kernel)
  ·refine a2k' (a0J' rfl rfl) c1 ?_;have:m=3∨m=4∨m=5∨m=6∨m=7∨m=8:=by omega
   rcases this with rfl|rfl|rfl|rfl|rfl|rfl<;>rfl
 rw[a2j' (a0J' rfl rfl) c1];by_cases c2:w=1∧5<m
 ·refine⟨m,sortI (ring2I m.toNat),S2,?_,d12,?_⟩
  ·have:m=6∨m=7∨m=8:=by omega
   rcases this with rfl|rfl|rfl<;>exact a3s' (by decide) (by decide) (by decide+kernel) (by decide+kernel) (by decide+kernel)
  ·refine a2k' (a0J' rfl rfl) c2 ?_;have:m=6∨m=7∨m=8:=by omega
   rcases this with rfl|rfl|rfl<;>rfl
 rw[a2j' (a0J' rfl rfl) c2];have hpw:=a3Q' m0 m1;by_cases c3:w=2∧2<m
 ·obtain⟨q,S3,q0,q1,d3,e3⟩:=a3i' hS2 hp2 (m:=2) (by decide) (by decide);have hS3:=d3.flat hS2;refine⟨m,(a2D' m.toNat).filter (λt=>decide (t.1<1+q∧1+q≤t.2)),S3,a7P' hpw Z1,d12.trans d3,?_⟩;refine a2k' (a0J' rfl rfl) c3 ?_;rw[a1o' (d:=.int (1+q)) (S':=S3) (by simp[den,denL,Res.bind,Res.noErr,a0b',e3,opD,addD])];refine a4C' ?_;simp[denS,den,denL,denI,Res.bind,Res.noErr,onBl,bltD,compI,a0t',a5C' hS3 m0 m1,a1y'];unfold tiesD;rw[a0A' (f:=tieD) (e:=tieD) (p:=λt=>decide (t.1<1+q∧1+q≤t.2))]
  ·simp[Res.noErr,a8b',seqOf,webD,tiesD]
  ·intro t ht acc ha;have ha':acc.length<16777216:=ha;have x0:idxD (tieD t) (.int 0) S3=.ok (.int t.1) S3:=rfl;have x1:idxD (tieD t) (.int 1) S3=.ok (.int t.2) S3:=rfl;have x2:cmpD .Lt (.int t.1) (.int (1+q)) S3=.ok (.bl (decide (t.1<1+q))) S3:=rfl;have x3:cmpD .LtE (.int (1+q)) (.int t.2) S3=.ok (.bl (decide (1+q≤t.2))) S3:=rfl;by_cases y1:t.1<1+q<;>by_cases y2:1+q≤t.2<;>simp[a0q',isNew,slots,a1h',asgCT,asgVs,denTs,denT,denB,den,Res.bind,Res.noErr,onBl,x0,x1,x2,x3,y1,y2,ha']
  ·have:=hpw.few;unfold big;omega
 rw[a2j' (a0J' rfl rfl) c3];by_cases c4:w=3
 ·obtain⟨us,S3,s3,v3,d3,e3⟩:=a5D' (n:=n) (step:=λx acc S2=>match a0q' (.var 0) x [none,some (.ref n)]with
    |some ρ'=>(denTs a0k' G0 [] ρ' S2).bind λk S3=>if k=true then denB a0k' G0 (.emit (.tup [.call "_law_draw" [.var 1,.var 0],.var 0])) ρ' acc S3 else .ok acc S3
    |none=>.fail) (m-1).toNat 1 [] S2 (by decide) (by omega) hS2 hp2 (by simp;omega) (λp p0 p1 acc S hS hp ha=>by
     obtain⟨r,S',r0,r1,d,e⟩:=a3i' hS hp (m:=p) (by omega) (by omega);refine⟨r,S',r0,r1,d,?_⟩;have ha':acc.length<16777216:=by omega
     simp[a0q',isNew,slots,a1h',asgCT,asgVs,denTs,denB,den,denL,Res.bind,a0b',e,tieD,ha'])
  have hl:us.length=(m-1).toNat:=by have:=congrArg List.length s3;simpa[a0d']using this
  have hn:us.Nodup:=by
   have h:(us.map (·.2)).Nodup:=by rw[s3];exact a1O'
   exact(List.pairwise_map.mp h).imp λz e=>z (by rw[e])
  refine⟨m,sortI us,S3,a3s' m0 m1 hn (λt ht=>by have:=v3 t ht;omega) (by omega),d12.trans d3,?_⟩;refine a2k' (a5F' rfl) c4 (a4C' ?_);have hr:denI a0k' G0 (.range [.lit (.int 1),.var 2]) [some (.ref n),some (.int 8),some (.int m),some (.int w),none,none,none] S2=.ok (.items (a1G' 1 (m-1).toNat)) S2:=by simp[denI,denL,den,Res.bind];omega
  have hc:den a0k' G0 (.comp false ["_law_place","_law_pen_here"] [none,some 0] (.var 0) (.range [.lit (.int 1),.var 2]) [] (.emit (.tup [.call "_law_draw" [.var 1,.var 0],.var 0]))) [some (.ref n),some (.int 8),some (.int m),some (.int w),none,none,none] S2=.ok (.lst (tiesD us)) S3:=by rw[a1k']at hr;exact a1l' hr e3
  have hsrt:=a4q' (S:=S3) (d:=.lst (tiesD us)) (l:=us) rfl (by omega);exact a8u' (a5E' (den_v rfl) (a0P' (a0P' hc hsrt) rfl))
 rw[a2j' (a5F' rfl) c4];obtain⟨q,S3,q0,q1,d3,e3⟩:=a3i' hS2 hp2 (m:=5) (by decide) (by decide);have hS3:=d3.flat hS2;have hp3:=d3.pen hp2;obtain⟨o,eo⟩:=a7Q' (S:=S3) q0 q1;rw[a1o' (d:=.int o) (S':=S3) (by simp[den,denL,Res.bind,Res.noErr,a0b',e3,eo])];simp only[Zy,Zx]
 obtain⟨us,S4,s4,d4,e4⟩:=a3R' (n:=n) (f:=tieD) (step:=λx acc S2=>match a0q' (.var 0) x [none,some (.ref n),some (.int o)]with
    |some ρ'=>(denTs a0k' G0 [.cmp .Lt (.call "_law_draw" [.var 1,.lit (.int 8)]) (.var 2)] ρ' S2).bind λk S3=>if k=true then denB a0k' G0 (.emit (.var 0)) ρ' acc S3 else .ok acc S3
    |none=>.fail) (a2D' m.toNat) [] S3 hS3 hp3 (by have:=hpw.few;simp;omega) (λt ht acc S hS hp ha=>by
     obtain⟨r,S',r0,r1,d,e⟩:=a3i' hS hp (m:=8) (by decide) (by decide);refine⟨decide (r<o),S',d,?_⟩;have x2:cmpD .Lt (.int r) (.int o) S'=.ok (.bl (decide (r<o))) S':=rfl;have ha':acc.length<16777216:=by omega
     by_cases y:r<o<;>simp[a0q',isNew,slots,a1h',asgCT,asgVs,denTs,denT,denB,den,denL,Res.bind,Res.noErr,onBl,a0b',e,x2,y,ha'])
 refine⟨m,us,S4,a7P' hpw s4,(d12.trans d3).trans d4,a4C' ?_⟩
 have hc:den a0k' G0 (.comp false ["_law_tie","_law_pen_here","_law_often"] [none,some 0,some 6] (.var 0) (.seq (.call "_law_pairs" [.var 2])) [.cmp .Lt (.call "_law_draw" [.var 1,.lit (.int 8)]) (.var 2)] (.emit (.var 0))) [some (.ref n),some (.int 8),some (.int m),some (.int w),none,none,some (.int o)] S3=.ok (.lst (tiesD us)) S4:=by
  have hr:denI a0k' G0 (.seq (.call "_law_pairs" [.var 2])) [some (.ref n),some (.int 8),some (.int m),some (.int w),none,none,some (.int o)] S3=.ok (.items ((a2D' m.toNat).map tieD)) S3:=by simp[denI,denL,den,Res.bind,a0t',a5C' hS3 m0 m1,a1y',tiesD]
  exact a1l' hr e4
 exact a8u' (a5E' (den_v rfl) (a0P' hc rfl))
section
variable {A B:List D}
theorem box0:(S++[A,B])[S.length]?=some A:=by rw[Zp (Zi _)];simp
theorem box1:(S++[A,B])[S.length+1]?=some B:=by rw[Zp (by omega)];simp
theorem set0{X:List D}:(S++[A,B]).set S.length X=S++[X,B]:=by rw[List.set_append_right _ _ (Zi _)];simp
theorem set1{X:List D}:(S++[A,B]).set (S.length+1) X=S++[A,X]:=by rw[List.set_append_right _ _ (by omega)];simp
theorem flat2(h:Flat S)(ha:lowL 0 A=true)(hb:lowL 0 B=true):Flat (S++[A,B]):=by have:=(h.snoc ha).snoc hb;simpa using this
end
theorem a7R'{step:D→List D→Store→Res (List D)}{S:Store}{k:Nat}{xs:List D}(hk:S[k]?=some xs)(hs:∀x∈xs,∀acc,acc.length<big→step x acc S=.ok (acc++[.bl true]) S∨step x acc S=.ok (acc++[.bl false]) S):
  ∀(f i:Nat) (acc:List D),xs.length<f+i→i≤xs.length→compB step (a1t' k) f i acc S=compD step (xs.drop i) acc S∨big≤acc.length+(xs.length-i)
 |0,i,acc,h1,h2=>absurd h1 (by omega)
 |f+1,i,acc,h1,h2=>by
  unfold compB;have hg:a1t' k S i=some xs[i]? :=by unfold a1t';rw[hk];rfl
  rw[hg];by_cases hi:i<xs.length
  ·rw[Zh hi,List.drop_eq_getElem_cons hi];by_cases hb:acc.length<big
   ·dsimp only;unfold compD;rcases hs xs[i] (List.getElem_mem hi) acc hb with e|e<;>rw[e]<;>dsimp only[Res.bind]
    all_goals
     rcases a7R' hk hs f (i+1) (acc++[_]) (by omega) (by omega)with z|z
     ·exact .inl z
     ·right;simp at z;omega
   ·right;omega
  ·rw[List.getElem?_eq_none (by omega),List.drop_eq_nil_of_le (by omega)];exact .inl rfl
end K05
namespace Pc
inductive Con (R:Int→Int→Prop):Int→Int→Prop
 |refl (a:Int):Con R a a
 |step {a b c:Int} (h:Con R a b) (r:R b c):Con R a c
theorem Con.trans{a b:Int}(h:Con R a b)(k:Con R b c):Con R a c:=by
 induction k with
 |refl=>exact h
 |step _ r ih=>exact ih.step r
theorem Con.symm(hR:∀a b,R a b→R b a){a b:Int}(h:Con R a b):Con R b a:=by
 induction h with
 |refl=>exact .refl _
 |step _ r ih=>exact(Con.step (.refl _) (hR _ _ r)).trans ih
noncomputable def Adj(ts:Lq)(so:Li)(a b:Int):Prop:=((a,b)∈ts∨(b,a)∈ts)∧a∉so∧b∉so
theorem Adj.symm(a b:Int)(h:Adj ts so a b):Adj ts so b a:=⟨h.1.symm,h.2.2,h.2.1⟩
def nm(ns:Li)(p:Int):Int:=ns.getD p.toNat 0
noncomputable def relax(so:Li)(ns:Li)(t:Int×Int):Li:=
 if t.1∉so∧t.2∉so then(ns.set t.1.toNat (min (nm ns t.1) (nm ns t.2))).set t.2.toNat (min (nm ns t.1) (nm ns t.2))else ns
def pass(so:Li)(ts:Lq)(ns:Li):Li:=ts.foldl (relax so) ns
theorem nm_set{i p x:Int}(hi:0≤i)(hl:i<ns.length)(hp:0≤p):nm (ns.set i.toNat x) p=if p=i then x else nm ns p:=by
 unfold nm;simp only[List.getD_eq_getElem?_getD];by_cases h:p=i
 ·subst h;rw[if_pos rfl,ZV (by omega)];rfl
 ·rw[if_neg h,List.getElem?_set_ne (by omega)]
theorem a1P':(relax so ns t).length=ns.length:=by unfold relax;split<;>simp
theorem a5d':∀{ts:Lq},(pass so ts ns).length=ns.length:=by
 intro ts;unfold pass
 induction ts generalizing ns with
 |nil=>rfl
 |cons t ts ih=>rw[List.foldl_cons,ih,a1P']
theorem a5G'(h1:0≤t.1)(h2:t.1<ns.length)(h3:0≤t.2)(h4:t.2<ns.length){p:Int}(hp:0≤p):
  nm (relax so ns t) p=if(t.1∉so∧t.2∉so)∧(p=t.1∨p=t.2)then min (nm ns t.1) (nm ns t.2)else nm ns p:=by
 unfold relax;by_cases h:t.1∉so∧t.2∉so
 ·rw[if_pos h,nm_set h3 (by simpa using h4) hp,nm_set h1 h2 hp];by_cases e2:p=t.2
  ·simp[h,e2]
  ·by_cases e1:p=t.1
   ·simp[h,e1]
   ·simp[e1,e2]
 ·rw[if_neg h];simp[h]
def a1x'(m:Nat)(ts:Lq):Prop:=∀t∈ts,0≤t.1∧t.1<m∧0≤t.2∧t.2<m
theorem a7e'{m:Nat}(hl:ns.length=m)(ht:0≤t.1∧t.1<m∧0≤t.2∧t.2<m){p:Int}(hp:0≤p):nm (relax so ns t) p≤nm ns p:=by
 rw[a5G' ht.1 (by omega) ht.2.2.1 (by omega) hp];split
 ·rename_i h;rcases h.2 with rfl|rfl<;>omega
 ·omega
theorem a6z'{m:Nat}{so:Li}{p:Int}(hp:0≤p):∀{ts:Lq} {ns:Li},a1x' m ts→ns.length=m→nm (pass so ts ns) p≤nm ns p
 | [],ns,_,_=>by unfold pass;simp
 |t::ts,ns,hT,hl=>by have h1:=a7e' (so:=so) hl (hT t Zd) hp;have h2:=a6z' (so:=so) hp (ts:=ts) (ns:=relax so ns t) (λu hu=>hT u (Zb _ hu)) (by rw[a1P',hl]);show nm (pass so ts (relax so ns t)) p≤_;omega
theorem a7f'{m:Nat}{so:Li}:∀{ts:Lq} {ns:Li},a1x' m ts→ns.length=m→∀t∈ts,t.1∉so→t.2∉so→nm (pass so ts ns) t.1≤nm ns t.2∧nm (pass so ts ns) t.2≤nm ns t.1
 | [],ns,_,_,t,h,_,_=>by cases h
 |u::ts,ns,hT,hl,t,h,h1,h2=>by
  have hu:=hT u Zd;have hT':a1x' m ts:=λv hv=>hT v (Zb _ hv);have hl':(relax so ns u).length=m:=by rw[a1P',hl]
  have htm:=hT t h;show nm (pass so ts (relax so ns u)) t.1≤_∧nm (pass so ts (relax so ns u)) t.2≤_;rcases Zm.mp h with e|e
  ·subst e;have a1:=a6z' (so:=so) htm.1 (ts:=ts) hT' hl';have a2:=a6z' (so:=so) htm.2.2.1 (ts:=ts) hT' hl';rw[a5G' hu.1 (by omega) hu.2.2.1 (by omega) htm.1,if_pos ⟨⟨h1,h2⟩,.inl rfl⟩]at a1;rw[a5G' hu.1 (by omega) hu.2.2.1 (by omega) htm.2.2.1,if_pos ⟨⟨h1,h2⟩,.inr rfl⟩]at a2;omega
  ·obtain⟨b1,b2⟩:=a7f' hT' hl' t e h1 h2;have c1:=a7e' (so:=so) hl hu htm.1;have c2:=a7e' (so:=so) hl hu htm.2.2.1;omega
theorem b1g'{m:Nat}{TS:Lq}(hl:ns.length=m)(ht:0≤t.1∧t.1<m∧0≤t.2∧t.2<m)(hm:t∈TS)(h:∀p:Int,0≤p→p<m→Con (Adj TS so) p (nm ns p)):∀p:Int,0≤p→p<m→Con (Adj TS so) p (nm (relax so ns t) p):=by
 intro p p0 p1;rw[a5G' ht.1 (by omega) ht.2.2.1 (by omega) p0];split
 ·rename_i hc;obtain⟨⟨h1,h2⟩,h3⟩:=hc;have a12:Adj TS so t.1 t.2:=⟨.inl hm,h1,h2⟩;have e1:=h t.1 ht.1 ht.2.1;have e2:=h t.2 ht.2.2.1 ht.2.2.2;have f1:Con (Adj TS so) t.1 (nm ns t.2):=(Con.step (.refl _) a12).trans e2;have f2:Con (Adj TS so) t.2 (nm ns t.1):=(Con.step (.refl _) a12.symm).trans e1;by_cases hlt:nm ns t.1≤nm ns t.2
  ·rw[Int.min_eq_left hlt];rcases h3 with rfl|rfl
   ·exact e1
   ·exact f2
  ·rw[Int.min_eq_right (by omega)];rcases h3 with rfl|rfl
   ·exact f1
   ·exact e2
 ·exact h p p0 p1
theorem a9S'{m:Nat}{TS:Lq}{so:Li}:∀{ts:Lq} {ns:Li},a1x' m ts→ns.length=m→(∀t∈ts,t∈TS)→(∀p:Int,0≤p→p<m→Con (Adj TS so) p (nm ns p))→∀p:Int,0≤p→p<m→Con (Adj TS so) p (nm (pass so ts ns) p)
 | [],ns,_,_,_,h=>h
 |t::ts,ns,hT,hl,hs,h=>by show ∀p:Int,0≤p→p<m→Con (Adj TS so) p (nm (pass so ts (relax so ns t)) p);exact a9S' (λu hu=>hT u (Zb _ hu)) (by rw[a1P',hl]) (λu hu=>hs u (Zb _ hu)) (b1g' hl (hT t Zd) (hs t Zd) h)
noncomputable def a0S'(so:Li)(ts:Lq):Nat→Li→Li
 |0,ns=>ns
 |k+1,ns=>a0S' so ts k (pass so ts ns)
theorem a3t':∀{k:Nat},a0S' so ts (k+1) ns=pass so ts (a0S' so ts k ns):=by
 intro k
 induction k generalizing ns with
 |zero=>rfl
 |succ k ih=>exact ih
theorem a6A':∀{k:Nat},(a0S' so ts k ns).length=ns.length:=by
 intro k
 induction k generalizing ns with
 |zero=>rfl
 |succ k ih=>show(a0S' so ts k (pass so ts ns)).length=_;rw[ih,a5d']
theorem a9T'{m:Nat}(hT:a1x' m ts)(hl:ns.length=m)(h:∀p:Int,0≤p→p<m→Con (Adj ts so) p (nm ns p)):∀{k:Nat} (p:Int),0≤p→p<m→Con (Adj ts so) p (nm (a0S' so ts k ns) p):=by
 intro k
 induction k generalizing ns with
 |zero=>exact h
 |succ k ih=>exact ih (by rw[a5d',hl]) (a9S' hT hl (λt ht=>ht) h)
noncomputable def cnt(m:Nat)(f:Nat→Bool):Nat:=((List.range m).filter f).length
theorem cnt_le{m:Nat}{f:Nat→Bool}:cnt m f≤m:=by unfold cnt;exact ZT (ZG _ _) (by simp)
theorem a7S'{α:Type}{f g:α→Bool}:∀(l:List α),(∀x∈l,f x=true→g x=true)→(l.filter f).length≤(l.filter g).length
 | [],_=>Zi _
 |x::l,h=>by have ih:=a7S' l λy hy=>h y (Zb _ hy);have hx:=h x Zd;cases e:f x<;>cases e2:g x<;>simp[e,e2]at hx⊢<;>omega
theorem a7T'{α:Type}{f g:α→Bool}:∀(l:List α),(∀x∈l,f x=true→g x=true)→(∃x∈l,f x=false∧g x=true)→(l.filter f).length<(l.filter g).length
 | [],_,h=>by obtain⟨x,h,_⟩:=h;cases h
 |x::l,h,hx=>by
  have ih:=a7S' l λy hy=>h y (Zb _ hy);obtain⟨y,hy,h1,h2⟩:=hx;rcases Zm.mp hy with e|e
  ·subst e;simp[h1,h2];omega
  ·have ih2:=a7T' l (λy hy=>h y (Zb _ hy)) ⟨y,e,h1,h2⟩;have hx:=h x Zd;cases e:f x<;>cases e2:g x<;>simp[e,e2]at hx⊢<;>omega
theorem a7g'{m:Nat}(hT:a1x' m ts)(hl:ns.length=m)(h0:∀p:Int,0≤p→p<m→nm ns p=p)(c0:0≤c)(c1:c<m)(hc:∀q,Con (Adj ts so) c q→c≤q):
  ∀p,Con (Adj ts so) c p→nm (a0S' so ts m ns) p=c:=by
 have inR:∀{q:Int},Con (Adj ts so) c q→0≤q∧q<m:=by
  intro q h;cases h with
  |refl=>exact⟨c0,c1⟩
  |step _ r=>
   rcases r.1 with r|r
   ·have:=hT _ r;dsimp only at this;omega
   ·have:=hT _ r;dsimp only at this;omega
 have hcon:∀{k:Nat} (p:Int),0≤p→p<m→Con (Adj ts so) p (nm (a0S' so ts k ns) p):=a9T' hT hl λp p0 p1=>by rw[h0 p p0 p1];exact .refl _
 have hge:∀{k:Nat} (p:Int),Con (Adj ts so) c p→c≤nm (a0S' so ts k ns) p:=λp hp=>hc _ (hp.trans (hcon p (inR hp).1 (inR hp).2));have hlen:∀{k:Nat},(a0S' so ts k ns).length=m:=by intro k;rw[a6A',hl]
 let A:Nat→Nat→Bool:=λk i=>decide (nm (a0S' so ts k ns) i=c)
 have hcA:∀k,nm (a0S' so ts k ns) c=c:=by
  intro k
  induction k with
  |zero=>exact h0 c c0 c1
  |succ k ih=>have:=a6z' (so:=so) c0 hT (hlen (k:=k));rw[←a3t']at this;have:=hge (k:=k+1) c (.refl _);omega
 have hdown:∀(k:Nat) (p:Int),Con (Adj ts so) c p→nm (a0S' so ts k ns) p=c→nm (a0S' so ts (k+1) ns) p=c:=by intro k p hp e;have h1:=a6z' (so:=so) (inR hp).1 hT (hlen (k:=k));rw[←a3t']at h1;have h2:=hge (k:=k+1) p hp;omega
 have claim:∀k,(∀p,Con (Adj ts so) c p→nm (a0S' so ts k ns) p=c)∨k+1≤cnt m (A k):=by
  intro k
  induction k with
  |zero=>right;unfold cnt;refine List.length_pos_iff.mpr λz=>?_;have:c.toNat∈(List.range m).filter (A 0):=ZQ.mpr ⟨List.mem_range.mpr (by omega),by show decide (nm (a0S' so ts 0 ns) (c.toNat:Int)=c)=true;rw[Int.toNat_of_nonneg c0,hcA 0];simp⟩;rw[z]at this;cases this
  |succ k ih=>
   by_cases hs:∀p,Con (Adj ts so) c p→nm (a0S' so ts k ns) p=c
   ·left;intro p hp;exact hdown k p hp (hs p hp)
   ·right
    have ih':k+1≤cnt m (A k):=by
     rcases ih with z|z
     ·exact absurd z hs
     ·exact z
    have edge:∃q r,Con (Adj ts so) c q∧nm (a0S' so ts k ns) q=c∧Adj ts so q r∧nm (a0S' so ts k ns) r≠c:=by
     refine Classical.byContradiction λhno=>hs λp hp=>?_
     induction hp with
     |refl=>exact hcA k
     |step hq r ih2=>exact Classical.byContradiction λz=>hno ⟨_,_,hq,ih2,r,z⟩
    obtain⟨q,r,hq,e1,a,e2⟩:=edge;have hr:Con (Adj ts so) c r:=hq.step a
    have e3:nm (a0S' so ts (k+1) ns) r=c:=by
     have h2:=hge (k:=k+1) r hr
     have h3:nm (a0S' so ts (k+1) ns) r≤nm (a0S' so ts k ns) q:=by
      rw[a3t'];rcases a.1 with z|z
      ·exact(a7f' hT (hlen (k:=k)) _ z a.2.1 a.2.2).2
      ·exact(a7f' hT (hlen (k:=k)) _ z a.2.2 a.2.1).1
     omega
    have lt:cnt m (A k)<cnt m (A (k+1)):=by
     refine a7T' _ (λi hi e=>?_) ⟨r.toNat,List.mem_range.mpr (by have:=inR hr;omega),?_,?_⟩
     ·have e':nm (a0S' so ts k ns) (i:Int)=c:=by simpa[A]using e
      have hi':=List.mem_range.mp hi;have hci:Con (Adj ts so) c i:=by have:=hcon (k:=k) (i:Int) (by omega) (by omega);rw[e']at this;exact this.symm Adj.symm
      show decide (nm (a0S' so ts (k+1) ns) (i:Int)=c)=true;rw[hdown k i hci e'];simp
     ·show decide (nm (a0S' so ts k ns) (r.toNat:Int)=c)=false;rw[Int.toNat_of_nonneg (inR hr).1];simpa using e2
     ·show decide (nm (a0S' so ts (k+1) ns) (r.toNat:Int)=c)=true;rw[Int.toNat_of_nonneg (inR hr).1,e3];simp
    omega
 rcases claim m with z|z
 ·exact z
 ·have:=cnt_le (m:=m) (f:=A m);omega
noncomputable def bfs(tie:Int→Int→Bool)(left:Li):Nat→Li→Li→Li
 |0,r,_=>r
 |f+1,r,w=>match w.getLast? with
  |none=>r
  |some h=>bfs tie left f (r++left.filter λp=> !r.contains p&&tie h p) (w.dropLast++left.filter λp=> !r.contains p&&tie h p)
theorem b3b'{w:Li}{h p:Int}(e:w.getLast? =some h):p∈w↔p∈w.dropLast∨p=h:=by
 have hw:w≠[]:=λz=>by rw[z]at e;cases e
 have e2:w.getLast hw=h:=by rw[List.getLast?_eq_some_getLast hw]at e;exact ZL e
 rw[←e2]
 conv=>lhs;rw[←List.dropLast_concat_getLast hw]
 simp
theorem a9U'{R:Int→Int→Prop}{tie:Int→Int→Bool}{left:Li}(hn:left.Nodup)(hR:∀a b,a∈left→(R a b↔b∈left∧tie a b=true)){st:Int}:
  ∀(f:Nat) (r w:Li),r.Nodup→w.Nodup→(∀p∈r,p∈left∧Con R st p)→(∀p∈w,p∈r)→(∀p∈r,p∉w→∀q,R p q→q∈r)→st∈r→w.length+left.length<f+r.length→
  (bfs tie left f r w).Nodup∧∀p,p∈bfs tie left f r w↔Con R st p
 |0,r,w,n1,_,h2,_,_,_,hf=>by have:r.length≤left.length:=n1.length_le_of_subset λp hp=>(h2 p hp).1;omega
 |f+1,r,w,n1,n2,h2,h3,h4,hs,hf=>by
  unfold bfs;cases e:w.getLast? with
  |none=>
   have hw:w=[]:=List.getLast?_eq_none_iff.mp e;subst hw;refine⟨n1,λp=>⟨λhp=>(h2 p hp).2,λhp=>?_⟩⟩
   induction hp with
   |refl=>exact hs
   |step _ rr ih=>exact h4 _ ih (by simp) _ rr
  |some h=>
   have ml:=λp=>b3b' (p:=p) e;have hh:h∈r:=h3 h ((ml h).mpr (.inr rfl));have hhl:=(h2 h hh).1;have hw:w≠[]:=λz=>by rw[z]at e;cases e
   have hwl:0<w.length:=List.length_pos_iff.mpr hw
   let fr:=left.filter λp=> !r.contains p&&tie h p
   have mf:∀p,p∈fr↔p∈left∧p∉r∧tie h p=true:=λp=>by simp[fr]
   have nf:fr.Nodup:=hn.sublist Z1
   have nd:h∉w.dropLast:=by
    intro z;have:=n2;rw[←List.dropLast_concat_getLast hw]at this;have e2:w.getLast hw=h:=by rw[List.getLast?_eq_some_getLast hw]at e;exact ZL e
    rw[e2]at this;exact(ZZ.mp this).2.2 h z h (by simp) rfl
   refine a9U' hn hR f (r++fr) (w.dropLast++fr) ?_ ?_ ?_ ?_ ?_ ?_ ?_
   ·exact ZZ.mpr ⟨n1,nf,λa ha b hb z=>by subst z;exact((mf a).mp hb).2.1 ha⟩
   ·refine ZZ.mpr ⟨n2.sublist (List.dropLast_sublist _),nf,λa ha b hb z=>?_⟩;subst z;exact((mf a).mp hb).2.1 (h3 a ((ml a).mpr (.inl ha)))
   ·intro p hp;rcases ZF.mp hp with z|z
    ·exact h2 p z
    ·obtain⟨z1,z2,z3⟩:=(mf p).mp z;exact⟨z1,(h2 h hh).2.step ((hR h p hhl).mpr ⟨z1,z3⟩)⟩
   ·intro p hp;rcases ZF.mp hp with z|z
    ·exact ZJ _ (h3 p ((ml p).mpr (.inl z)))
    ·exact Zq _ z
   ·intro p hp hpw q hq;rcases ZF.mp hp with z|z
    ·by_cases hw2:p∈w
     ·rcases(ml p).mp hw2 with y|y
      ·exact absurd (ZJ _ y) hpw
      ·subst y;obtain⟨q1,q2⟩:=(hR p q hhl).mp hq;by_cases hqr:q∈r
       ·exact ZJ _ hqr
       ·exact Zq _ ((mf q).mpr ⟨q1,hqr,q2⟩)
     ·exact ZJ _ (h4 p z hw2 q hq)
    ·exact absurd (Zq _ z) hpw
   ·exact ZJ _ hs
   ·simp only[Zt,List.length_dropLast];omega
theorem bfs_all(hn:left.Nodup)(hR:∀a b,a∈left→(R a b↔b∈left∧tie a b=true)){st:Int}(hs:st∈left){f:Nat}(hf:left.length<f):
  (bfs tie left f [st] [st]).Nodup∧∀p,p∈bfs tie left f [st] [st]↔Con R st p:=
 a9U' hn hR f [st] [st] (by simp) (by simp) (λp hp=>have e:p=st:=(by simpa using hp);⟨e▸hs,e▸ .refl _⟩) (λp hp=>hp) (λp hp hw=>absurd hp hw) (by simp) (by simp;omega)
theorem a2l':∀{l k:Li},l.Pairwise (· < ·)→k.Pairwise (· < ·)→(∀p,p∈l↔p∈k)→l=k
 | [],[],_,_,_=>rfl
 | [],y::k,_,_,h=>absurd ((h y).mpr Zd) (by simp)
 |x::l,[],_,_,h=>absurd ((h x).mp Zd) (by simp)
 |x::l,y::k,hl,hk,h=>by
  obtain⟨l1,l2⟩:=ZE.mp hl;obtain⟨k1,k2⟩:=ZE.mp hk
  have e:x=y:=by
   rcases Zm.mp ((h x).mp Zd)with z|z
   ·exact z
   ·rcases Zm.mp ((h y).mpr Zd)with w|w
    ·exact w.symm
    ·have:=k1 x z;have:=l1 y w;omega
  subst e;rw[a2l' l2 k2 λp=>⟨λhp=>?_,λhp=>?_⟩]
  ·rcases Zm.mp ((h p).mp (Zb _ hp))with z|z
   ·have:=l1 p hp;omega
   ·exact z
  ·rcases Zm.mp ((h p).mpr (Zb _ hp))with z|z
   ·have:=k1 p hp;omega
   ·exact z
open K05
theorem a9V'{P:Int→Prop}(h0:∀p,P p→0≤p):∀(n:Nat) (p:Int),P p→p.toNat≤n→∃c,P c∧c≤p∧∀q,P q→c≤q
 |0,p,hp,hn=>⟨p,hp,by omega,λq hq=>by have:=h0 p hp;have:=h0 q hq;omega⟩
 |n+1,p,hp,hn=>by
  by_cases h:∀q,P q→p≤q
  ·exact⟨p,hp,by omega,h⟩
  ·obtain⟨q,hq⟩:=Classical.not_forall.mp h;obtain⟨hq1,hq2⟩:=Classical.not_imp.mp hq;have:=h0 q hq1;obtain⟨c,c1,c2,c3⟩:=a9V' h0 n q hq1 (by omega);exact⟨c,c1,by omega,c3⟩
theorem a1r':(a0e' lo n).Pairwise (· < ·):=by
 induction n generalizing lo with
 |zero=>exact .nil
 |succ n ih=>unfold a0e';exact ZE.mpr ⟨λx hx=>by have:=a4o' hx;omega,ih⟩
theorem a0p'{x:Int}:x∈a0e' lo n↔lo≤x∧x<lo+n:=by
 refine⟨a4o',λh=>?_⟩
 induction n generalizing lo with
 |zero=>omega
 |succ n ih=>
  unfold a0e';by_cases e:x=lo
  ·subst e;exact Zd
  ·exact Zb _ (ih (by omega))
theorem b3c'{m:Nat}{p:Int}(h0:0≤p)(h1:p<m):nm (a0e' 0 m) p=p:=by
 have key:∀(n:Nat) (lo:Int) (i:Nat),i<n→(a0e' lo n)[i]?=some (lo+i):=by
  intro n
  induction n with
  |zero=>intro lo i h;omega
  |succ n ih=>
   intro lo i h;unfold a0e';cases i with
   |zero=>simp
   |succ i=>rw[ZH,ih (lo+1) i (by omega)];congr 1;omega
 unfold nm;rw[List.getD_eq_getElem?_getD,key m 0 p.toNat (by omega)];show(0:Int)+(p.toNat:Int)=p;omega
section
variable {m:Nat}
def fin(so:Li)(ts:Lq)(m:Nat):Li:=a0S' so ts m (a0e' 0 m)
theorem a0K'(hT:a1x' m ts){p:Int}(h0:0≤p)(h1:p<m)(h:Con (Adj ts so) p q):0≤q∧q<m:=by
 cases h with
 |refl=>exact⟨h0,h1⟩
 |step _ r=>
  rcases r.1 with r|r
  ·have:=hT _ r;dsimp only at this;omega
  ·have:=hT _ r;dsimp only at this;omega
theorem b3d'{p:Int}(hp:p∉so)(h:Con (Adj ts so) p q):q∉so:=by
 cases h with
 |refl=>exact hp
 |step _ r=>exact r.2.2
theorem a1b'(hT:a1x' m ts){p:Int}(h0:0≤p)(h1:p<m):Con (Adj ts so) p (nm (fin so ts m) p)∧∀q,Con (Adj ts so) p q→nm (fin so ts m) p≤q:=by obtain⟨c,c1,c2,c3⟩:=a9V' (P:=Con (Adj ts so) p) (λq hq=>(a0K' hT h0 h1 hq).1) p.toNat p (.refl _) (Zi _);have hc:=a0K' hT h0 h1 c1;have e:nm (fin so ts m) p=c:=a7g' hT a0d' (λq q0 q1=>b3c' q0 q1) hc.1 hc.2 (λq hq=>c3 q (c1.trans hq)) p (c1.symm Adj.symm);rw[e];exact⟨c1,c3⟩
theorem a8v'(hT:a1x' m ts){p:Int}(h0:0≤p)(h1:p<m)(g0:0≤q)(g1:q<m):nm (fin so ts m) p=nm (fin so ts m) q↔Con (Adj ts so) p q:=by
 obtain⟨a1,a2⟩:=a1b' (so:=so) hT h0 h1;obtain⟨b1,b2⟩:=a1b' (so:=so) hT g0 g1;refine⟨λe=>?_,λh=>?_⟩
 ·rw[e]at a1;exact a1.trans (b1.symm Adj.symm)
 ·have:=a2 _ (h.trans b1);have:=b2 _ ((h.symm Adj.symm).trans a1);omega
theorem a9W'(hT:a1x' m ts){p:Int}(h0:0≤p)(h1:p<m):nm (fin so ts m) (nm (fin so ts m) p)=nm (fin so ts m) p:=by obtain⟨a1,a2⟩:=a1b' (so:=so) hT h0 h1;have hr:=a0K' hT h0 h1 a1;exact((a8v' hT h0 h1 hr.1 hr.2).mpr a1).symm
theorem fin_le(hT:a1x' m ts){p:Int}(h0:0≤p)(h1:p<m):nm (fin so ts m) p≤p:=(a1b' (so:=so) hT h0 h1).2 p (.refl _)
noncomputable def chain(so:Li)(ts:Lq)(m:Nat)(c:Int):Li:=(a0e' 0 m).filter λp=>decide (nm (fin so ts m) p=c)&& !so.contains p
theorem a0l'{p:Int}:p∈chain so ts m c↔(0≤p∧p<m)∧nm (fin so ts m) p=c∧p∉so:=by unfold chain;rw[ZQ,a0p'];simp
theorem b3e'(hT:a1x' m ts)(h0:0≤c)(h1:c<m):chain so ts m c≠[]↔c∉so∧nm (fin so ts m) c=c:=by
 refine⟨λh=>?_,λ⟨h2,h3⟩ z=>?_⟩
 ·obtain⟨p,hp⟩:=List.exists_mem_of_ne_nil _ h;obtain⟨⟨p0,p1⟩,e,hs⟩:=a0l'.mp hp;have a:=(a1b' (so:=so) hT p0 p1).1;have b:=a9W' (so:=so) hT p0 p1;rw[e]at a b;exact⟨b3d' hs a,b⟩
 ·have:c∈chain so ts m c:=a0l'.mpr ⟨⟨h0,h1⟩,h3,h2⟩;rw[z]at this;cases this
theorem a0T':(chain so ts m c).Pairwise (· < ·):=a1r'.sublist Z1
theorem b3f'(hT:a1x' m ts)(h0:0≤c)(h1:c<m)(hs:c∉so)(hc:nm (fin so ts m) c=c){l:Li}(hl:l.Pairwise (· < ·))(hm:∀p,p∈l↔Con (Adj ts so) c p):l=chain so ts m c:=by
 refine a2l' hl a0T' λp=>?_;rw[hm,a0l'];refine⟨λh=>?_,λ⟨⟨p0,p1⟩,e,_⟩=>?_⟩
 ·have hr:=a0K' hT h0 h1 h;refine⟨hr,?_,b3d' hs h⟩;rw[←(a8v' hT h0 h1 hr.1 hr.2).mpr h,hc]
 ·refine(a8v' hT h0 h1 p0 p1).mp ?_;rw[e,hc]
theorem a9X'(hT:a1x' m ts){p:Int}(h0:0≤p)(h1:p<m)(hs:p∉so):(∃c,(0≤c∧c<p)∧p∈chain so ts m c)↔nm (fin so ts m) p≠p:=by
 refine⟨λ⟨c,hc,hp⟩=>?_,λh=>?_⟩
 ·obtain⟨_,e,_⟩:=a0l'.mp hp;omega
 ·have:=fin_le (so:=so) hT h0 h1;have a:=a0K' hT h0 h1 (a1b' (so:=so) hT h0 h1).1;exact⟨nm (fin so ts m) p,by omega,a0l'.mpr ⟨⟨h0,h1⟩,rfl,hs⟩⟩
end
end Pc
namespace K05
theorem b1h'(hS:Flat S)(a b:Int):a5w' [.int a,.int b] S=.ok (tieD (min a b,max a b)) S:=by
 refine a0D' rfl ?_ rfl hS rfl;have h1:a5l' [.int a,.int b] S=.ok (.int (min a b)) S:=by simp[a5l',minD];split<;>omega
 have h2:a7y' [.int a,.int b] S=.ok (.int (max a b)) S:=by simp[a7y',maxD];split<;>omega
 simp[a9G',a9F',denSs,denS,den,denL,Res.bind,Res.noErr,bltD,h1,h2,tieD]
noncomputable def tied(ts:Lq)(a b:Int):Bool:=decide ((min a b,max a b)∈ts)
theorem a5e'(hS:Flat S)(m:Int)(ts:Lq)(a b:Int):a1C' [webD m ts,.int a,.int b] S=.ok (.bl (tied ts a b)) S:=by refine a0D' rfl ?_ rfl hS rfl;have h1:=b1h' hS a b;have h2:idxD (webD m ts) (.int 1) S=.ok (.tup (tiesD ts)) S:=rfl;have h3:=K05.in_ties S (min a b,max a b) ts;simp[a6k',a6j',denSs,denS,den,denL,Res.bind,Res.noErr,a3o',h1,h2,cmpD,h3,boolR,tied]
noncomputable def nearI(m:Int)(ts:Lq)(p:Int):Li:=(K05.a0e' 0 m.toNat).filter λq=>tied ts p q
theorem near_eq(hS:Flat S)(W:Web m ts){p:Int}(hp:0≤p∧p<m):a6V' [webD m ts,.int p] S=.ok (.tup ((nearI m ts p).map D.int)) S:=by
 refine a0D' rfl ?_ rfl hS (K05.a2T' _);have hi:idxD (webD m ts) (.int 0) S=.ok (.int m) S:=rfl;have w1:=W.lo;have w2:=W.hi;have hr:(-4611686018427387904:Int)≤m∧m<4611686018427387904:=by omega
 have h1:a0j' [webD m ts] S=.ok .non S:=K05.a0O' hS W;have h2:a0E' [webD m ts,.int p] S=.ok .non S:=K05.a3r' hS hp;simp[c_near,n_near,denSs,denS,denT,den,denL,denI,Res.bind,Res.noErr,onBl,bltD,compI,hi,hr,K05.a1k',a3f',a2y',h1,h2];rw[K05.a0A' (f:=D.int) (p:=λq=>tied ts p q) (e:=D.int)]
 ·simp[Res.noErr,a8b',seqOf,nearI]
 ·intro q hq acc ha;have ha':acc.length<16777216:=ha;have h3:=a5e' hS m ts p q;cases e:tied ts p q<;>rw[e]at h3<;>simp[a0q',isNew,slots,a1h',asgCT,asgVs,denTs,denT,denB,den,denL,Res.bind,Res.noErr,a4d',h3,truD,ha']
 ·rw[K05.a0d'];unfold big;omega
theorem a7h'(hS:Flat S)(hl:so.length≤100)(h1:∀p∈so,0≤p∧p<m)(h2:so.Pairwise (· < ·)):a3L' [webD m ts,.tup (so.map D.int)] S=.ok (.bl true) S:=by
 refine a0D' rfl ?_ rfl hS rfl;have hi:idxD (webD m ts) (.int 0) S=.ok (.int m) S:=rfl;have a1:a0z' [.int m,.tup (so.map D.int)] S=.ok (.bl true) S:=K05.a2L' hS (by omega) h1
 have a2:a0r' [.tup (so.map D.int)] S=.ok (.bl true) S:=K05.a3q' hS (by simp;omega) λi x y e1 e2=>by
  rw[ZP]at e1 e2;cases f1:so[i]? with
  |none=>rw[f1]at e1;cases e1
  |some a=>
   cases f2:so[i+1]? with
   |none=>rw[f2]at e2;cases e2
   |some b=>rw[f1]at e1;rw[f2]at e2;cases e1;cases e2;obtain⟨g1,rfl⟩:=Zf.mp f1;obtain⟨g2,rfl⟩:=Zf.mp f2;show some (decide (so[i]<so[i+1]))=some true;rw[ZI (List.pairwise_iff_getElem.mp h2 i (i+1) g1 g2 (by omega))]
 simp[a7K',a7J',denSs,denS,den,denL,Res.bind,Res.noErr,onBl,a2w',a2O',hi,a1,a2]
theorem a3J'(hS:Flat S)(hl:so.length≤100)(h1:∀p∈so,0≤p∧p<m)(h2:so.Pairwise (· < ·)):a1f' [webD m ts,.tup (so.map D.int)] S=.ok .non S:=by refine a5B' (ρ:=[some (webD m ts),some (.tup (so.map D.int))]) rfl ?_ rfl hS;simp[a3d',a3c',denSs,denS,denT,den,denL,Res.bind,a1S',a7h' hS hl h1 h2,truD]
noncomputable def insN(x:Int):Li→Li
 | []=>[x]
 |y::ys=>if x<y then x::y::ys else y::insN x ys
def sortN(l:Li):Li:=l.foldl (λacc x=>insN x acc) []
theorem a9Y'(x:Int):∀l:Li,insB (ltK .int) (.int x) (l.map D.int)=(insN x l).map D.int
 | []=>rfl
 |y::ys=>by
  have e:insN x (y::ys)=if x<y then x::y::ys else y::insN x ys:=rfl;show(if decide (x<y)=true then D.int x::D.int y::ys.map D.int else D.int y::insB (ltK .int) (.int x) (ys.map D.int))=_;rw[a9Y' x ys,e];by_cases h:x<y
  ·rw[ZI h,if_pos rfl,if_pos h];rfl
  ·rw[ZC h,if_neg ZS,if_neg h];rfl
theorem a6B':∀(l acc:Li),(l.map D.int).foldl (λacc x=>insB (ltK .int) x acc) (acc.map D.int)=(l.foldl (λacc x=>insN x acc) acc).map D.int
 | [],acc=>rfl
 |x::l,acc=>by show(l.map D.int).foldl (λacc x=>insB (ltK .int) x acc) (insB (ltK .int) (.int x) (acc.map D.int))=_;rw[a9Y',a6B' l];rfl
theorem a3S'(x:Int):∀l,(insN x l).Perm (x::l)
 | []=>.refl _
 |y::ys=>by
  unfold insN;split
  ·exact .refl _
  ·exact((a3S' x ys).cons y).trans (.swap x y ys)
theorem a5f':∀(l acc:Li),(l.foldl (λacc x=>insN x acc) acc).Perm (l++acc)
 | [],acc=>.refl _
 |x::l,acc=>(a5f' l (insN x acc)).trans (((a3S' x acc).append_left l).trans List.perm_middle)
theorem a4r'(l:Li):(sortN l).Perm l:=by have:=a5f' l [];rw[List.append_nil]at this;exact this
theorem a5g'(x:Int):∀l,l.Pairwise (· < ·)→x∉l→(insN x l).Pairwise (· < ·)
 | [],_,_=>List.pairwise_singleton _ _
 |y::ys,h,n=>by
  obtain⟨h1,h2⟩:=ZE.mp h;unfold insN;by_cases e:x<y
  ·rw[if_pos e];refine ZE.mpr ⟨λz hz=>?_,h⟩;rcases Zm.mp hz with rfl|hz
   ·exact e
   ·have:=h1 z hz;omega
  ·rw[if_neg e];refine ZE.mpr ⟨λz hz=>?_,a5g' x ys h2 λz=>n (Zb _ z)⟩;rcases Zm.mp ((a3S' x ys).mem_iff.mp hz)with rfl|hz
   ·have:z≠y:=λq=>n (by subst q;exact Zd);omega
   ·exact h1 z hz
theorem a3G':∀(l acc:Li),acc.Pairwise (· < ·)→(l++acc).Nodup→(l.foldl (λacc x=>insN x acc) acc).Pairwise (· < ·)
 | [],acc,h,_=>h
 |x::l,acc,h,n=>by have n':(x::(l++acc)).Nodup:=n;obtain⟨n1,n2⟩:=List.nodup_cons.mp n';refine a3G' l (insN x acc) (a5g' x acc h λz=>n1 (Zq _ z)) ?_;exact(((a3S' x acc).append_left l).trans List.perm_middle).nodup_iff.mpr n'
theorem a4s'{l:Li}(h:l.Nodup):(sortN l).Pairwise (· < ·):=a3G' l [] .nil (by simpa using h)
theorem a4t'{l:Li}(hd:seqOf S d=some (l.map D.int))(hl:l.length<64):a3y' false .int [d] S=.ok (.lst ((sortN l).map D.int)) S:=by
 have e1:(l.map D.int).all (hasTy .int)=true:=by rw[ZD];intro x hx;obtain⟨t,_,rfl⟩:=Zs.mp hx;rfl
 unfold a3y';simp only[hd];rw[if_pos ⟨e1,by simp;omega,rfl⟩,show a5n' (ltK .int) (l.map D.int)=(sortN l).map D.int from a6B' l []];rfl
theorem a6C'{l:Li}(hd:seqOf S d=some (l.map D.int))(q:Int):inD (.int q) d S=some (decide (q∈l)):=by
 unfold inD;simp only[hd];rw[List.map_map];have e2:((λy=>eqF S deep y (.int q))∘D.int)=λu=>some (u==q):=by funext u;exact K05.a6u' S 39 u q
 rw[e2,K05.a7a'];congr 1;clear e2 hd
 induction l with
 |nil=>rfl
 |cons u us ih=>
  rw[List.any_cons,ih];by_cases h:u=q
  ·subst h;simp
  ·have h':¬q=u:=λz=>h z.symm;have:(u==q)=false:=by simpa using h
   rw[this];by_cases h2:q∈us<;>simp[h',h2]
noncomputable def a8w':List CS:=[.asg 5 (.meth .pop (.var 4) []),.asg 6 (.comp false ["place","reached","web","here"] [none,some 3,some 0,some 5] (.var 0) (.seq (.var 1)) [.band (.cmp .NotIn (.var 0) (.var 1)) (.call "have_tie" [.var 2,.var 3,.var 0])] (.emit (.var 0))),.expr (.meth .extend (.var 3) [.var 6]),.expr (.meth .extend (.var 4) [.var 6])]
theorem po_iter(hS:Flat S){r w:Li}{h:Int}{st:D}(hl:left.length≤100)(hr:r.length≤1000)(hwl:w.length≤1000)(hw:w.getLast? =some h):
  denSs a0n' G0 a8w' [some (webD m ts),some (.lst (left.map D.int)),some st,some (.ref S.length),some (.ref (S.length+1)),x5,x6] (S++[r.map D.int,w.map D.int])=
   .ok (.next [some (webD m ts),some (.lst (left.map D.int)),some st,some (.ref S.length),some (.ref (S.length+1)),some (.int h),some (.lst ((left.filter λp=> !r.contains p&&tied ts h p).map D.int))])
    (S++[(r++left.filter λp=> !r.contains p&&tied ts h p).map D.int,(w.dropLast++left.filter λp=> !r.contains p&&tied ts h p).map D.int]):=by
 have hpop:b1z' (.ref (S.length+1)) [] (S++[r.map D.int,w.map D.int])=.ok (.int h) (S++[r.map D.int,w.dropLast.map D.int]):=by
  show popD (.ref (S.length+1)) [] (S++[r.map D.int,w.map D.int])=_;unfold popD;simp only[box1];have e:(w.map D.int)[(w.map D.int).length-1]?=some (.int h):=by rw[ZP,Zw];rw[List.getLast?_eq_getElem?]at hw;rw[hw];rfl
  rw[e];simp only[set1,List.map_dropLast]
 unfold a8w';rw[a1o' (d:=.int h) (S':=S++[r.map D.int,w.dropLast.map D.int]) (by simp[den,denL,Res.bind,Res.noErr,methD,hpop])];simp only[Zy,Zx];have hF:Flat (S++[r.map D.int,w.dropLast.map D.int]):=flat2 hS (K05.a2T' _) (K05.a2T' _)
 have hcomp:den a0n' G0 (.comp false ["place","reached","web","here"] [none,some 3,some 0,some 5] (.var 0) (.seq (.var 1)) [.band (.cmp .NotIn (.var 0) (.var 1)) (.call "have_tie" [.var 2,.var 3,.var 0])] (.emit (.var 0))) [some (webD m ts),some (.lst (left.map D.int)),some st,some (.ref S.length),some (.ref (S.length+1)),some (.int h),x6] (S++[r.map D.int,w.dropLast.map D.int])=
   .ok (.lst ((left.filter λp=> !r.contains p&&tied ts h p).map D.int)) (S++[r.map D.int,w.dropLast.map D.int]):=by
  refine a1l' (its:=.items (left.map D.int)) (S1:=S++[r.map D.int,w.dropLast.map D.int]) (by simp[denI,den,Res.bind,a1y']) ?_;refine a0A' (f:=D.int) (e:=D.int) (p:=λp=> !r.contains p&&tied ts h p) (λp hp acc ha=>?_) (by unfold big;omega);have ha':acc.length<16777216:=ha;have h3:=a5e' hF m ts h p
  have h4:inD (.int p) (.ref S.length) (S++[r.map D.int,w.dropLast.map D.int])=some (r.contains p):=by rw[a6C' (l:=r) (by show(S++[r.map D.int,w.dropLast.map D.int])[S.length]?=_;exact box0)];simp
  generalize S++[r.map D.int,w.dropLast.map D.int]=T at h3 h4;cases e1:r.contains p<;>cases e2:tied ts h p<;>rw[e1]at h4<;>rw[e2]at h3<;>simp[a0q',isNew,slots,a1h',asgCT,asgVs,denTs,denT,denB,den,denL,Res.bind,Res.noErr,onBl,cmpD,h4,boolR,a2P',h3,truD,ha']
 rw[a1o' hcomp];simp only[Zy,Zx];generalize hfr:(left.filter λp=> !r.contains p&&tied ts h p)=fr;have hfl:fr.length≤100:=by rw[←hfr];exact ZT (ZG _ _) hl
 have x1:a3V' (.ref S.length) [.lst (fr.map D.int)] (S++[r.map D.int,w.dropLast.map D.int])=.ok .non (S++[(r++fr).map D.int,w.dropLast.map D.int]):=by unfold a3V';simp only[box0,Py.a3j',Zw];rw[if_pos (by unfold big;omega),set0,List.map_append]
 have x2:a3V' (.ref (S.length+1)) [.lst (fr.map D.int)] (S++[(r++fr).map D.int,w.dropLast.map D.int])=.ok .non (S++[(r++fr).map D.int,(w.dropLast++fr).map D.int]):=by unfold a3V';simp only[box1,Py.a3j',Zw,List.length_dropLast];rw[if_pos (by unfold big;omega),set1,←List.map_append]
 rw[a0o' (ρ':=[some (webD m ts),some (.lst (left.map D.int)),some st,some (.ref S.length),some (.ref (S.length+1)),some (.int h),some (.lst (fr.map D.int))]) (S':=S++[(r++fr).map D.int,w.dropLast.map D.int]) (by simp only[denS,den,denL,Res.bind,Res.noErr,methD,ZH,ZM,x1])];rw[a0o' (ρ':=[some (webD m ts),some (.lst (left.map D.int)),some st,some (.ref S.length),some (.ref (S.length+1)),some (.int h),some (.lst (fr.map D.int))]) (S':=S++[(r++fr).map D.int,(w.dropLast++fr).map D.int]) (by simp only[denS,den,denL,Res.bind,Res.noErr,methD,ZH,ZM,x2])];rw[denSs]
theorem a9Z'{S:Store}(hS:Flat S){m:Int}{ts:Lq}{left:Li}{st:D}(hl:left.length≤100)(hn:left.Nodup):∀(f:Nat) (r w:Li) (x5 x6:Option D),r.Nodup→(∀p∈r,p∈left)→w.Nodup→(∀p∈w,p∈r)→w.length+left.length<f+r.length→
  ∃y5 y6,a4z' (denT a0n' G0 (.var 4)) (denSs a0n' G0 a8w') f [some (webD m ts),some (.lst (left.map D.int)),some st,some (.ref S.length),some (.ref (S.length+1)),x5,x6] (S++[r.map D.int,w.map D.int])=
   .ok (.next [some (webD m ts),some (.lst (left.map D.int)),some st,some (.ref S.length),some (.ref (S.length+1)),y5,y6]) (S++[(Pc.bfs (tied ts) left f r w).map D.int,[]])
 |0,r,w,x5,x6,n1,s1,_,_,hf=>by have:r.length≤left.length:=n1.length_le_of_subset s1;omega
 |f+1,r,w,x5,x6,n1,s1,n2,s2,hf=>by
  have hrl:r.length≤left.length:=n1.length_le_of_subset s1;have hwl:w.length≤r.length:=n2.length_le_of_subset s2
  have hc:denT a0n' G0 (.var 4) [some (webD m ts),some (.lst (left.map D.int)),some st,some (.ref S.length),some (.ref (S.length+1)),x5,x6] (S++[r.map D.int,w.map D.int])=.ok (!w.isEmpty) (S++[r.map D.int,w.map D.int]):=by
   have e:truD (S++[r.map D.int,w.map D.int]) (.ref (S.length+1))=some (!w.isEmpty):=by show((S++[r.map D.int,w.map D.int])[S.length+1]?).map (λxs=> !xs.isEmpty)=_;rw[box1];cases w<;>rfl
   simp only[denT,ZH,ZM,e]
  unfold a4z';rw[hc];cases e:w.getLast? with
  |none=>have hw:w=[]:=List.getLast?_eq_none_iff.mp e;subst hw;refine⟨x5,x6,?_⟩;unfold Pc.bfs;rfl
  |some h=>
   have hw:w≠[]:=λz=>by rw[z]at e;cases e
   have he:(!w.isEmpty)=true:=by cases w with
    |nil=>exact absurd rfl hw
    |cons a b=>rfl
   have hi:=po_iter (m:=m) (ts:=ts) (x5:=x5) (x6:=x6) (st:=st) (left:=left) (r:=r) (w:=w) hS hl (by omega) (by omega) e;have mf:∀p,p∈(left.filter λp=> !r.contains p&&tied ts h p)↔p∈left∧p∉r∧tied ts h p=true:=λp=>by simp
   have nf:(left.filter λp=> !r.contains p&&tied ts h p).Nodup:=hn.sublist Z1;have hwl2:0<w.length:=List.length_pos_iff.mpr hw
   obtain⟨y5,y6,e2⟩:=a9Z' (m:=m) (ts:=ts) (st:=st) hS hl hn f (r++left.filter λp=> !r.contains p&&tied ts h p) (w.dropLast++left.filter λp=> !r.contains p&&tied ts h p) (some (.int h)) (some (.lst ((left.filter λp=> !r.contains p&&tied ts h p).map D.int)))
    (ZZ.mpr ⟨n1,nf,λa ha b hb z=>by subst z;exact((mf a).mp hb).2.1 ha⟩)
    (λp hp=>by
     rcases ZF.mp hp with z|z
     ·exact s1 p z
     ·exact((mf p).mp z).1)
    (ZZ.mpr ⟨n2.sublist (List.dropLast_sublist _),nf,λa ha b hb z=>by subst z;exact((mf a).mp hb).2.1 (s2 a ((List.dropLast_sublist _).subset ha))⟩)
    (λp hp=>by
     rcases ZF.mp hp with z|z
     ·exact ZJ _ (s2 p ((List.dropLast_sublist _).subset z))
     ·exact Zq _ z)
    (by simp only[Zt,List.length_dropLast];omega)
   refine⟨y5,y6,?_⟩;rw[he]
   show(Res.bind (denSs a0n' G0 a8w' [some (webD m ts),some (.lst (left.map D.int)),some st,some (.ref S.length),some (.ref (S.length+1)),x5,x6] (S++[r.map D.int,w.map D.int])) λf' S'=>match f' with
    | .next ρ'=>a4z' (denT a0n' G0 (.var 4)) (denSs a0n' G0 a8w') f ρ' S'
    | .cont ρ'=>a4z' (denT a0n' G0 (.var 4)) (denSs a0n' G0 a8w') f ρ' S'
    | .brk ρ'=>.ok (.next ρ') S'
    | .ret d=>.ok (.ret d) S')=_
   rw[hi]
   have eb:Pc.bfs (tied ts) left (f+1) r w=Pc.bfs (tied ts) left f (r++left.filter λp=> !r.contains p&&tied ts h p) (w.dropLast++left.filter λp=> !r.contains p&&tied ts h p):=by
    show(match w.getLast? with
     |none=>r
     |some h=>Pc.bfs (tied ts) left f (r++left.filter λp=> !r.contains p&&tied ts h p) (w.dropLast++left.filter λp=> !r.contains p&&tied ts h p))=_
    rw[e]
   rw[eb];exact e2
theorem a8x'(hS:Flat S){p:Int}(hl:left.length≤60)(hn:left.Nodup)(hp:p∈left)(hb:(Pc.bfs (tied ts) left 100 [p] [p]).length<64):a2f' [webD m ts,.lst (left.map D.int),.int p] S=.ok (.tup ((sortN (Pc.bfs (tied ts) left 100 [p] [p])).map D.int)) S:=by
 obtain⟨y5,y6,e⟩:=a9Z' (m:=m) (ts:=ts) (st:=.int p) hS (show left.length≤100 by omega) hn 100 [p] [p] none none (by simp) (λq hq=>(show q=p by simpa using hq)▸hp) (by simp) (λq hq=>hq) (by simp;omega)
 have hd:denSs a0n' G0 a2e' [some (webD m ts),some (.lst (left.map D.int)),some (.int p),none,none,none,none] S=.ok (.ret (.tup ((sortN (Pc.bfs (tied ts) left 100 [p] [p])).map D.int))) (S++[(Pc.bfs (tied ts) left 100 [p] [p]).map D.int,[]]):=by
  unfold a2e';rw[a1o' (d:=.ref S.length) (S':=S++[[.int p]]) (by simp[den,denL,Res.bind])];rw[a1o' (d:=.ref (S.length+1)) (S':=S++[[.int p],[.int p]]) (by simp[den,denL,Res.bind])];simp only[Zy,Zx];refine(a0o' (ρ':=[some (webD m ts),some (.lst (left.map D.int)),some (.int p),some (.ref S.length),some (.ref (S.length+1)),y5,y6]) (S':=S++[(Pc.bfs (tied ts) left 100 [p] [p]).map D.int,[]]) ?_).trans ?_
  ·rw[denS];exact e
  ·refine a4C' (a8u' (a0P' (a0P' (den_v rfl) (a4t' (l:=Pc.bfs (tied ts) left 100 [p] [p]) ?_ hb)) rfl));exact box0
 show runD a0n' G0 a2e' a4e'.length 3 [webD m ts,.lst (left.map D.int),.int p] S=_;unfold runD;rw[if_pos (show [webD m ts,D.lst (left.map D.int),D.int p].length=3 from rfl)];rw[show denSs a0n' G0 a2e' ([webD m ts,D.lst (left.map D.int),D.int p].map some++List.replicate (a4e'.length-3) none) S=_ from hd];have ht:(S++[(Pc.bfs (tied ts) left 100 [p] [p]).map D.int,[]]).take S.length=S:=by simp
 have:=K05.a3O' (k:=S.length) (d:=.tup ((sortN (Pc.bfs (tied ts) left 100 [p] [p])).map D.int)) (S':=S++[(Pc.bfs (tied ts) left 100 [p] [p]).map D.int,[]]) (by rw[ht];exact hS) (K05.a2T' _);rw[ht]at this;exact this
open Pc
theorem a7i'{f:α→D}{g:α→Bool}{step:D→List D→Store→Res (List D)}{cs:List α}(hk:S[k]?=some (cs.map f))(hl:cs.length≤1000)(hs:∀c∈cs,∀acc,acc.length<big→step (f c) acc S=.ok (acc++[.bl (g c)]) S):
  compB step (a1t' k) ((cs.map f).length+1) 0 [] S=.ok (cs.map λc=>D.bl (g c)) S:=by
 rcases K05.a7R' hk (step:=step) (λx hx acc ha=>by
   obtain⟨c,hc,rfl⟩:=Zs.mp hx;have:=hs c hc acc ha;cases e:g c<;>rw[e]at this
   ·exact .inr this
   ·exact .inl this) ((cs.map f).length+1) 0 [] (by omega) (by omega)with z|z
 ·rw[List.drop_zero]at z;refine Eq.trans z ?_;refine Eq.trans (a0A' (xs:=cs) (f:=f) (p:=λ_=>true) (e:=λc=>D.bl (g c)) (λx hx acc ha=>Eq.trans (hs x hx acc ha) rfl) (by unfold big;omega)) ?_;rw[List.filter_eq_self.mpr (λ_ _=>rfl)]
 ·unfold big at z;simp at z;omega
theorem any_den{cs:List α}{g:α→Bool}:anyD [.lst (cs.map λo=>D.bl (g o))] S=.ok (.bl (cs.any g)) S:=by unfold anyD;simp only[seqOf];rw[List.map_map];rw[show anyO (cs.map (asB∘λo=>D.bl (g o)))=some (cs.any g)from K05.a7a'];rfl
noncomputable def leftI(so:Li)(m:Nat):Li:=(a0e' 0 m).filter λp=> !so.contains p
noncomputable def own(so:Li)(ts:Lq)(m:Nat)(c:Int):Bool:=decide (nm (fin so ts m) c=c)
noncomputable def chD(so:Li)(ts:Lq)(m:Nat)(c:Int):D:=.tup ((chain so ts m c).map D.int)
noncomputable def pcs(so:Li)(ts:Lq)(m:Nat)(l:Li):List D:=(l.filter (own so ts m)).map (chD so ts m)
theorem a7U'(so:Li)(ts:Lq)(m:Nat)(l:Li):lowL 0 (pcs so ts m l)=true:=by
 unfold pcs
 induction l.filter (own so ts m)with
 |nil=>rfl
 |cons c cs ih=>show(lowD 0 (chD so ts m c)&&lowL 0 (cs.map (chD so ts m)))=true;rw[ih,Bool.and_true];exact K05.a2T' _
theorem a2E'(W:Web m ts):a1x' m.toNat ts:=λt ht=>by have:=W.tie t ht;have:=W.lo;omega
theorem a2m'{m:Nat}{p:Int}:p∈leftI so m↔(0≤p∧p<m)∧p∉so:=by unfold leftI;rw[ZQ,a0p'];simp
theorem b1Q'(W:Web m ts)(a b:Int)(ha:a∈leftI so m.toNat):Adj ts so a b↔b∈leftI so m.toNat∧tied ts a b=true:=by
 have hm:=W.lo;unfold Adj tied;rw[a2m']at ha⊢;simp only[decide_eq_true_eq];refine⟨λ⟨h,_,hb⟩=>?_,λ⟨⟨hb,hs⟩,h⟩=>⟨?_,ha.2,hs⟩⟩
 ·rcases h with h|h
  ·have t:=W.tie _ h;dsimp only at t;refine⟨⟨by omega,hb⟩,?_⟩;rw[show min a b=a by omega,show max a b=b by omega];exact h
  ·have t:=W.tie _ h;dsimp only at t;refine⟨⟨by omega,hb⟩,?_⟩;rw[show min a b=b by omega,show max a b=a by omega];exact h
 ·have t:=W.tie _ h;dsimp only at t;by_cases hlt:a<b
  ·left;rw[show min a b=a by omega,show max a b=b by omega]at h;exact h
  ·right;rw[show min a b=b by omega,show max a b=a by omega]at h;exact h
theorem a8y'(W:Web m ts){p:Int}(hp:p∈leftI so m.toNat)(ho:own so ts m.toNat p=true)(hS:Flat S):a2f' [webD m ts,.lst ((leftI so m.toNat).map D.int),.int p] S=.ok (chD so ts m.toNat p) S:=by
 have hn:(leftI so m.toNat).Nodup:=K05.a1O'.sublist Z1;have hll:(leftI so m.toNat).length≤8:=by have:=ZG (λp=> !so.contains p) (a0e' 0 m.toNat);rw[K05.a0d']at this;have:=W.hi;unfold leftI;omega
 obtain⟨b1,b2⟩:=bfs_all hn (R:=Adj ts so) (tie:=tied ts) (λa b ha=>b1Q' W a b ha) hp (f:=100) (by omega);have hp':=a2m'.mp hp
 have hsub:(bfs (tied ts) (leftI so m.toNat) 100 [p] [p]).length≤(a0e' 0 m.toNat).length:=b1.length_le_of_subset λq hq=>by rw[a0p'];have:=a0K' (a2E' W) hp'.1.1 hp'.1.2 ((b2 q).mp hq);omega
 rw[K05.a0d']at hsub;have hm:=W.hi;rw[a8x' hS (by omega) hn hp (by omega)];have e:=b3f' (a2E' W) hp'.1.1 hp'.1.2 hp'.2 (by simpa[own]using ho) (a4s' b1) (λq=>by rw[(a4r' _).mem_iff];exact b2 q);rw[e];rfl
theorem boxE{A:List D}:(S++[A])[S.length]?=some A:=by rw[Zp (Zi _)];simp
theorem setE{A B:List D}:(S++[A]).set S.length B=S++[B]:=by rw[List.set_append_right _ _ (Zi _)];simp
theorem b1R'{A:List D}(hl:ds.length=np)(h:denSs Φ Γ body (ds.map some++List.replicate (n-np) none) S=.ok (.ret (.ref S.length)) (S++[A]))(hS:Flat S)(hA:lowL 0 A=true):runD Φ Γ body n np ds S=.ok (.ref S.length) (S++[A]):=by unfold runD;rw[if_pos hl,h];show trim S.length (.ref S.length) _=_;unfold trim;rw[List.take_left' rfl,if_pos hS.all,if_neg (by unfold lowD;simp)];simp only[boxE];rw[if_pos ⟨K05.a2u' A hA,Zi _⟩]
noncomputable def pwAny:CE:=.comp false ["piece","place"] [none,some 4] (.var 0) (.seq (.var 3)) [] (.emit (.cmp .In (.var 1) (.var 0)))
noncomputable def b3g':List CS:=[.ite (.bnot (.blt .any [pwAny])) [.expr (.meth .append (.var 3) [.call "piece_of" [.var 0,.var 2,.var 4]])] []]
theorem pw_any{m:Int}{l:Li}{d0 d1 d2:D}{p:Int}(hl:l.length≤100):den a0h' G0 pwAny [some d0,some d1,some d2,some (.ref S.length),some (.int p)] (S++[pcs so ts k l])=
  .ok (.lst ((l.filter (own so ts k)).map λc=>D.bl (decide (p∈chain so ts k c)))) (S++[pcs so ts k l]):=by
 refine a1l' (its:=.live ((pcs so ts k l).length+1) (a1t' S.length)) (S1:=S++[pcs so ts k l]) ?_ ?_
 ·simp only[denI,den,Res.bind,ZH,ZM,a1y',boxE];rfl
 ·have hL:=ZG (own so ts k) l;simp only[compI];unfold pcs;refine a7i' (S:=S++[(l.filter (own so ts k)).map (chD so ts k)]) (k:=S.length) (cs:=l.filter (own so ts k)) (f:=chD so ts k) (g:=λc=>decide (p∈chain so ts k c)) boxE (by omega) λc hc acc ha=>?_;generalize S++[(l.filter (own so ts k)).map (chD so ts k)]=T;have ha':acc.length<16777216:=ha;have hin:inD (.int p) (chD so ts k c) T=some (decide (p∈chain so ts k c)):=a6C' rfl p;simp[a0q',isNew,slots,a1h',asgCT,asgVs,denTs,denB,den,Res.bind,Res.noErr,cmpD,hin,boolR,ha']
theorem b1S'{S:Store}(hS:Flat S){m:Int}{ts:Lq}(W:Web m ts){so:Li}{d1:D}:∀(rest done:Li),leftI so m.toNat=done++rest→∀x4:Option D,∃y4,
  forD (λx ρ S=>match asgCT (.var 4) x ρ with
   |some ρ'=>denSs a0h' G0 b3g' ρ' S
   |none=>.fail) (rest.map D.int) [some (webD m ts),some d1,some (.lst ((leftI so m.toNat).map D.int)),some (.ref S.length),x4] (S++[pcs so ts m.toNat done])=
  .ok (.next [some (webD m ts),some d1,some (.lst ((leftI so m.toNat).map D.int)),some (.ref S.length),y4]) (S++[pcs so ts m.toNat (done++rest)])
 | [],done,_,x4=>⟨x4,by rw[List.append_nil];rfl⟩
 |p::rest,done,hl,x4=>by
  have hris:(leftI so m.toNat).Pairwise (· < ·):=a1r'.sublist Z1;have hpl:p∈leftI so m.toNat:=by rw[hl];simp
  obtain⟨⟨p0,p1⟩,ps⟩:=a2m'.mp hpl;have hT:=a2E' W
  have hlen:(leftI so m.toNat).length≤8:=by have:=ZG (λp=> !so.contains p) (a0e' 0 m.toNat);rw[K05.a0d']at this;have:=W.hi;unfold leftI;omega
  have hdl:done.length≤100:=by have:=congrArg List.length hl;simp at this;omega
  have hany:((done.filter (own so ts m.toNat)).any λc=>decide (p∈chain so ts m.toNat c))= !own so ts m.toNat p:=by
   rw[Bool.eq_iff_iff];rw[List.any_eq_true];have key:=a9X' (so:=so) hT p0 p1 ps;have e1:(!own so ts m.toNat p)=true↔nm (fin so ts m.toNat) p≠p:=by simp[own]
   rw[e1,←key];refine⟨λ⟨c,hc,hq⟩=>?_,λ⟨c,⟨c0,c1⟩,hq⟩=>?_⟩
   ·obtain⟨hc1,hc2⟩:=ZQ.mp hc;have hcl:c∈leftI so m.toNat:=by rw[hl];exact ZJ _ hc1
    refine⟨c,⟨(a2m'.mp hcl).1.1,?_⟩,by simpa using hq⟩;rw[hl]at hris;exact(List.pairwise_append.mp hris).2.2 c hc1 p Zd
   ·have hne:chain so ts m.toNat c≠[]:=λz=>by rw[z]at hq;cases hq
    obtain⟨cs,cn⟩:=(b3e' hT c0 (by omega)).mp hne;have hcl:c∈leftI so m.toNat:=a2m'.mpr ⟨⟨c0,by omega⟩,cs⟩;rw[hl]at hcl hris
    have hcd:c∈done:=by
     rcases ZF.mp hcl with z|z
     ·exact z
     ·rcases Zm.mp z with z|z
      ·omega
      ·have:=(ZE.mp (List.pairwise_append.mp hris).2.1).1 c z;omega
    exact⟨c,ZQ.mpr ⟨hcd,by simp[own,cn]⟩,by simpa using hq⟩
  have hF:Flat (S++[pcs so ts m.toNat done]):=hS.snoc (a7U' _ _ _ _);have hA:=pw_any (S:=S) (m:=m) (ts:=ts) (so:=so) (l:=done) (k:=m.toNat) (d0:=webD m ts) (d1:=d1) (d2:=.lst ((leftI so m.toNat).map D.int)) (p:=p) hdl
  have hc:denT a0h' G0 (.bnot (.blt .any [pwAny])) [some (webD m ts),some d1,some (.lst ((leftI so m.toNat).map D.int)),some (.ref S.length),some (.int p)] (S++[pcs so ts m.toNat done])=.ok (own so ts m.toNat p) (S++[pcs so ts m.toNat done]):=by
   have hall:bltD .any [.lst ((done.filter (own so ts m.toNat)).map λc=>D.bl (decide (p∈chain so ts m.toNat c)))] (S++[pcs so ts m.toNat done])=.ok (.bl (!own so ts m.toNat p)) (S++[pcs so ts m.toNat done]):=by rw[←hany];exact any_den
   revert hA;generalize pwAny=E;intro hA;simp[denT,denL,hA,Res.bind,Res.noErr,hall,truD]
  have hbody:denSs a0h' G0 b3g' [some (webD m ts),some d1,some (.lst ((leftI so m.toNat).map D.int)),some (.ref S.length),some (.int p)] (S++[pcs so ts m.toNat done])=.ok (.next [some (webD m ts),some d1,some (.lst ((leftI so m.toNat).map D.int)),some (.ref S.length),some (.int p)]) (S++[pcs so ts m.toNat (done++[p])]):=by
   unfold b3g';refine(a0o' ?_).trans rfl;rw[a9Q' hc];cases ho:own so ts m.toNat p with
   |true=>
    rw[if_pos rfl];have hpc:=a8y' W hpl ho hF
    have hap:a5S' (.ref S.length) [chD so ts m.toNat p] (S++[pcs so ts m.toNat done])=.ok .non (S++[pcs so ts m.toNat (done++[p])]):=by have hL:=ZG (own so ts m.toNat) done;unfold a5S';simp only[boxE];rw[if_pos (by unfold big pcs;simp;omega),setE];unfold pcs;simp[List.filter_append,ho]
    simp[denSs,denS,den,denL,Res.bind,Res.noErr,methD,a1v',hpc,hap]
   |false=>
    rw[if_neg ZS];have e:pcs so ts m.toNat (done++[p])=pcs so ts m.toNat done:=by unfold pcs;simp[List.filter_append,ho]
    rw[e,denSs]
  obtain⟨y4,e2⟩:=b1S' hS W (d1:=d1) rest (done++[p]) (by rw[hl];simp) (some (.int p));refine⟨y4,?_⟩;simp only[ZK];unfold forD;simp only[asgCT,asgVs,Zy,Zx];rw[hbody];rw[List.append_assoc]at e2;exact e2
theorem a1R'(hS:Flat S)(W:Web m ts)(hl:so.length≤100)(h1:∀p∈so,0≤p∧p<m)(h2:so.Pairwise (· < ·)):
  a0f' [webD m ts,.tup (so.map D.int)] S=.ok (.ref S.length) (S++[pcs so ts m.toNat (leftI so m.toNat)]):=by
 refine b1R' rfl ?_ hS (a7U' _ _ _ _);have a1:a0j' [webD m ts] S=.ok .non S:=K05.a0O' hS W;have a2:=a3J' (ts:=ts) hS hl h1 h2;have w1:=W.lo;have w2:=W.hi;unfold a2h';refine(a0o' (ρ':=[some (webD m ts),some (.tup (so.map D.int)),none,none,none]) (S':=S) (by simp[a2g',denS,den,denL,Res.bind,a1g',a1])).trans ?_;refine(a0o' (ρ':=[some (webD m ts),some (.tup (so.map D.int)),none,none,none]) (S':=S) (by simp[denS,den,denL,Res.bind,a0Z',a2])).trans ?_;have hi:idxD (webD m ts) (.int 0) S=.ok (.int m) S:=rfl
 have hr:denI a0h' G0 (.range [.idx (.var 0) (.lit (.int 0))]) [some (webD m ts),some (.tup (so.map D.int)),none,none,none] S=.ok (.items ((a0e' 0 m.toNat).map D.int)) S:=by simp[denI,denL,den,Res.bind,Res.noErr,hi,K05.a1k'];omega
 have hcomp:den a0h' G0 (.comp false ["place","some"] [none,some 1] (.var 0) (.range [.idx (.var 0) (.lit (.int 0))]) [.cmp .NotIn (.var 0) (.var 1)] (.emit (.var 0))) [some (webD m ts),some (.tup (so.map D.int)),none,none,none] S=.ok (.lst ((leftI so m.toNat).map D.int)) S:=by refine a1l' hr ?_;refine a0A' (f:=D.int) (e:=D.int) (p:=λp=> !so.contains p) (λp hp acc ha=>?_) (by rw[K05.a0d'];unfold big;omega);have ha':acc.length<16777216:=ha;have hin:inD (.int p) (.tup (so.map D.int)) S=some (decide (p∈so)):=a6C' rfl p;by_cases e:p∈so<;>simp[a0q',isNew,slots,a1h',asgCT,asgVs,denTs,denT,denB,den,Res.bind,Res.noErr,onBl,cmpD,hin,boolR,e,ha']
 rw[a1o' hcomp];rw[a1o' (d:=.ref S.length) (S':=S++[[]]) (by simp[den,denL,Res.bind])];simp only[Zy,Zx];obtain⟨y4,e⟩:=b1S' hS W (so:=so) (d1:=.tup (so.map D.int)) (leftI so m.toNat) [] rfl none;refine(a0o' (ρ':=[some (webD m ts),some (.tup (so.map D.int)),some (.lst ((leftI so m.toNat).map D.int)),some (.ref S.length),y4]) (S':=S++[pcs so ts m.toNat (leftI so m.toNat)]) ?_).trans rfl;rw[a6w' (its:=.items ((leftI so m.toNat).map D.int)) (S1:=S++[[]]) (by simp[denI,den,Res.bind,a1y'])];exact e
theorem b1i'(hS:Flat S)(W:Web m ts):a1K' [webD m ts] S=.ok (.ref S.length) (S++[pcs [] ts m.toNat (leftI [] m.toNat)]):=by refine b1R' rfl ?_ hS (a7U' _ _ _ _);have h:=a1R' hS W (so:=[]) (by simp) (λp hp=>by cases hp) .nil;simp at h;simp[a9I',a9H',denSs,denS,den,denL,Res.bind,a1J',h]
def tupI(l:Li):D:=.tup (l.map D.int)
theorem a4u'{n:Nat}{step:D→List D→Store→Res (List D)}:∀(xs:Li) (acc:List D) (S:Store),Flat S→PenAt S n→acc.length+xs.length≤1000→
  (∀x∈xs,∀acc S,Flat S→PenAt S n→acc.length≤1000→∃k S',Drawn n S S'∧step (.int x) acc S=.ok (if k=true then acc++[.int x]else acc) S')→
  ∃(us:Li) (S':Store),us.Sublist xs∧Drawn n S S'∧compD step (xs.map D.int) acc S=.ok (acc++us.map D.int) S'
 | [],acc,S,hS,hp,_,_=>⟨[],S,.slnil,.refl hp,by simp[compD]⟩
 |t::ts,acc,S,hS,hp,hl,h=>by
  simp only[Zz]at hl;obtain⟨k,S1,d1,e1⟩:=h t Zd acc S hS hp (by omega);simp only[ZK];unfold compD;rw[e1];cases k with
  |true=>obtain⟨us,S2,s2,d2,e2⟩:=a4u' ts (acc++[.int t]) S1 (d1.flat hS) (d1.pen hp) (by simp;omega) λu hu=>h u (Zb _ hu);exact⟨t::us,S2,s2.cons_cons t,d1.trans d2,by show compD step (ts.map D.int) (acc++[.int t]) S1=_;rw[e2];simp⟩
  |false=>obtain⟨us,S2,s2,d2,e2⟩:=a4u' ts acc S1 (d1.flat hS) (d1.pen hp) (by omega) λu hu=>h u (Zb _ hu);exact⟨us,S2,s2.cons t,d1.trans d2,by show compD step (ts.map D.int) acc S1=_;rw[e2]⟩
structure Some_ (m:Int)(so:Li):Prop where
 len:so.length≤8
 inn:∀p∈so,0≤p∧p<m
 ris:so.Pairwise (· < ·)
theorem some_eq(hS:Flat S)(hp:PenAt S n)(m0:1≤m)(m1:m≤8):∃so S',Some_ m so∧Drawn n S S'∧a1D' [.ref n,.int m] S=.ok (.tup (so.map D.int)) S':=by
 obtain⟨r,S1,r0,r1,d1,e1⟩:=K05.a3i' hS hp (m:=3) (by decide) (by decide);have hS1:=d1.flat hS;have hp1:=d1.pen hp
 obtain⟨us,S2,s2,d2,e2⟩:=a4u' (n:=n) (step:=λx acc S2=>match a0q' (.var 0) x [none,some (.ref n),some (.int (1+r))]with
    |some ρ'=>(denTs a3g' G0 [.cmp .Lt (.call "_law_draw" [.var 1,.lit (.int 4)]) (.var 2)] ρ' S2).bind λk S3=>if k=true then denB a3g' G0 (.emit (.var 0)) ρ' acc S3 else .ok acc S3
    |none=>.fail) (a0e' 0 m.toNat) [] S1 hS1 hp1 (by rw[K05.a0d'];simp;omega) (λt ht acc S hS hp ha=>by
     obtain⟨q,S',q0,q1,d,e⟩:=K05.a3i' hS hp (m:=4) (by decide) (by decide);refine⟨decide (q<1+r),S',d,?_⟩;have e':a0w' [.ref n,.int 4] S=.ok (.int q) S':=e;have x2:cmpD .Lt (.int q) (.int (1+r)) S'=.ok (.bl (decide (q<1+r))) S':=rfl;have ha':acc.length<16777216:=by omega
     by_cases y:q<1+r<;>simp[a0q',isNew,slots,a1h',asgCT,asgVs,denTs,denT,denB,den,denL,Res.bind,Res.noErr,onBl,a1i',e',x2,y,ha'])
 have hlen:=s2.length_le;rw[K05.a0d']at hlen;refine⟨us,S2,⟨by omega,λp hp=>by have:=a0p'.mp (s2.subset hp);omega,a1r'.sublist s2⟩,d1.trans d2,a0D' rfl ?_ (d1.trans d2).len (d2.flat hS1) (K05.a2T' _)⟩;unfold a6m';have e1':a0w' [.ref n,.int 3] S=.ok (.int r) S1:=e1;refine(a1o' (d:=.int (1+r)) (S':=S1) (by simp[a4h',den,denL,Res.bind,Res.noErr,a1i',e1',opD,addD])).trans ?_;refine a4C' (a8u' (a0P' (d:=.lst (us.map D.int)) (S1:=S2) ?_ rfl));refine a1l' (its:=.items ((a0e' 0 m.toNat).map D.int)) (S1:=S1) ?_ e2;simp[a4h',denI,denL,den,Res.bind,K05.a1k'];omega
theorem a3u'{step:D→Rho→Store→Res Fl}(J:Rho→Store→Prop):∀(xs:List D),(∀x∈xs,∀ρ S,J ρ S→∃ρ' S',J ρ' S'∧step x ρ S=.ok (.next ρ') S')→∀ρ S,J ρ S→∃ρ' S',J ρ' S'∧forD step xs ρ S=.ok (.next ρ') S'
 | [],_,ρ,S,j=>⟨ρ,S,j,rfl⟩
 |x::xs,h,ρ,S,j=>by obtain⟨ρ1,S1,j1,e1⟩:=h x Zd ρ S j;obtain⟨ρ2,S2,j2,e2⟩:=a3u' J xs (λy hy=>h y (Zb _ hy)) ρ1 S1 j1;refine⟨ρ2,S2,j2,?_⟩;unfold forD;rw[e1];exact e2
theorem pcs_tup(so:Li)(ts:Lq)(m:Nat)(l:Li):pcs so ts m l=((l.filter (own so ts m)).map (chain so ts m)).map tupI:=by unfold pcs;rw[List.map_map];rfl
end K05
namespace Py
abbrev Ti:=Int×Int
end Py
variable {G:List (List Py.Ti)}
namespace K05
theorem a6D'{x:Int}(h1:lo≤x)(h2:x<lo+n):x∈a0e' lo n:=by
 induction n generalizing lo with
 |zero=>omega
 |succ n ih=>
  unfold a0e';by_cases h:x=lo
  ·simp[h]
  ·exact Zb _ (ih (by omega) (by omega))
end K05
namespace Py
end Py
namespace K05
section
variable {T A:List (List D)}{a u b:Int}{ts c:List Ti}
end
section
variable {u a r:Int}{ts:List Ti}
end
section
variable {u:Int}{ts:List Ti}
end
theorem cell_eq(hS:Flat S)(ns:Li):∃c:Int,a1E' [.scr (ns.map D.int),.int 0] S=.ok (.int c) S:=by
 cases ns with
 |nil=>exact⟨0,a0D' rfl rfl rfl hS rfl⟩
 |cons n ns=>
  refine⟨n,a0D' rfl ?_ rfl hS rfl⟩;have h1:lenD [.scr ((n::ns).map D.int)] S=.ok (.int ((n::ns).map D.int).length) S:=rfl
  have h2:cmpD .Lt (.int 0) (.int ((n::ns).map D.int).length) S=.ok (.bl true) S:=by have:cmpD .Lt (.int 0) (.int ((n::ns).map D.int).length) S=.ok (.bl (decide ((0:Int)<((n::ns).map D.int).length))) S:=rfl;rw[this,ZI (by simp)]
  have h3:idxD (.scr ((n::ns).map D.int)) (.int 0) S=.ok (.int n) S:=by
   unfold idxD
   have:atI ((n::ns).map D.int) 0=some (.int n):=by
    unfold atI ixN;simp
    try omega
   simp only[seqOf,this]
  generalize(n::ns).map D.int=xs at h1 h2 h3;simp[a6o',a6n',denSs,denS,denT,den,denL,Res.bind,Res.noErr,onBl,bltD,h1,h2,h3]
theorem pen_eq(hS:Flat S)(c:Int):∃b:Int,a2s' [.int c] S=.ok (.ref S.length) (S++[[.int c,.int b]]):=by
 refine⟨if decide ((10:Int)^18≤c)=true then 1 else 0,?_⟩;have e:denSs a5x' G0 a3N' ([D.int c].map some++List.replicate (a3M'.length-1) none) S=.ok (.ret (.ref S.length)) (S++[[.int c,.int (if decide ((10:Int)^18≤c)=true then 1 else 0)]]):=by have h1:powD (.int 10) (.int 18) S=.ok (.int ((10:Int)^18)) S:=rfl;have h2:cmpD .GtE (.int c) (.int ((10:Int)^18)) S=.ok (.bl (decide ((10:Int)^18≤c))) S:=rfl;have h3:∀k,intD [.bl k] S=.ok (.int (if k=true then 1 else 0)) S:=λk=>rfl;generalize(10:Int)^18=T at*;simp only[a3N',a3M',denSs,denS,den,denL,Res.bind,Res.noErr,bltD,opD,h1,h2,h3,ZK,List.map_nil,Zz,List.length_nil,List.cons_append,ZM,if_true]
 show runD a5x' G0 a3N' a3M'.length 1 [.int c] S=_;unfold runD;rw[if_pos (show [D.int c].length=1 from rfl),e];show trim S.length (.ref S.length) _=_;unfold trim;rw[List.take_left' rfl,if_pos hS.all,if_neg (by unfold lowD;simp)];simp[lowL,lowD]
section
variable {ts:List Ti}
end
section
variable {ts:List Ti}{x0 x1 x4:Option D}
end
section
variable {ts p:List Ti}
end
section
variable {ts p:List Ti}
end
section
variable {ts:List Ti}
end
section
variable {a b:Int}{ts us p q r:List Ti}{A B:List (List Ti)}{l:Nat}
def sh(a:Int)(t:Ti):Ti:=(t.1+a,t.2+a)
def besI(a:Int)(ts us:List Ti):List Ti:=ts++us.map (sh a)
theorem b1T'(W:Web a ts)(V:Web b us)(h:a+b≤8):Web (a+b) (besI a ts us):=by
 have w1:=W.lo;have v1:=V.lo
 have hlt:∀s∈ts,∀t∈us.map (sh a),lexlt s t:=λs hs t ht=>by obtain⟨u,hu,rfl⟩:=Zs.mp ht;have:=W.tie s hs;have:=V.tie u hu;exact .inl (by show s.1<u.1+a;omega)
 have hr:(besI a ts us).Pairwise lexlt:=by unfold besI;refine List.pairwise_append.mpr ⟨W.ris,?_,hlt⟩;rw[List.pairwise_map];refine V.ris.imp λ{s t} q=>?_;unfold sh lexlt;unfold lexlt at q;simp only;omega
 have ht:∀t∈besI a ts us,0≤t.1∧t.1<t.2∧t.2<a+b:=λt ht=>by
  rcases ZF.mp ht with h1|h1
  ·have:=W.tie t h1;omega
  ·obtain⟨u,hu,rfl⟩:=Zs.mp h1;have:=V.tie u hu;show 0≤u.1+a∧u.1+a<u.2+a∧u.2+a<a+b;omega
 refine⟨by omega,by omega,hr,ht,?_⟩;have hn:(besI a ts us).Nodup:=hr.imp λ{s t} q e=>by subst e;unfold lexlt at q;omega
 have hsub:∀t∈besI a ts us,t∈K05.a2D' 8:=λt h1=>by have:=ht t h1;unfold K05.a2D';refine List.mem_flatMap.mpr ⟨t.1,K05.a6D' (by omega) (by omega),Zs.mpr ⟨t.2,K05.a6D' (by omega) (by omega),rfl⟩⟩
 have:=hn.length_le_of_subset λt ht=>hsub t ht;have e8:(K05.a2D' 8).length=28:=by decide+kernel
 omega
end
open Pc
section
variable {m a b:Nat}{so':Li}{us:Lq}
noncomputable def heads(so:Li)(ts:Lq)(m:Nat):Li:=(leftI so m).filter (own so ts m)
noncomputable def pcL(so:Li)(ts:Lq)(m:Nat):List (Li):=(heads so ts m).map (chain so ts m)
theorem pcs_L:pcs so ts m (leftI so m)=(pcL so ts m).map tupI:=pcs_tup so ts m _
theorem a7V':c∈heads so ts m↔((0≤c∧c<m)∧c∉so)∧nm (fin so ts m) c=c:=by unfold heads own;rw[ZQ,a2m',decide_eq_true_iff]
theorem a5h':(heads so ts m).Nodup:=(a1O'.sublist Z1).sublist Z1
theorem b1U'(hT:a1x' m ts){p:Int}(h0:0≤p)(h1:p<m)(hs:p∉so):nm (fin so ts m) p∈heads so ts m∧p∈chain so ts m (nm (fin so ts m) p):=by have h:=(a1b' (so:=so) hT h0 h1).1;have hr:=a0K' hT h0 h1 h;exact⟨a7V'.mpr ⟨⟨hr,b3d' hs h⟩,a9W' hT h0 h1⟩,a0l'.mpr ⟨⟨h0,h1⟩,rfl,hs⟩⟩
theorem b0a':(pcL so ts m).flatten.Nodup:=by
 unfold pcL List.Nodup;rw[List.pairwise_flatten];refine⟨λl hl=>?_,?_⟩
 ·obtain⟨c,_,rfl⟩:=Zs.mp hl;exact(a0T').imp λh=>Int.ne_of_lt h
 ·rw[List.pairwise_map];refine a5h'.imp λ{c d} hcd=>?_;intro x hx y hy e;subst e;exact hcd ((a0l'.mp hx).2.1.symm.trans (a0l'.mp hy).2.1)
theorem b0b'(hT:a1x' m ts):sortN (pcL [] ts m).flatten=a0e' 0 m:=by
 refine a2l' (a4s' b0a') a1r' λp=>?_;rw[(a4r' _).mem_iff,a0p',List.mem_flatten];constructor
 ·rintro⟨l,hl,hp⟩;obtain⟨c,_,rfl⟩:=Zs.mp hl;have:=(a0l'.mp hp).1;omega
 ·rintro⟨h0,h1⟩;obtain⟨g1,g2⟩:=b1U' (so:=[]) hT h0 (by omega) (ZO);exact⟨_,Zs.mpr ⟨_,g1,rfl⟩,g2⟩
theorem a5H'(hT:a1x' m ts):(pcL [] ts m).flatten.length=m:=by rw[←(a4r' _).length_eq,b0b' hT,a0d']
theorem b0c'{m:Int}(W:Web m ts){p:Int}(hp:p∈chain [] ts m.toNat c)(hq:q∈nearI m ts p):q∈chain [] ts m.toNat c:=by obtain⟨⟨h0,h1⟩,h2,h3⟩:=a0l'.mp hp;obtain⟨g1,g2⟩:=ZQ.mp hq;rw[a0p']at g1;have hpl:p∈leftI [] m.toNat:=a2m'.mpr ⟨⟨h0,h1⟩,ZO⟩;have hA:Adj ts [] p q:=(b1Q' W p q hpl).mpr ⟨a2m'.mpr ⟨⟨g1.1,by omega⟩,ZO⟩,g2⟩;refine a0l'.mpr ⟨⟨g1.1,by omega⟩,?_,ZO⟩;rw[←(a8v' (so:=[]) (a2E' W) h0 h1 g1.1 (by omega)).mpr (.step (.refl _) hA),h2]
theorem a7j'{m:Int}{p:Int}(h:0≤q∧q<m):q∈nearI m ts p↔tied ts p q=true:=by
 unfold nearI;rw[ZQ,a0p'];constructor
 ·exact λh=>h.2
 ·exact λg=>⟨⟨h.1,by omega⟩,g⟩
theorem b1j'(p q:Int):tied ts p q=tied ts q p:=by unfold tied;rw[Int.min_comm,Int.max_comm]
theorem b3h'{m:Int}{p:Int}(hp:0≤p∧p<m)(hq:0≤q∧q<m):decide (q∈nearI m ts p)=decide (p∈nearI m ts q):=by rw[decide_eq_decide,a7j' hq,a7j' hp,b1j']
theorem b3i'{m:Int}(W:Web m ts){p:Int}(hp:0≤p∧p<m):p∉nearI m ts p:=by rw[a7j' hp];unfold tied;rw[decide_eq_true_iff];intro h;have:=W.tie _ h;simp at this
theorem b3j'(h:∀x∈so',x∈so){p:Int}(hc:Con (Adj ts so) p q):Con (Adj ts so') p q:=by
 induction hc with
 |refl=>exact .refl _
 |step _ r ih=>exact ih.step ⟨r.1,λz=>r.2.1 (h _ z),λz=>r.2.2 (h _ z)⟩
theorem a6E'{c:Int}{f:Int→Bool}:∀{l:Li},l.Nodup→c∈l→(∀d∈l,f d=true↔d=c)→l.filter f=[c]
 | [],_,h,_=>by cases h
 |x::l,hn,h,hf=>by
  obtain⟨n1,n2⟩:=List.nodup_cons.mp hn;by_cases e:x=c
  ·subst e;rw[List.filter_cons_of_pos ((hf x Zd).mpr rfl)];rw[List.filter_eq_nil_iff.mpr];intro d hd hfd;exact n1 ((hf d (Zb _ hd)).mp hfd▸hd)
  ·rw[List.filter_cons_of_neg (λz=>e ((hf x Zd).mp z))];rcases Zm.mp h with h|h
   ·exact absurd h.symm e
   ·exact a6E' n2 h λd hd=>hf d (Zb _ hd)
theorem b3k'(hT:a1x' m ts)(h:∀x∈so',x∈so)(hc:c∈heads so ts m):(heads so' ts m).filter (λd=>(chain so ts m c).all λp=>decide (p∈chain so' ts m d))=[nm (fin so' ts m) c]:=by
 obtain⟨⟨⟨h0,h1⟩,hs⟩,he⟩:=a7V'.mp hc;have hs':c∉so':=λz=>hs (h _ z);refine a6E' a5h' (b1U' hT h0 h1 hs').1 λd hd=>?_;rw[ZD];constructor
 ·intro g;have:=g c (a0l'.mpr ⟨⟨h0,h1⟩,he,hs⟩);rw[decide_eq_true_iff]at this;exact(a0l'.mp this).2.1.symm
 ·rintro rfl p hp;obtain⟨⟨p0,p1⟩,p2,p3⟩:=a0l'.mp hp;rw[decide_eq_true_iff];refine a0l'.mpr ⟨⟨p0,p1⟩,?_,λz=>p3 (h _ z)⟩;refine(a8v' hT p0 p1 h0 h1).mpr (b3j' h ?_);exact(a8v' hT p0 p1 h0 h1).mp (p2.trans he.symm)
end
end K05
namespace K05
open Pc
theorem fin_is{m:Nat}(hT:a1x' m ts){p:Int}(h0:0≤p)(h1:p<m)(hc:Con (Adj ts so) p c)(hl:∀q,Con (Adj ts so) p q→c≤q):nm (fin so ts m) p=c:=by obtain⟨g1,g2⟩:=a1b' (so:=so) hT h0 h1;exact Int.le_antisymm (g2 c hc) (hl _ g1)
section
variable {a b:Int}{us:Lq}
theorem adj_lo(W:Web a ts)(V:Web b us){p:Int}(h:p<a):Adj (besI a ts us) [] p q↔Adj ts [] p q:=by
 have key:∀x y:Int,(x<a∨y<a)→((x,y)∈besI a ts us↔(x,y)∈ts):=λx y hxy=>by
  unfold besI;rw[ZF];constructor
  ·rintro(h|h)
   ·exact h
   ·obtain⟨t,ht,e⟩:=Zs.mp h;have:=V.tie t ht;unfold K05.sh at e;injection e with e1 e2
    omega
  ·exact .inl
 unfold Adj;rw[key p q (.inl h),key q p (.inr h)]
theorem adj_hi(W:Web a ts)(V:Web b us){p:Int}(h:a≤p):Adj (besI a ts us) [] p q↔Adj us [] (p-a) (q-a):=by
 have key:∀x y:Int,(a≤x∨a≤y)→((x,y)∈besI a ts us↔(x-a,y-a)∈us):=λx y hxy=>by
  unfold besI;rw[ZF];constructor
  ·rintro(h|h)
   ·have:=W.tie _ h;dsimp only at this;omega
   ·obtain⟨t,ht,e⟩:=Zs.mp h;unfold K05.sh at e;injection e with e1 e2
    have:(x-a,y-a)=t:=by rw[←e1,←e2];simp
    rw[this];exact ht
  ·intro h;refine .inr (Zs.mpr ⟨_,h,?_⟩);unfold K05.sh;simp
 unfold Adj;rw[key p q (.inl h),key q p (.inr h)];simp
theorem con_lo(W:Web a ts)(V:Web b us){p:Int}(h0:0≤p)(h:p<a):Con (Adj (besI a ts us) []) p q↔Con (Adj ts []) p q:=by
 have h1:∀{q},Con (Adj ts []) p q→q<a:=λhc=>by have hn:=W.lo;have:=a0K' (a2E' W) h0 (by omega) hc;omega
 constructor
 ·intro hc
  induction hc with
  |refl=>exact .refl _
  |step _ r ih=>exact ih.step ((adj_lo W V (h1 ih)).mp r)
 ·intro hc
  induction hc with
  |refl=>exact .refl _
  |step c r ih=>exact ih.step ((adj_lo W V (h1 c)).mpr r)
theorem con_hi(W:Web a ts)(V:Web b us){p:Int}(h:a≤p)(h2:p<a+b):Con (Adj (besI a ts us) []) p q↔a≤q∧Con (Adj us []) (p-a) (q-a):=by
 have h1:∀{q},Con (Adj us []) (p-a) q→0≤q:=λhc=>by have hn:=V.lo;have:=a0K' (a2E' V) (by omega) (by omega) hc;omega
 constructor
 ·intro hc
  induction hc with
  |refl=>exact⟨h,.refl _⟩
  |step _ r ih=>have hc:=ih.2.step ((adj_hi W V ih.1).mp r);have:=h1 hc;exact⟨by omega,hc⟩
 ·rintro⟨g,hc⟩
  have key:∀{x},Con (Adj us []) (p-a) x→Con (Adj (besI a ts us) []) p (x+a):=λ{x} hc=>by
   induction hc with
   |refl=>
    have:p-a+a=p:=by omega
    rw[this];exact .refl _
   | @step y z c r ih=>
    have:=h1 c;refine ih.step ((adj_hi W V (by omega)).mpr ?_);have e1:y+a-a=y:=by omega
    have e2:z+a-a=z:=by omega
    rw[e1,e2];exact r
  have:=key hc;have e:q-a+a=q:=by omega
  rw[e]at this;exact this
theorem b0d'(W:Web a ts)(V:Web b us)(h:a+b≤8):a1x' (a+b).toNat (besI a ts us):=a2E' (b1T' W V h)
theorem b1k'(W:Web a ts)(V:Web b us)(h:a+b≤8){p:Int}(h0:0≤p)(h1:p<a):nm (fin [] (besI a ts us) (a+b).toNat) p=nm (fin [] ts a.toNat) p:=by have hb:=V.lo;obtain⟨g1,g2⟩:=a1b' (so:=[]) (a2E' W) h0 (show p<(a.toNat:Int)by omega);exact fin_is (b0d' W V h) h0 (by omega) ((con_lo W V h0 h1).mpr g1) λq hq=>g2 q ((con_lo W V h0 h1).mp hq)
theorem b1l'(W:Web a ts)(V:Web b us)(h:a+b≤8){p:Int}(h0:a≤p)(h1:p<a+b):nm (fin [] (besI a ts us) (a+b).toNat) p=nm (fin [] us b.toNat) (p-a)+a:=by
 have ha:=W.lo;obtain⟨g1,g2⟩:=a1b' (so:=[]) (a2E' V) (show 0≤p-a by omega) (show p-a<(b.toNat:Int)by omega);have g3:=a0K' (a2E' V) (show 0≤p-a by omega) (show p-a<(b.toNat:Int)by omega) g1;refine fin_is (b0d' W V h) (by omega) (by omega) ((con_hi W V h0 h1).mpr ⟨by omega,?_⟩) λq hq=>?_
 ·have e:nm (fin [] us b.toNat) (p-a)+a-a=nm (fin [] us b.toNat) (p-a):=by omega
  rw[e];exact g1
 ·have:=(con_hi W V h0 h1).mp hq;have:=g2 _ this.2;omega
theorem a4v':∀(n k:Nat) (lo:Int),a0e' lo (n+k)=a0e' lo n++a0e' (lo+n) k
 |0,k,lo=>by simp[a0e']
 |n+1,k,lo=>by
  have e:n+1+k=(n+k)+1:=by omega
  have e2:lo+1+(n:Int)=lo+((n+1:Nat):Int):=by omega
  rw[e];show lo::a0e' (lo+1) (n+k)=(lo::a0e' (lo+1) n)++a0e' (lo+((n+1:Nat):Int)) k;rw[a4v' n k (lo+1),e2,List.cons_append]
theorem a4w'(a:Int):∀(k:Nat) (lo:Int),a0e' (lo+a) k=(a0e' lo k).map (· +a)
 |0,_=>rfl
 |k+1,lo=>by
  unfold a0e';rw[ZK];have e:lo+a+1=lo+1+a:=by omega
  rw[e,a4w' a k (lo+1)]
theorem b1m'(W:Web a ts)(V:Web b us):a0e' 0 (a+b).toNat=a0e' 0 a.toNat++(a0e' 0 b.toNat).map (· +a):=by
 have ha:=W.lo;have hb:=V.lo;have e:(a+b).toNat=a.toNat+b.toNat:=by omega
 rw[e,a4v',←a4w'];have e2:(0:Int)+(a.toNat:Int)=0+a:=by omega
 rw[e2]
theorem b3l'(W:Web a ts)(V:Web b us)(h:a+b≤8)(h1:c<a):chain [] (besI a ts us) (a+b).toNat c=chain [] ts a.toNat c:=by
 have ha:=W.lo;have hb:=V.lo;refine a2l' a0T' a0T' λp=>?_;rw[a0l',a0l'];constructor
 ·rintro⟨⟨p0,p1⟩,p2,p3⟩;by_cases hp:p<a
  ·rw[b1k' W V h p0 hp]at p2;exact⟨⟨p0,by omega⟩,p2,p3⟩
  ·rw[b1l' W V h (by omega) (by omega)]at p2;have:=a0K' (a2E' V) (show 0≤p-a by omega) (show p-a<(b.toNat:Int)by omega) (a1b' (so:=[]) (a2E' V) (show 0≤p-a by omega) (show p-a<(b.toNat:Int)by omega)).1;omega
 ·rintro⟨⟨p0,p1⟩,p2,p3⟩;exact⟨⟨p0,by omega⟩,by rw[b1k' W V h p0 (by omega)];exact p2,p3⟩
theorem b3m'(W:Web a ts)(V:Web b us)(h:a+b≤8)(h0:0≤c):chain [] (besI a ts us) (a+b).toNat (c+a)=(chain [] us b.toNat c).map (· +a):=by
 have ha:=W.lo;have hb:=V.lo;refine a2l' a0T' ?_ λp=>?_
 ·rw[List.pairwise_map];exact a0T'.imp λh=>by omega
 rw[a0l',Zs];constructor
 ·rintro⟨⟨p0,p1⟩,p2,p3⟩;by_cases hp:p<a
  ·rw[b1k' W V h p0 hp]at p2;have:=a0K' (a2E' W) p0 (show p<(a.toNat:Int)by omega) (a1b' (so:=[]) (a2E' W) p0 (show p<(a.toNat:Int)by omega)).1;omega
  ·rw[b1l' W V h (by omega) (by omega)]at p2;exact⟨p-a,a0l'.mpr ⟨⟨by omega,by omega⟩,by omega,ZO⟩,by omega⟩
 ·rintro⟨x,hx,rfl⟩;obtain⟨⟨x0,x1⟩,x2,_⟩:=a0l'.mp hx;refine⟨⟨by omega,by omega⟩,?_,ZO⟩;rw[b1l' W V h (by omega) (by omega)];have e:x+a-a=x:=by omega
  rw[e,x2]
theorem a5I'(m:Nat):leftI [] m=a0e' 0 m:=by unfold leftI;exact List.filter_eq_self.mpr λ_ _=>rfl
theorem pcL_bes(W:Web a ts)(V:Web b us)(h:a+b≤8):pcL [] (besI a ts us) (a+b).toNat=pcL [] ts a.toNat++(pcL [] us b.toNat).map (List.map (a+ ·)):=by
 have ha:=W.lo;have hb:=V.lo;unfold pcL heads;rw[a5I',a5I',a5I',b1m' W V,List.filter_append,List.map_append];congr 1
 ·have e:(a0e' 0 a.toNat).filter (own [] (besI a ts us) (a+b).toNat)=(a0e' 0 a.toNat).filter (own [] ts a.toNat):=List.filter_congr λc hc=>by
   rw[a0p']at hc;unfold own;rw[b1k' W V h hc.1 (by omega)]
  rw[e];refine List.map_congr_left λc hc=>?_;have:=a0p'.mp (ZQ.mp hc).1;exact b3l' W V h (by omega)
 ·rw[List.filter_map,List.map_map,List.map_map]
  have e:(a0e' 0 b.toNat).filter (own [] (besI a ts us) (a+b).toNat∘(· +a))=(a0e' 0 b.toNat).filter (own [] us b.toNat):=List.filter_congr λc hc=>by
   rw[a0p']at hc;unfold own;show decide (nm (fin [] (besI a ts us) (a+b).toNat) (c+a)=c+a)=_;rw[b1l' W V h (by omega) (by omega),decide_eq_decide];have e:c+a-a=c:=by omega
   rw[e];omega
  rw[e];refine List.map_congr_left λc hc=>?_;have:=a0p'.mp (ZQ.mp hc).1;show chain [] (besI a ts us) (a+b).toNat (c+a)=(chain [] us b.toNat c).map (a+ ·);rw[b3m' W V h this.1];exact List.map_congr_left λx _=>by omega
end
end K05
namespace K05
theorem b0e'(hS:Flat S)(hp:PenAt S n):∃m,m≤4∧∃ts S',Web m ts∧Drawn n S S'∧a1L' [.ref n,.int 4] S=.ok (webD m ts) S':=by
 suffices h:∃m,m≤4∧∃ts S',Web m ts∧Drawn n S S'∧denSs a0k' G0 a3h' [some (.ref n),some (.int 4),none,none,none,none,none] S=.ok (.ret (webD m ts)) S' by obtain⟨m,m4,ts,S',W,d,e⟩:=h;exact⟨m,m4,ts,S',W,d,a0D' rfl e d.len (d.flat hS) (a4l' m ts)⟩
 obtain⟨r,S1,r0,r1,d1,e1⟩:=a3i' hS hp (m:=12) (by decide) (by decide);have hS1:=d1.flat hS;have hp1:=d1.pen hp;obtain⟨v,v0,v1,ev⟩:=a9R' (S:=S1) r0 r1;obtain⟨w,S2,w0,w1,d2,e2⟩:=a3i' hS1 hp1 (m:=9) (by decide) (by decide);have hS2:=d2.flat hS1;have hp2:=d2.pen hp1;have d12:=d1.trans d2;have hm:∃m:Int,1≤m∧m≤4∧1+4-1-v%4=m:=⟨4-v%4,by omega,by omega,by omega⟩;obtain⟨m,m0,m4,em⟩:=hm;have m1:m≤8:=by omega
 refine⟨m,m4,?_⟩;unfold a3h';rw[a1o' (d:=.int m) (S':=S1) (by simp[den,denL,Res.bind,Res.noErr,a0b',e1,ev,opD,addD,subD,modD];omega)];rw[a1o' (d:=.int w) (S':=S2) (by simp[den,denL,Res.bind,Res.noErr,a0b',e2])];simp only[Zy,Zx];by_cases c1:w=0∧2<m
 ·refine⟨sortI (ringI m.toNat),S2,?_,d12,?_⟩
  ·have:m=3∨m=4∨m=5∨m=6∨m=7∨m=8:=by omega
   rcases this with rfl|rfl|rfl|rfl|rfl|rfl<;>exact a3s' (by decide) (by decide) (by decide+kernel) (by decide+kernel) (by decide+kernel)
  ·refine a2k' (a0J' rfl rfl) c1 ?_;have:m=3∨m=4∨m=5∨m=6∨m=7∨m=8:=by omega
   rcases this with rfl|rfl|rfl|rfl|rfl|rfl<;>rfl
 rw[a2j' (a0J' rfl rfl) c1];by_cases c2:w=1∧5<m
 ·refine⟨sortI (ring2I m.toNat),S2,?_,d12,?_⟩
  ·have:m=6∨m=7∨m=8:=by omega
   rcases this with rfl|rfl|rfl<;>exact a3s' (by decide) (by decide) (by decide+kernel) (by decide+kernel) (by decide+kernel)
  ·refine a2k' (a0J' rfl rfl) c2 ?_;have:m=6∨m=7∨m=8:=by omega
   rcases this with rfl|rfl|rfl<;>rfl
 rw[a2j' (a0J' rfl rfl) c2];have hpw:=a3Q' m0 m1;by_cases c3:w=2∧2<m
 ·obtain⟨q,S3,q0,q1,d3,e3⟩:=a3i' hS2 hp2 (m:=2) (by decide) (by decide);have hS3:=d3.flat hS2;refine⟨(a2D' m.toNat).filter (λt=>decide (t.1<1+q∧1+q≤t.2)),S3,a7P' hpw Z1,d12.trans d3,?_⟩;refine a2k' (a0J' rfl rfl) c3 ?_;rw[a1o' (d:=.int (1+q)) (S':=S3) (by simp[den,denL,Res.bind,Res.noErr,a0b',e3,opD,addD])];refine a4C' ?_;simp[denS,den,denL,denI,Res.bind,Res.noErr,onBl,bltD,compI,a0t',a5C' hS3 m0 m1,a1y'];unfold tiesD;rw[a0A' (f:=tieD) (e:=tieD) (p:=λt=>decide (t.1<1+q∧1+q≤t.2))]
  ·simp[Res.noErr,a8b',seqOf,webD,tiesD]
  ·intro t ht acc ha;have ha':acc.length<16777216:=ha;have x0:idxD (tieD t) (.int 0) S3=.ok (.int t.1) S3:=rfl;have x1:idxD (tieD t) (.int 1) S3=.ok (.int t.2) S3:=rfl;have x2:cmpD .Lt (.int t.1) (.int (1+q)) S3=.ok (.bl (decide (t.1<1+q))) S3:=rfl;have x3:cmpD .LtE (.int (1+q)) (.int t.2) S3=.ok (.bl (decide (1+q≤t.2))) S3:=rfl;by_cases y1:t.1<1+q<;>by_cases y2:1+q≤t.2<;>simp[a0q',isNew,slots,a1h',asgCT,asgVs,denTs,denT,denB,den,Res.bind,Res.noErr,onBl,x0,x1,x2,x3,y1,y2,ha']
  ·have:=hpw.few;unfold big;omega
 rw[a2j' (a0J' rfl rfl) c3];by_cases c4:w=3
 ·obtain⟨us,S3,s3,v3,d3,e3⟩:=a5D' (n:=n) (step:=λx acc S2=>match a0q' (.var 0) x [none,some (.ref n)]with
    |some ρ'=>(denTs a0k' G0 [] ρ' S2).bind λk S3=>if k=true then denB a0k' G0 (.emit (.tup [.call "_law_draw" [.var 1,.var 0],.var 0])) ρ' acc S3 else .ok acc S3
    |none=>.fail) (m-1).toNat 1 [] S2 (by decide) (by omega) hS2 hp2 (by simp;omega) (λp p0 p1 acc S hS hp ha=>by
     obtain⟨r,S',r0,r1,d,e⟩:=a3i' hS hp (m:=p) (by omega) (by omega);refine⟨r,S',r0,r1,d,?_⟩;have ha':acc.length<16777216:=by omega
     simp[a0q',isNew,slots,a1h',asgCT,asgVs,denTs,denB,den,denL,Res.bind,a0b',e,tieD,ha'])
  have hl:us.length=(m-1).toNat:=by have:=congrArg List.length s3;simpa[a0d']using this
  have hn:us.Nodup:=by
   have h:(us.map (·.2)).Nodup:=by rw[s3];exact a1O'
   exact(List.pairwise_map.mp h).imp λz e=>z (by rw[e])
  refine⟨sortI us,S3,a3s' m0 m1 hn (λt ht=>by have:=v3 t ht;omega) (by omega),d12.trans d3,?_⟩;refine a2k' (a5F' rfl) c4 (a4C' ?_);have hr:denI a0k' G0 (.range [.lit (.int 1),.var 2]) [some (.ref n),some (.int 4),some (.int m),some (.int w),none,none,none] S2=.ok (.items (a1G' 1 (m-1).toNat)) S2:=by simp[denI,denL,den,Res.bind];omega
  have hc:den a0k' G0 (.comp false ["_law_place","_law_pen_here"] [none,some 0] (.var 0) (.range [.lit (.int 1),.var 2]) [] (.emit (.tup [.call "_law_draw" [.var 1,.var 0],.var 0]))) [some (.ref n),some (.int 4),some (.int m),some (.int w),none,none,none] S2=.ok (.lst (tiesD us)) S3:=by rw[a1k']at hr;exact a1l' hr e3
  have hsrt:=a4q' (S:=S3) (d:=.lst (tiesD us)) (l:=us) rfl (by omega);exact a8u' (a5E' (den_v rfl) (a0P' (a0P' hc hsrt) rfl))
 rw[a2j' (a5F' rfl) c4];obtain⟨q,S3,q0,q1,d3,e3⟩:=a3i' hS2 hp2 (m:=5) (by decide) (by decide);have hS3:=d3.flat hS2;have hp3:=d3.pen hp2;obtain⟨o,eo⟩:=a7Q' (S:=S3) q0 q1;rw[a1o' (d:=.int o) (S':=S3) (by simp[den,denL,Res.bind,Res.noErr,a0b',e3,eo])];simp only[Zy,Zx]
 obtain⟨us,S4,s4,d4,e4⟩:=a3R' (n:=n) (f:=tieD) (step:=λx acc S2=>match a0q' (.var 0) x [none,some (.ref n),some (.int o)]with
    |some ρ'=>(denTs a0k' G0 [.cmp .Lt (.call "_law_draw" [.var 1,.lit (.int 8)]) (.var 2)] ρ' S2).bind λk S3=>if k=true then denB a0k' G0 (.emit (.var 0)) ρ' acc S3 else .ok acc S3
    |none=>.fail) (a2D' m.toNat) [] S3 hS3 hp3 (by have:=hpw.few;simp;omega) (λt ht acc S hS hp ha=>by
     obtain⟨r,S',r0,r1,d,e⟩:=a3i' hS hp (m:=8) (by decide) (by decide);refine⟨decide (r<o),S',d,?_⟩;have x2:cmpD .Lt (.int r) (.int o) S'=.ok (.bl (decide (r<o))) S':=rfl;have ha':acc.length<16777216:=by omega
     by_cases y:r<o<;>simp[a0q',isNew,slots,a1h',asgCT,asgVs,denTs,denT,denB,den,denL,Res.bind,Res.noErr,onBl,a0b',e,x2,y,ha'])
 refine⟨us,S4,a7P' hpw s4,(d12.trans d3).trans d4,a4C' ?_⟩
 have hc:den a0k' G0 (.comp false ["_law_tie","_law_pen_here","_law_often"] [none,some 0,some 6] (.var 0) (.seq (.call "_law_pairs" [.var 2])) [.cmp .Lt (.call "_law_draw" [.var 1,.lit (.int 8)]) (.var 2)] (.emit (.var 0))) [some (.ref n),some (.int 4),some (.int m),some (.int w),none,none,some (.int o)] S3=.ok (.lst (tiesD us)) S4:=by
  have hr:denI a0k' G0 (.seq (.call "_law_pairs" [.var 2])) [some (.ref n),some (.int 4),some (.int m),some (.int w),none,none,some (.int o)] S3=.ok (.items ((a2D' m.toNat).map tieD)) S3:=by simp[denI,denL,den,Res.bind,a0t',a5C' hS3 m0 m1,a1y',tiesD]
  exact a1l' hr e4
 exact a8u' (a5E' (den_v rfl) (a0P' hc rfl))
theorem a7k':a0j'=K05.a0j':=rfl
section
variable {a b:Int}{ts us p q:List Ti}
theorem b0f'(hn:n<S.length)(d:Drawn n (S++[L]) T):∃S',Drawn n S S'∧T=S'++[L]:=by obtain⟨x,y,rfl⟩:=d;exact⟨S.set n [.int x,.int y],⟨x,y,rfl⟩,List.set_append_left _ _ hn⟩
theorem pen_lt(h:PenAt S n):n<S.length:=by obtain⟨x,y,e⟩:=h;exact(Zf.mp e).1
theorem a5J'(h:PenAt S n):PenAt (S++[L]) n:=by have hl:=pen_lt h;obtain⟨x,y,e⟩:=h;exact⟨x,y,by rw[Zl hl];exact e⟩
theorem a6F':a6W'=[.expr (.call "must_be_web" [.var 0]),.expr (.call "must_be_web" [.var 1]),.asgT (.tup [.var 2,.var 3]) (.var 0),.asgT (.tup [.var 4,.var 5]) (.var 1),.asg 6 (.bin .Add (.var 2) (.var 4)),.ite (.cmp .Gt (.var 6) (.glob "MOST_PLACES")) [.never] [],.asg 7 (.blt .tuple [bsC]),.ret (.tup [.var 6,.bin .Add (.var 3) (.var 7)])]:=rfl
theorem b1n'(hS:Flat S)(W:Web a ts)(V:Web b us)(h:a+b≤8):a3p' [webD a ts,webD b us] S=.ok (webD (a+b) (besI a ts us)) S:=by
 have e1:=K05.a0O' hS W;have e2:=K05.a0O' hS V;rw[←a7k']at e1 e2;have w28:=W.few;have v28:=V.few
 have e3:∀x6 x7:Option D,den a2R' G0 bsC [some (webD a ts),some (webD b us),some (.int a),some (.tup (tiesD ts)),some (.int b),some (.tup (tiesD us)),x6,x7] S=.ok (.lst (tiesD (us.map (sh a)))) S:=λx6 x7=>by
  refine a1l' (its:=.items (us.map tieD)) (S1:=S) rfl ?_
  have:=a0A' (xs:=us) (f:=tieD) (p:=λ_=>true) (e:=λt=>tieD (sh a t)) (S:=S) (step:=λx acc S2=>match a0q' (.tup [.var 0,.var 1]) x [none,none,some (.int a)]with
    |some ρ'=>(denTs a2R' G0 [] ρ' S2).bind λk S3=>if k=true then denB a2R' G0 (.emit (.tup [.bin .Add (.var 0) (.var 2),.bin .Add (.var 1) (.var 2)])) ρ' acc S3 else .ok acc S3
    |none=>.fail) (λt ht acc ha=>by
   have ha':acc.length<16777216:=ha;have ha1:a0q' (.tup [.var 0,.var 1]) (tieD t) [none,none,some (.int a)]=some [some (.int t.1),some (.int t.2),some (.int a)]:=rfl;have o1:opD .Add (.int t.1) (.int a) S=.ok (.int (t.1+a)) S:=rfl;have o2:opD .Add (.int t.2) (.int a) S=.ok (.int (t.2+a)) S:=rfl;rw[ha1];simp only[denTs,Res.bind,if_true,denB,den,denL,ZH,ZM,o1,o2,Res.noErr];rw[if_pos ha];rfl) (show us.length≤16777216 by omega)
  rw[List.filter_eq_self.mpr (λ_ _=>rfl)]at this;have hm:us.map (λt=>tieD (sh a t))=tiesD (us.map (sh a)):=by unfold tiesD;rw[List.map_map];rfl
  rw[hm]at this;exact this
 refine a0D' rfl ?_ rfl hS (K05.a4l' _ _);show denSs a2R' G0 a6W' [some (webD a ts),some (webD b us),none,none,none,none,none,none] S=_;rw[a6F'];rw[a0o' (ρ':=[some (webD a ts),some (webD b us),none,none,none,none,none,none]) (S':=S) (by simp only[denS,den,denL,Res.bind,ZH,ZM,a1d',e1])];rw[a0o' (ρ':=[some (webD a ts),some (webD b us),none,none,none,none,none,none]) (S':=S) (by simp only[denS,den,denL,Res.bind,ZH,ZM,a1d',e2])];rw[a0o' (ρ':=[some (webD a ts),some (webD b us),some (.int a),some (.tup (tiesD ts)),none,none,none,none]) (S':=S) rfl];rw[a0o' (ρ':=[some (webD a ts),some (webD b us),some (.int a),some (.tup (tiesD ts)),some (.int b),some (.tup (tiesD us)),none,none]) (S':=S) rfl];rw[a1o' (d:=.int (a+b)) (S':=S) rfl];simp only[Zy,Zx];have hg:cmpD .Gt (.int (a+b)) (.int 8) S=.ok (.bl (decide (a+b>8))) S:=rfl
 have ht:denT a2R' G0 (.cmp .Gt (.var 6) (.glob "MOST_PLACES")) [some (webD a ts),some (webD b us),some (.int a),some (.tup (tiesD ts)),some (.int b),some (.tup (tiesD us)),some (.int (a+b)),none] S=.ok false S:=by have hG:G0 "MOST_PLACES"=some (.int 8):=rfl;rw[ZC (by omega)]at hg;simp only[denT,den,Res.bind,ZH,ZM,hG,hg,Res.noErr,onBl]
 rw[a0o' (ρ':=[some (webD a ts),some (webD b us),some (.int a),some (.tup (tiesD ts)),some (.int b),some (.tup (tiesD us)),some (.int (a+b)),none]) (S':=S) (by rw[a9Q' ht];rfl)];rw[a1o' (d:=.tup (tiesD (us.map (sh a)))) (S':=S) (by rw[den,denL,e3];rfl)];simp only[Zy,Zx];refine a4C' ?_
 have ha:opD .Add (.tup (tiesD ts)) (.tup (tiesD (us.map (sh a)))) S=.ok (.tup (tiesD (besI a ts us))) S:=by
  show(if(tiesD ts).length+(tiesD (us.map (sh a))).length≤big then Res.ok (D.tup (tiesD ts++tiesD (us.map (sh a)))) S else .fail)=_;have h1:(tiesD ts).length=ts.length:=by unfold tiesD;simp
  have h2:(tiesD (us.map (sh a))).length=us.length:=by unfold tiesD;simp
  rw[if_pos (by rw[h1,h2];show _≤16777216;omega)];unfold besI tiesD;rw[List.map_append]
 simp only[denS,den,denL,Res.bind,ZH,ZM,ha,Res.noErr];rfl
end
end K05
namespace K05
open Pc
theorem b3n':a6V'=K05.a6V':=rfl
theorem b0g':a1K'=K05.a1K':=rfl
theorem x05_pw:a0f'=K05.a0f':=rfl
theorem b3o':a1D'=K05.a1D':=rfl
section
variable {S2 S3:Store}{a b c:CE}{e x:D}
theorem idx5(h1:den Φ Γ a ρ S=.ok d S1)(h2:den Φ Γ b ρ S1=.ok e S2)(h3:idxD d e S2=.ok x S2):den Φ Γ (.idx a b) ρ S=.ok x S2:=by simp only[den,h1,h2,Res.bind,h3,Res.noErr]
theorem op5{o:Operator}(h1:den Φ Γ a ρ S=.ok d S1)(h2:den Φ Γ b ρ S1=.ok e S2)(h3:opD o d e S2=.ok x S2):den Φ Γ (.bin o a b) ρ S=.ok x S2:=by simp only[den,h1,h2,Res.bind,h3,Res.noErr]
theorem cm5{o:CmpOp}(h1:den Φ Γ a ρ S=.ok d S1)(h2:den Φ Γ b ρ S1=.ok e S2)(h3:cmpD o d e S2=.ok x S2):den Φ Γ (.cmp o a b) ρ S=.ok x S2:=by simp only[den,h1,h2,Res.bind,h3,Res.noErr]
theorem tc5{o:CmpOp}{k:Bool}(h1:den Φ Γ a ρ S=.ok d S1)(h2:den Φ Γ b ρ S1=.ok e S2)(h3:cmpD o d e S2=.ok (.bl k) S2):denT Φ Γ (.cmp o a b) ρ S=.ok k S2:=by simp only[denT,h1,h2,Res.bind,h3,Res.noErr,onBl]
theorem or5(h1:denT Φ Γ a ρ S=.ok false S1)(h2:denT Φ Γ b ρ S1=.ok y S2):denT Φ Γ (.bor a b) ρ S=.ok y S2:=by simp only[denT,h1,Res.bind,Zo,ZR,h2]
theorem an5(h1:denT Φ Γ a ρ S=.ok true S1)(h2:denT Φ Γ b ρ S1=.ok y S2):denT Φ Γ (.band a b) ρ S=.ok y S2:=by simp only[denT,h1,Res.bind,if_true,h2]
theorem an0(h1:denT Φ Γ a ρ S=.ok false S1):denT Φ Γ (.band a b) ρ S=.ok false S1:=by simp only[denT,h1,Res.bind,Zo,ZR]
theorem not5(h1:denT Φ Γ a ρ S=.ok y S1):denT Φ Γ (.bnot a) ρ S=.ok (!y) S1:=by simp only[denT,h1,Res.bind]
theorem lit5:den Φ Γ (.lit d) ρ S=.ok d S:=by simp only[den]
theorem tcall1{f:Str}{k:Bool}(hf:Φ f=some φ)(h1:den Φ Γ a ρ S=.ok x S1)(h:φ [x] S1=.ok (.bl k) S2):denT Φ Γ (.call f [a]) ρ S=.ok k S2:=by simp only[denT,denL,hf,h1,Res.bind,h,truD]
theorem tcall2{f:Str}{k:Bool}(hf:Φ f=some φ)(h1:den Φ Γ a ρ S=.ok x S1)(h2:den Φ Γ b ρ S1=.ok e S2)(h:φ [x,e] S2=.ok (.bl k) S3):denT Φ Γ (.call f [a,b]) ρ S=.ok k S3:=by simp only[denT,denL,hf,h1,h2,Res.bind,h,truD]
theorem go5(h:denT Φ Γ c ρ S=.ok false S1):denSs Φ Γ (.ite c [.ret (.lit (.bl false))] []::cs) ρ S=denSs Φ Γ cs ρ S1:=by refine a0o' ?_;rw[a9Q' h];simp only[Zo,ZR,denSs]
theorem many5{i:Nat}(h:ρ[i]?=some (some (webD m ts))):den Φ Γ (.idx (.var i) (.lit (.int 0))) ρ S=.ok (.int m) S:=idx5 (den_v h) lit5 rfl
theorem rng5(W:Web m ts){i:Nat}(h:ρ[i]?=some (some (webD m ts))):denI Φ Γ (.range [.idx (.var i) (.lit (.int 0))]) ρ S=.ok (.items ((a0e' 0 m.toNat).map D.int)) S:=by have w1:=W.lo;have w2:=W.hi;simp only[denI,denL,many5 h,Res.bind];rw[if_pos ⟨by omega,by omega⟩,a1k']
theorem compB_f{h f:α→D}{p:α→Bool}{step:D→List D→Store→Res (List D)}{ds:List α}(hk:T[k]?=some (ds.map h))(hs:∀c∈ds,∀acc,acc.length<big→step (h c) acc T=.ok (if p c=true then acc++[f c]else acc) T):
  ∀n i acc,i+n=ds.length→acc.length+n≤big→compB step (a1t' k) (n+1) i acc T=.ok (acc++((ds.drop i).filter p).map f) T:=by
 have hg:∀i,a1t' k T i=some (ds.map h)[i]? :=λi=>by unfold a1t';rw[hk];rfl
 intro n
 induction n with
 |zero=>intro i acc hi _;unfold compB;rw[hg i,List.getElem?_eq_none (by simp;omega),List.drop_eq_nil_of_le (by omega)];simp
 |succ n ih=>
  intro i acc hi ha;have hlt:i<ds.length:=by omega
  have hx:(ds.map h)[i]?=some (h ds[i]):=by rw[ZP,Zh hlt];rfl
  unfold compB;rw[hg i,hx];dsimp only;rw[hs _ (List.getElem_mem hlt) acc (by omega)];show compB step (a1t' k) (n+1) (i+1) _ T=_;rw[List.drop_eq_getElem_cons hlt];cases e:p ds[i]with
  |true=>rw[if_pos rfl,ih (i+1) _ (by omega) (by rw[Zt,List.length_singleton];omega),List.filter_cons_of_pos e,ZK,List.append_assoc];rfl
  |false=>rw[if_neg (by simp),ih (i+1) _ (by omega) (by omega),List.filter_cons_of_neg (by rw[e];simp)]
theorem live5{i:Nat}{xs:List D}(hk:T[k]?=some xs)(h:den Φ Γ a ρ S=.ok (.ref k) T):denI Φ Γ (.seq a) ρ S=.ok (.live (xs.length+1) (a1t' k)) T:=by simp only[denI,h,Res.bind,a1y',hk,Option.getD_some]
theorem a5K'{tg:CT}{it:CE}{ifs:List CE}{body:CE}{ds:List α}{h f:α→D}{p:α→Bool}(hi:den Φ Γ it ρ S=.ok (.ref k) T)(hk:T[k]?=some (ds.map h))(hr:fr.map (λj=>j.bind λj=>(ρ[j]?).join)=r0)(hl:ds.length≤1000)
  (hs:∀c∈ds,∀acc:List D,acc.length<big→(match a0q' tg (h c) r0 with
    |some ρ'=>(denTs Φ Γ ifs ρ' T).bind λk S3=>if k=true then denB Φ Γ body ρ' acc S3 else .ok acc S3
    |none=>.fail)=.ok (if p c=true then acc++[f c]else acc) T):den Φ Γ (.comp false N fr tg (.seq it) ifs body) ρ S=.ok (.lst ((ds.filter p).map f)) T:=by
 refine a1l' (live5 (i:=0) hk hi) ?_;rw[hr];show compB _ (a1t' k) _ 0 [] T=_
 have:=compB_f (step:=λx acc S2=>match a0q' tg x r0 with
    |some ρ'=>(denTs Φ Γ ifs ρ' S2).bind λk S3=>if k=true then denB Φ Γ body ρ' acc S3 else .ok acc S3
    |none=>.fail) hk hs ds.length 0 [] (by omega) (by show 0+ds.length≤16777216;omega)
 rw[List.drop_zero,List.nil_append]at this;rw[Zw];exact this
theorem b0h'{step:D→Rho→Store→Res Fl}(J:Rho→Store→Prop){xs:List D}(hJ:∀ρ S,J ρ S→S[k]?=some xs)(h:∀x∈xs,∀ρ S,J ρ S→∃ρ' S',J ρ' S'∧step x ρ S=.ok (.next ρ') S'):
  ∀n i ρ S,i+n=xs.length→J ρ S→∃ρ' S',J ρ' S'∧forB step (a1t' k) (n+1) i ρ S=.ok (.next ρ') S':=by
 intro n
 induction n with
 |zero=>intro i ρ S hi j;refine⟨ρ,S,j,?_⟩;unfold forB a1t';rw[hJ ρ S j,Option.map_some,List.getElem?_eq_none (by omega)]
 |succ n ih=>
  intro i ρ S hi j;have hlt:i<xs.length:=by omega
  obtain⟨ρ1,S1,j1,e1⟩:=h xs[i] (List.getElem_mem hlt) ρ S j;obtain⟨ρ2,S2,j2,e2⟩:=ih (i+1) ρ1 S1 (by omega) j1;refine⟨ρ2,S2,j2,?_⟩;unfold forB;rw[show a1t' k S i=some (some xs[i])by unfold a1t';rw[hJ ρ S j,Option.map_some,Zh hlt]];dsimp only;rw[e1];exact e2
theorem ne_same(ns:Li):cmpD .NotEq (.lst (ns.map D.int)) (.lst (ns.map D.int)) T=.ok (.bl false) T:=by
 have e:cmpD .NotEq (.lst (ns.map D.int)) (.lst (ns.map D.int)) T=boolR ((if(ns.map D.int).length=(ns.map D.int).length then allO (List.zipWith (eqF T 39) (ns.map D.int) (ns.map D.int))else some false).map not) T:=rfl
 have key:∀l:Li,allO (List.zipWith (eqF T 39) (l.map D.int) (l.map D.int))=some true:=λl=>by
  induction l with
  |nil=>rfl
  |cons x l ih=>rw[ZK,List.zipWith_cons_cons,K05.a6u'];simp only[allO,ih,beq_self_eq_true];rfl
 rw[e,if_pos rfl,key];rfl
end
end K05
namespace K05
open Pc
theorem c_wr_is:a0G'=[.for_ (.var 2) wrL [.for_ (.var 3) wrL [.ite wr1 [.ret (.lit (.bl false))] []]],.asg 4 (.call "pieces" [.var 1]),.ite wr2 [.ret (.lit (.bl false))] [],.for_ (.var 5) (.seq (.var 4)) [.for_ (.var 6) (.seq (.var 5)) [.ite wr3 [.ret (.lit (.bl false))] []]],.asg 7 (.call "_law_some" [.var 0,.idx (.var 1) (.lit (.int 0))]),.for_ (.var 5) (.seq (.call "pieces_without" [.var 1,.var 7])) [.ite wr4 [.ret (.lit (.bl false))] []],.ret (.lit (.bl true))]:=rfl
theorem near05(hS:Flat S)(W:Web m ts){p:Int}(hp:0≤p∧p<m):a6V' [webD m ts,.int p] S=.ok (tupI (nearI m ts p)) S:=by rw[b3n'];exact K05.near_eq hS W hp
theorem b3p'{l:Li}:cmpD .In (.int q) (tupI l) S=.ok (.bl (decide (q∈l))) S:=by show boolR (inD (.int q) (tupI l) S) S=_;rw[a6C' rfl];rfl
theorem b1o'{l:Li}:cmpD .NotIn (.int q) (tupI l) S=.ok (.bl (!decide (q∈l))) S:=by show boolR ((inD (.int q) (tupI l) S).map not) S=_;rw[a6C' rfl];rfl
theorem nr5(hS:Flat S)(W:Web m ts){j:Nat}{p:Int}(h1:ρ[1]?=some (some (webD m ts)))(hj:ρ[j]?=some (some (.int p)))(hp:0≤p∧p<m):den a0a' G0 (.call "near" [.var 1,.var j]) ρ S=.ok (tupI (nearI m ts p)) S:=
 a0W' a2B' (den_v h1) (den_v hj) (near05 hS W hp)
theorem wr1_no(hS:Flat S)(W:Web m ts){p:Int}(h1:ρ[1]?=some (some (webD m ts)))(h2:ρ[2]?=some (some (.int p)))(h3:ρ[3]?=some (some (.int q)))(hp:0≤p∧p<m)(hq:0≤q∧q<m):denT a0a' G0 wr1 ρ S=.ok false S:=by
 unfold wr1;refine or5 (S1:=S) ?_ ?_
 ·refine tc5 (cm5 (den_v h3) (nr5 hS W h1 h2 hp) b3p') (cm5 (den_v h2) (nr5 hS W h1 h3 hq) b3p') ?_;rw[b3h' (ts:=ts) hp hq];cases decide (p∈nearI m ts q)<;>rfl
 ·refine tc5 (den_v h2) (nr5 hS W h1 h2 hp) ?_;rw[b3p',ZC (b3i' W hp)]
theorem wrA(hS:Flat S)(W:Web m ts){x0 x4 x7:Option D}:∃y2 y3,denS a0a' G0 (.for_ (.var 2) wrL [.for_ (.var 3) wrL [.ite wr1 [.ret (.lit (.bl false))] []]]) [x0,some (webD m ts),x2,x3,x4,x5,x6,x7] S=.ok (.next [x0,some (webD m ts),y2,y3,x4,x5,x6,x7]) S:=by
 generalize hw:webD m ts=w
 have key:∀(p:Int),0≤p∧p<m→∀x3,∃y3,denS a0a' G0 (.for_ (.var 3) wrL [.ite wr1 [.ret (.lit (.bl false))] []]) [x0,some w,some (.int p),x3,x4,x5,x6,x7] S=.ok (.next [x0,some w,some (.int p),y3,x4,x5,x6,x7]) S:=λp hp x3=>by
  obtain⟨ρ',S',⟨y3,rfl,rfl⟩,e⟩:=a3u' (step:=λx ρ S=>match asgCT (.var 3) x ρ with
    |some ρ'=>denSs a0a' G0 [.ite wr1 [.ret (.lit (.bl false))] []] ρ' S
    |none=>.fail) (λρ T=>∃y3,ρ=[x0,some w,some (.int p),y3,x4,x5,x6,x7]∧T=S) ((a0e' 0 m.toNat).map D.int) (by rintro x hx ρ T ⟨y3,rfl,rfl⟩;obtain⟨q,hq,rfl⟩:=Zs.mp hx;have hq:=a0p'.mp hq;refine⟨_,T,⟨some (.int q),rfl,rfl⟩,?_⟩;show denSs a0a' G0 [.ite wr1 [.ret (.lit (.bl false))] []] [x0,some w,some (.int p),some (.int q),x4,x5,x6,x7] T=_;rw[go5 (wr1_no hS W (by rw[hw];rfl) rfl rfl hp ⟨hq.1,by omega⟩),denSs]) [x0,some w,some (.int p),x3,x4,x5,x6,x7] S ⟨x3,rfl,rfl⟩
  refine⟨y3,?_⟩;rw[a6w' (its:=.items ((a0e' 0 m.toNat).map D.int)) (S1:=S') (by unfold wrL;exact rng5 W (by rw[hw];rfl))];exact e
 obtain⟨ρ',S',⟨y2,y3,rfl,rfl⟩,e⟩:=a3u' (step:=λx ρ S=>match asgCT (.var 2) x ρ with
   |some ρ'=>denSs a0a' G0 [.for_ (.var 3) wrL [.ite wr1 [.ret (.lit (.bl false))] []]] ρ' S
   |none=>.fail) (λρ T=>∃y2 y3,ρ=[x0,some w,y2,y3,x4,x5,x6,x7]∧T=S) ((a0e' 0 m.toNat).map D.int) (by rintro x hx ρ T ⟨y2,y3,rfl,rfl⟩;obtain⟨p,hp,rfl⟩:=Zs.mp hx;have hp:=a0p'.mp hp;obtain⟨z3,e⟩:=key p ⟨hp.1,by omega⟩ y3;refine⟨_,T,⟨some (.int p),z3,rfl,rfl⟩,?_⟩;show denSs a0a' G0 [.for_ (.var 3) wrL [.ite wr1 [.ret (.lit (.bl false))] []]] [x0,some w,some (.int p),y3,x4,x5,x6,x7] T=_;rw[a0o' e,denSs]) [x0,some w,x2,x3,x4,x5,x6,x7] S ⟨x2,x3,rfl,rfl⟩
 refine⟨y2,y3,?_⟩;rw[a6w' (its:=.items ((a0e' 0 m.toNat).map D.int)) (S1:=S') (by unfold wrL;exact rng5 W (by rw[hw];rfl))];exact e
theorem a7W':∀L:List (Li),lstsD (L.map λl=>D.lst (l.map D.int))=some (L.map λl=>l.map D.int)
 | []=>rfl
 |l::L=>by rw[ZK,lstsD,a7W' L];rfl
theorem wr2_no(W:Web m ts)(h1:ρ[1]?=some (some (webD m ts)))(h4:ρ[4]?=some (some (.ref k)))(hk:T[k]?=some ((pcL [] ts m.toNat).map tupI)):denT a0a' G0 wr2 ρ T=.ok false T:=by
 have w1:=W.lo;have w2:=W.hi;have hT:=a2E' W
 have hlen:(pcL [] ts m.toNat).length≤8:=by
  have h1:=ZG (own [] ts m.toNat) (leftI [] m.toNat);have h2:(leftI [] m.toNat).length=m.toNat:=by rw[a5I',a0d']
  unfold pcL heads;rw[Zw];omega
 have hc:den a0a' G0 wr2c ρ T=.ok (.lst ((pcL [] ts m.toNat).map λl=>D.lst (l.map D.int))) T:=by
  unfold wr2c;refine(a5K' (h:=tupI) (f:=λl=>D.lst (l.map D.int)) (p:=λ_=>true) (den_v h4) hk rfl (by omega) (λl hl acc ha=>?_)).trans ?_
  ·have ha':acc.length<16777216:=ha;simp[a0q',isNew,slots,a1h',asgCT,asgVs,denTs,denB,den,denL,bltD,listD,seqOf,tupI,Res.bind,Res.noErr,ha']
  ·rw[List.filter_eq_self.mpr λ_ _=>rfl]
 have hflat:((pcL [] ts m.toNat).map λl=>l.map D.int).flatten=((pcL [] ts m.toNat).flatten).map D.int:=by rw[List.map_flatten]
 have hs:den a0a' G0 (.sumL wr2c) ρ T=.ok (.lst (((pcL [] ts m.toNat).flatten).map D.int)) T:=by
  have hcat:catD (.lst ((pcL [] ts m.toNat).map λl=>D.lst (l.map D.int))) T=.ok (.lst (((pcL [] ts m.toNat).flatten).map D.int)) T:=by
   unfold catD;dsimp only;rw[a7W'];dsimp only;rw[hflat,if_pos];refine⟨?_,by rw[Zw,a5H' hT];show m.toNat≤16777216;omega⟩;rw[Zw];have:=a5H' (m:=m.toNat) hT;cases e:pcL [] ts m.toNat with
   |nil=>rw[e]at this;simp at this;omega
   |cons _ _=>simp
  simp only[den,hc,Res.bind,hcat,Res.noErr]
 unfold wr2;refine tc5 (S1:=T) (d:=.lst ((a0e' 0 m.toNat).map D.int)) (e:=.lst ((a0e' 0 m.toNat).map D.int)) ?_ ?_ (ne_same _)
 ·refine a0P' hs ?_;show a3y' false .int [.lst (((pcL [] ts m.toNat).flatten).map D.int)] T=_;rw[a4t' rfl (by rw[a5H' hT];omega),b0b' hT]
 ·have hL:denL a0a' G0 [.idx (.var 1) (.lit (.int 0))] ρ T=.ok [.int m] T:=by
   simp only[denL,many5 h1,Res.bind]
  have hR:rngD false false [.int m] T=.ok (.lst ((a0e' 0 m.toNat).map D.int)) T:=by show rngR false false 0 m T=_;unfold rngR;rw[if_pos ⟨⟨by omega,by omega,by omega,by omega⟩,by omega⟩,Int.sub_zero,a1k'];rfl
  rw[den,hL];show Res.noErr (rngD false false [.int m] T)=_;rw[hR];rfl
end K05
namespace K05
open Pc
theorem a6G'{tg:CT}{it:CE}{ifs:List CE}{body:CE}{ds:List α}{h f:α→D}{p:α→Bool}(hi:denI Φ Γ it ρ S=.ok (.items (ds.map h)) T)(hr:fr.map (λj=>j.bind λj=>(ρ[j]?).join)=r0)(hl:ds.length≤1000)
  (hs:∀c∈ds,∀acc:List D,acc.length<big→(match a0q' tg (h c) r0 with
    |some ρ'=>(denTs Φ Γ ifs ρ' T).bind λk S3=>if k=true then denB Φ Γ body ρ' acc S3 else .ok acc S3
    |none=>.fail)=.ok (if p c=true then acc++[f c]else acc) T):den Φ Γ (.comp false N fr tg it ifs body) ρ S=.ok (.lst ((ds.filter p).map f)) T:=by
 refine a1l' hi ?_;rw[hr]
 exact a0A' (step:=λx acc S2=>match a0q' tg x r0 with
    |some ρ'=>(denTs Φ Γ ifs ρ' S2).bind λk S3=>if k=true then denB Φ Γ body ρ' acc S3 else .ok acc S3
    |none=>.fail) hs (by show ds.length≤16777216;omega)
theorem nil5:den Φ Γ (.lst false []) ρ S=.ok (.lst []) S:=by simp only[den,denL,Res.bind,Zo,ZR]
theorem one5:den Φ Γ (.lst false [.lit d]) ρ S=.ok (.lst [d]) S:=by simp only[den,denL,Res.bind,Zo,ZR]
theorem seq5{a:CE}{l:Li}(h:den Φ Γ a ρ S=.ok (tupI l) T):denI Φ Γ (.seq a) ρ S=.ok (.items (l.map D.int)) T:=by simp only[denI,h,Res.bind,a1y',tupI]
theorem left5{l k:Li}{i j:Nat}{it:CE}(hl:l.length≤1000)(hi:denI Φ Γ it ρ S=.ok (.items (l.map D.int)) T)(hk:ρ[j]?=some (some (tupI k))):den Φ Γ (.comp false N [none,some j] (.var 0) it [.cmp .NotIn (.var 0) (.var 1)] (.emit (.var 0))) ρ S=.ok (.lst ((l.filter λq=> !decide (q∈k)).map D.int)) T:=by refine a6G' (h:=D.int) (f:=D.int) (p:=λq=> !decide (q∈k)) (r0:=[none,some (tupI k)]) hi (by simp[hk]) hl λq hq acc ha=>?_;have ha':acc.length<16777216:=ha;have hn:=b1o' (S:=T) (q:=q) (l:=k);generalize tupI k=K at hn;cases e:decide (q∈k)<;>rw[e]at hn<;>simp[a0q',isNew,slots,a1h',asgCT,asgVs,denTs,denT,denB,den,Res.bind,Res.noErr,onBl,hn,ha']
theorem wr3_no(hT:Flat T)(W:Web m ts){p:Int}(h1:ρ[1]?=some (some (webD m ts)))(h5:ρ[5]?=some (some (tupI (chain [] ts m.toNat c))))(h6:ρ[6]?=some (some (.int p)))(hp:p∈chain [] ts m.toNat c):denT a0a' G0 wr3 ρ T=.ok false T:=by
 have hpm:=(a0l'.mp hp).1;have hl:(nearI m ts p).length≤1000:=by have:=ZG (λq=>tied ts p q) (a0e' 0 m.toNat);rw[a0d']at this;have:=W.hi;unfold nearI;omega
 unfold wr3 wr3c;refine tc5 (S1:=T) (left5 (i:=0) hl (seq5 (nr5 hT W h1 h6 ⟨hpm.1,by omega⟩)) h5) nil5 ?_;rw[List.filter_eq_nil_iff.mpr λq hq=>by simpa using b0c' W hp hq];rfl
theorem wrB(hT:Flat T)(W:Web m ts)(hk:T[k]?=some ((pcL [] ts m.toNat).map tupI)){x0 x7:Option D}:∃y5 y6,denS a0a' G0 (.for_ (.var 5) (.seq (.var 4)) [.for_ (.var 6) (.seq (.var 5)) [.ite wr3 [.ret (.lit (.bl false))] []]]) [x0,some (webD m ts),x2,x3,some (.ref k),x5,x6,x7] T=.ok (.next [x0,some (webD m ts),x2,x3,some (.ref k),y5,y6,x7]) T:=by
 generalize hw:webD m ts=w
 have key:∀c,∀x6,∃y6,denS a0a' G0 (.for_ (.var 6) (.seq (.var 5)) [.ite wr3 [.ret (.lit (.bl false))] []]) [x0,some w,x2,x3,some (.ref k),some (tupI (chain [] ts m.toNat c)),x6,x7] T=.ok (.next [x0,some w,x2,x3,some (.ref k),some (tupI (chain [] ts m.toNat c)),y6,x7]) T:=λc x6=>by
  obtain⟨ρ',S',⟨y6,rfl,rfl⟩,e⟩:=a3u' (step:=λx ρ S=>match asgCT (.var 6) x ρ with
    |some ρ'=>denSs a0a' G0 [.ite wr3 [.ret (.lit (.bl false))] []] ρ' S
    |none=>.fail) (λρ U=>∃y6,ρ=[x0,some w,x2,x3,some (.ref k),some (tupI (chain [] ts m.toNat c)),y6,x7]∧U=T) ((chain [] ts m.toNat c).map D.int) (by rintro x hx ρ U ⟨y6,rfl,rfl⟩;obtain⟨p,hp,rfl⟩:=Zs.mp hx;refine⟨_,U,⟨some (.int p),rfl,rfl⟩,?_⟩;show denSs a0a' G0 [.ite wr3 [.ret (.lit (.bl false))] []] [x0,some w,x2,x3,some (.ref k),some (tupI (chain [] ts m.toNat c)),some (.int p),x7] U=_;rw[go5 (wr3_no hT W (by rw[hw];rfl) rfl rfl hp),denSs]) [x0,some w,x2,x3,some (.ref k),some (tupI (chain [] ts m.toNat c)),x6,x7] T ⟨x6,rfl,rfl⟩
  refine⟨y6,?_⟩;rw[a6w' (its:=.items ((chain [] ts m.toNat c).map D.int)) (S1:=S') (seq5 (den_v rfl))];exact e
 obtain⟨ρ',S',⟨y5,y6,rfl,rfl⟩,e⟩:=b0h' (step:=λx ρ S=>match asgCT (.var 5) x ρ with
   |some ρ'=>denSs a0a' G0 [.for_ (.var 6) (.seq (.var 5)) [.ite wr3 [.ret (.lit (.bl false))] []]] ρ' S
   |none=>.fail) (λρ U=>∃y5 y6,ρ=[x0,some w,x2,x3,some (.ref k),y5,y6,x7]∧U=T) (k:=k) (xs:=(pcL [] ts m.toNat).map tupI) (by rintro ρ U ⟨_,_,_,rfl⟩;exact hk) (by rintro x hx ρ U ⟨y5,y6,rfl,rfl⟩;obtain⟨l,hl,rfl⟩:=Zs.mp hx;obtain⟨c,_,rfl⟩:=Zs.mp hl;obtain⟨z6,e⟩:=key c y6;refine⟨_,U,⟨some (tupI (chain [] ts m.toNat c)),z6,rfl,rfl⟩,?_⟩;show denSs a0a' G0 [.for_ (.var 6) (.seq (.var 5)) [.ite wr3 [.ret (.lit (.bl false))] []]] [x0,some w,x2,x3,some (.ref k),some (tupI (chain [] ts m.toNat c)),y6,x7] U=_;rw[a0o' e,denSs]) _ 0 [x0,some w,x2,x3,some (.ref k),x5,x6,x7] T (Nat.zero_add _) ⟨x5,x6,rfl,rfl⟩
 refine⟨y5,y6,?_⟩;rw[a6w' (its:=.live (((pcL [] ts m.toNat).map tupI).length+1) (a1t' k)) (S1:=S') (live5 (i:=0) hk (den_v rfl))];exact e
theorem b1p'(O:Some_ m so):Some_ m (so.drop 1):=⟨by rw[List.length_drop];have:=O.len;omega,λp hp=>O.inn p (List.mem_of_mem_drop hp),O.ris.sublist (List.drop_sublist _ _)⟩
theorem pw05(hS:Flat S)(W:Web m ts)(O:Some_ m so):a0f' [webD m ts,tupI so] S=.ok (.ref S.length) (S++[(pcL so ts m.toNat).map tupI]):=by rw[x05_pw,←pcs_L];exact K05.a1R' hS W (by have:=O.len;omega) O.inn O.ris
theorem a1s':lowL 0 ((pcL so ts k).map tupI)=true:=by rw[←pcs_L];exact a7U' _ _ _ _
theorem a7X'(h:k≤8):(pcL so ts k).length≤8:=by have h1:=ZG (own so ts k) (leftI so k);have h2:=ZG (λp=> !so.contains p) (a0e' 0 k);rw[a0d']at h2;unfold pcL heads;rw[Zw];unfold leftI at h1⊢;omega
theorem wr4_no(hU:Flat U)(W:Web m ts)(O:Some_ m so)(hc:c∈heads so ts m.toNat)(h1:ρ[1]?=some (some (webD m ts)))(h5:ρ[5]?=some (some (tupI (chain so ts m.toNat c))))(h7:ρ[7]?=some (some (tupI so))):denT a0a' G0 wr4 ρ U=.ok false (U++[(pcL (so.drop 1) ts m.toNat).map tupI]):=by
 have w2:=W.hi;have hsl:den a0a' G0 (.sl (.var 7) [.lit (.int 1)] []) ρ U=.ok (tupI (so.drop 1)) U:=by rw[den,den_v h7];simp only[Res.bind,denL,lit5,optL,toOpt];show Res.ok (D.tup (cutL (so.map D.int) (some 1) none)) U=_;rw[K05.cut1,←List.map_drop];rfl
 have hpw:=a0W' (a:=.var 1) a0s' (den_v h1) hsl (pw05 hU W (b1p' O));have hl:(chain so ts m.toNat c).length≤1000:=by have:=ZG (λp=>decide (nm (fin so ts m.toNat) p=c)&& !so.contains p) (a0e' 0 m.toNat);rw[a0d']at this;unfold chain;omega
 have hcomp:den a0a' G0 wr4c ρ U=.ok (.lst [.int 1]) (U++[(pcL (so.drop 1) ts m.toNat).map tupI]):=by
  unfold wr4c;have h8:(pcL (so.drop 1) ts m.toNat).length≤8:=a7X' (by omega);refine(a5K' (h:=tupI) (f:=λ_=>D.int 1) (p:=λl=>(chain so ts m.toNat c).all λq=>decide (q∈l)) (r0:=[none,some (tupI (chain so ts m.toNat c))]) hpw boxE (by simp[h5]) (by omega) λl hl' acc ha=>?_).trans ?_
  ·generalize U++[(pcL (so.drop 1) ts m.toNat).map tupI]=T;have ha':acc.length<16777216:=ha;have hi:=left5 (Φ:=a0a') (Γ:=G0) (S:=T) (T:=T) (i:=0) (j:=0) (N:=["_law_one","_law_wide"]) (ρ:=[some (tupI l),some (tupI (chain so ts m.toNat c))]) (l:=chain so ts m.toNat c) (k:=l) (it:=.seq (.var 1)) hl (seq5 (den_v rfl)) rfl
   have ht:denT a0a' G0 (.cmp .Eq wr4i (.lst false [])) [some (tupI l),some (tupI (chain so ts m.toNat c))] T=.ok ((chain so ts m.toNat c).all λq=>decide (q∈l)) T:=by
    unfold wr4i;refine tc5 (S1:=T) hi nil5 ?_;cases e:((chain so ts m.toNat c).filter λq=> !decide (q∈l))with
    |nil=>
     have:((chain so ts m.toNat c).all λq=>decide (q∈l))=true:=ZD.mpr λq hq=>by have:=List.filter_eq_nil_iff.mp e q hq;simpa using this
     rw[this];rfl
    |cons q r=>
     have hq:q∈(chain so ts m.toNat c).filter λq=> !decide (q∈l):=by rw[e];exact Zd
     obtain⟨q1,q2⟩:=ZQ.mp hq;have:((chain so ts m.toNat c).all λq=>decide (q∈l))=false:=by rw[List.all_eq_false];exact⟨q,q1,by simpa using q2⟩
     rw[this];rfl
   generalize tupI (chain so ts m.toNat c)=A at*;generalize tupI l=B at*;cases e:((chain so ts m.toNat c).all λq=>decide (q∈l))<;>rw[e]at ht<;>simp[a0q',isNew,slots,a1h',asgCT,asgVs,denTs,denB,den,Res.bind,ht,ha']
  ·unfold pcL;rw[List.filter_map];have:=b3k' (so:=so) (so':=so.drop 1) (a2E' W) (λx hx=>List.mem_of_mem_drop hx) hc;rw[show(heads (so.drop 1) ts m.toNat).filter ((λl=>(chain so ts m.toNat c).all λq=>decide (q∈l))∘chain (so.drop 1) ts m.toNat)=_ from this];rfl
 unfold wr4;exact tc5 hcomp one5 rfl
end K05
namespace K05
open Pc
theorem a4x'(hS:Flat S)(W:Web m ts):a1K' [webD m ts] S=.ok (.ref S.length) (S++[(pcL [] ts m.toNat).map tupI]):=by rw[b0g',←pcs_L];exact K05.b1i' hS W
theorem wrC(hT:Flat T)(W:Web m ts)(O:Some_ m so){x0 x4:Option D}:∃y5 U,Flat U∧U.take T.length=T∧denS a0a' G0 (.for_ (.var 5) (.seq (.call "pieces_without" [.var 1,.var 7])) [.ite wr4 [.ret (.lit (.bl false))] []]) [x0,some (webD m ts),x2,x3,x4,x5,x6,some (tupI so)] T=.ok (.next [x0,some (webD m ts),x2,x3,x4,y5,x6,some (tupI so)]) U:=by
 have hpw:=pw05 hT W O
 obtain⟨ρ',U,⟨y5,rfl,hU,ht,_⟩,e⟩:=b0h' (step:=λx ρ S=>match asgCT (.var 5) x ρ with
   |some ρ'=>denSs a0a' G0 [.ite wr4 [.ret (.lit (.bl false))] []] ρ' S
   |none=>.fail) (λρ U=>∃y5,ρ=[x0,some (webD m ts),x2,x3,x4,y5,x6,some (tupI so)]∧Flat U∧U.take T.length=T∧U[T.length]?=some ((pcL so ts m.toNat).map tupI)) (k:=T.length) (xs:=(pcL so ts m.toNat).map tupI) (by rintro ρ U ⟨_,_,_,_,h⟩;exact h) (by rintro x hx ρ U ⟨y5,rfl,hU,h1,h2⟩;obtain⟨l,hl,rfl⟩:=Zs.mp hx;obtain⟨c,hc,rfl⟩:=Zs.mp hl;have hlt:=(Zf.mp h2).1;refine⟨_,U++[(pcL (so.drop 1) ts m.toNat).map tupI],⟨some (tupI (chain so ts m.toNat c)),rfl,hU.snoc a1s',by rw[List.take_append_of_le_length (by omega)];exact h1,by rw[Zl hlt];exact h2⟩,?_⟩;show denSs a0a' G0 [.ite wr4 [.ret (.lit (.bl false))] []] [x0,some (webD m ts),x2,x3,x4,some (tupI (chain so ts m.toNat c)),x6,some (tupI so)] U=_;rw[go5 (wr4_no hU W O hc rfl rfl rfl),denSs]) _ 0 [x0,some (webD m ts),x2,x3,x4,x5,x6,some (tupI so)] (T++[(pcL so ts m.toNat).map tupI]) (Nat.zero_add _) ⟨x5,rfl,hT.snoc a1s',by simp,boxE⟩
 refine⟨y5,U,hU,ht,?_⟩;rw[a6w' (its:=.live (((pcL so ts m.toNat).map tupI).length+1) (a1t' T.length)) (S1:=T++[(pcL so ts m.toNat).map tupI]) (live5 (i:=0) boxE (a0W' a0s' (den_v rfl) (den_v rfl) hpw))];exact e
theorem wr_eq(hS:Flat S)(hp:PenAt S n)(W:Web m ts):∃S',Drawn n S S'∧a0U' [.ref n,webD m ts] S=.ok (.bl true) S':=by
 have hpi:=a4x' hS W;obtain⟨so,T,O,dT,hso⟩:=K05.some_eq (S:=S++[(pcL [] ts m.toNat).map tupI]) (hS.snoc a1s') (a5J' hp) W.lo W.hi;obtain⟨S',dS,rfl⟩:=b0f' (pen_lt hp) dT;have hS':=dS.flat hS;have hl:=dS.len;obtain⟨y2,y3,e1⟩:=wrA hS W (x0:=some (.ref n)) (x2:=none) (x3:=none) (x4:=none) (x5:=none) (x6:=none) (x7:=none);obtain⟨y5,y6,e2⟩:=wrB (T:=S++[(pcL [] ts m.toNat).map tupI]) (hS.snoc a1s') W (k:=S.length) boxE (x0:=some (.ref n)) (x2:=y2) (x3:=y3) (x5:=none) (x6:=none) (x7:=none);obtain⟨z5,U,hU,ht,e3⟩:=wrC (T:=S'++[(pcL [] ts m.toNat).map tupI]) (hS'.snoc a1s') W O (x0:=some (.ref n)) (x2:=y2) (x3:=y3) (x4:=some (.ref S.length)) (x5:=y5) (x6:=y6);refine⟨S',dS,?_⟩
 have hd:denSs a0a' G0 a0G' [some (.ref n),some (webD m ts),none,none,none,none,none,none] S=.ok (.ret (.bl true)) U:=by rw[c_wr_is,a0o' e1,a1o' (a0V' a1T' (den_v rfl) hpi)];simp only[Zy,Zx];rw[go5 (wr2_no W rfl rfl boxE),a0o' e2,a1o' (a0W' a1F' (den_v rfl) (many5 rfl) (by rw[b3o'];exact hso))];simp only[Zy,Zx];rw[a0o' (show denS _ _ _ [some (.ref n),some (webD m ts),y2,y3,some (.ref S.length),y5,y6,some (.tup (so.map D.int))] _=_ from e3)];simp only[denSs,denS,den,Res.bind]
 show runD a0a' G0 a0G' a1w'.length 2 [.ref n,webD m ts] S=_;unfold runD;rw[if_pos (show [D.ref n,webD m ts].length=2 from rfl)];rw[show denSs a0a' G0 a0G' ([D.ref n,webD m ts].map some++List.replicate (a1w'.length-2) none) S=_ from hd]
 have hk:U.take S.length=S':=by
  have e4:(S'++[(pcL [] ts m.toNat).map tupI]).take S.length=S':=by rw[List.take_append_of_le_length (by omega),List.take_of_length_le (by omega)]
  have e5:(U.take (S'++[(pcL [] ts m.toNat).map tupI]).length).take S.length=U.take S.length:=by rw[List.take_take,Nat.min_eq_left (by rw[Zt];omega)]
  rw[←e5,ht,e4]
 have:=K05.a3O' (k:=S.length) (d:=.bl true) (S':=U) (by rw[hk];exact hS') rfl;rw[hk]at this;exact this
end K05
namespace K05
open Pc
theorem x05_inf:a0g'=K05.a0g':=rfl
section
variable {n a b:Int}
theorem count_ok(hS:Flat S)(h1:lo≤n)(h2:n≤8):a0i' [.int n,.int lo] S=.ok .non S:=by have h:=K05.a0R' hS n lo 8;rw[←x05_inf,ZI ⟨h1,h2⟩]at h;refine a5B' rfl (ρ:=[some (.int n),some (.int lo)]) ?_ rfl hS;simp[a2J',a2I',denSs,denS,denT,den,denL,Res.bind,a0X',h,truD,show G0 "MOST_PLACES"=some (.int 8)from rfl]
def rowI(n:Nat):Lq:=(a0e' 0 (n-1)).map λk=>(k,k+1)
noncomputable def sidI(a b:Nat):Lq:=(a0e' 0 a).flatMap λi=>(a0e' a b).map λj=>(i,j)
theorem row_eq(hS:Flat S)(h1:1≤n)(h2:n≤8):f_row [.int n] S=.ok (webD n (rowI n.toNat)) S:=by refine a0D' rfl ?_ rfl hS (a4l' _ _);have hc:=count_ok hS h1 h2;refine(a0o' (ρ':=[some (.int n)]) (S':=S) (by simp[n_row,denS,den,denL,Res.bind,a2Q',hc])).trans ?_;rcases eight h1 h2 with rfl|rfl|rfl|rfl|rfl|rfl|rfl|rfl<;>rfl
theorem full_eq(hS:Flat S)(h1:1≤n)(h2:n≤8):b0X' [.int n] S=.ok (webD n (a2D' n.toNat)) S:=by refine a0D' rfl ?_ rfl hS (a4l' _ _);have hc:=count_ok hS h1 h2;refine(a0o' (ρ':=[some (.int n)]) (S':=S) (by simp[n_full,denS,den,denL,Res.bind,a2A',hc])).trans ?_;rcases eight h1 h2 with rfl|rfl|rfl|rfl|rfl|rfl|rfl|rfl<;>rfl
theorem ring_eq(hS:Flat S)(h1:3≤n)(h2:n≤8):b0W' [.int n] S=.ok (webD n (sortI (ringI n.toNat))) S:=by
 refine a0D' rfl ?_ rfl hS (a4l' _ _);have hc:=count_ok hS h1 h2;have hr:=row_eq hS (show 1≤n by omega) h2;refine(a0o' (ρ':=[some (.int n),none,none]) (S':=S) (by simp[n_ring,denS,den,denL,Res.bind,a2z',hc])).trans ?_;refine(a0o' (ρ':=[some (.int n),some (.int n),some (.tup (tiesD (rowI n.toNat)))]) (S':=S) ?_).trans ?_
 ·rw[denS,a0V' a8m' (den_v rfl) hr];rfl
 ·have:n=3∨n=4∨n=5∨n=6∨n=7∨n=8:=by omega
  rcases this with rfl|rfl|rfl|rfl|rfl|rfl<;>rfl
theorem b3q'(hS:Flat S)(h1:1≤n)(h2:n<8):a2r' [.int n,.int (8-n)] S=.ok (webD 8 (sidI n.toNat (8-n).toNat)) S:=by
 refine a0D' rfl ?_ rfl hS (a4l' _ _);have hc:=count_ok hS h1 (show n≤8 by omega);have hd:=count_ok hS (n:=8-n) (lo:=1) (by omega) (by omega);refine(a0o' (ρ':=[some (.int n),some (.int (8-n)),none]) (S':=S) (by simp[a4R',denS,den,denL,Res.bind,a0F',hc])).trans ?_;refine(a0o' (ρ':=[some (.int n),some (.int (8-n)),none]) (S':=S) (by simp[denS,den,denL,Res.bind,a0F',hd])).trans ?_;have:n=1∨n=2∨n=3∨n=4∨n=5∨n=6∨n=7:=by omega
 rcases this with rfl|rfl|rfl|rfl|rfl|rfl|rfl<;>rfl
theorem b1V'(h1:1≤n)(h2:n≤8):Web n (rowI n.toNat):=by rcases eight h1 h2 with rfl|rfl|rfl|rfl|rfl|rfl|rfl|rfl<;>exact⟨by decide,by decide,by decide+kernel,by decide+kernel,by decide+kernel⟩
theorem b3r'(h1:3≤n)(h2:n≤8):Web n (sortI (ringI n.toNat)):=by
 have:n=3∨n=4∨n=5∨n=6∨n=7∨n=8:=by omega
 rcases this with rfl|rfl|rfl|rfl|rfl|rfl<;>exact⟨by decide,by decide,by decide+kernel,by decide+kernel,by decide+kernel⟩
theorem sides_web(h1:1≤n)(h2:n<8):Web 8 (sidI n.toNat (8-n).toNat):=by
 have:n=1∨n=2∨n=3∨n=4∨n=5∨n=6∨n=7:=by omega
 rcases this with rfl|rfl|rfl|rfl|rfl|rfl|rfl<;>exact⟨by decide,by decide,by decide+kernel,by decide+kernel,by decide+kernel⟩
theorem row_one(h1:1≤n)(h2:n≤8):(pcL [] (rowI n.toNat) n.toNat).length=1:=by rcases eight h1 h2 with rfl|rfl|rfl|rfl|rfl|rfl|rfl|rfl<;>decide+kernel
theorem b3s'(h1:1≤n)(h2:n≤8):(pcL [] (a2D' n.toNat) n.toNat).length=1:=by rcases eight h1 h2 with rfl|rfl|rfl|rfl|rfl|rfl|rfl|rfl<;>decide+kernel
theorem row_two(h1:3≤n)(h2:n≤8):(pcL [1] (rowI n.toNat) n.toNat).length=2:=by
 have:n=3∨n=4∨n=5∨n=6∨n=7∨n=8:=by omega
 rcases this with rfl|rfl|rfl|rfl|rfl|rfl<;>decide+kernel
theorem b3t'(h1:3≤n)(h2:n≤8):(pcL [n-1] (sortI (ringI n.toNat)) n.toNat).length=1:=by
 have:n=3∨n=4∨n=5∨n=6∨n=7∨n=8:=by omega
 rcases this with rfl|rfl|rfl|rfl|rfl|rfl<;>decide+kernel
theorem b3u'(h1:3≤n)(h2:n≤8):(pcL [0] (a2D' n.toNat) n.toNat).length=1:=by
 have:n=3∨n=4∨n=5∨n=6∨n=7∨n=8:=by omega
 rcases this with rfl|rfl|rfl|rfl|rfl|rfl<;>decide+kernel
theorem b1q'(h1:1≤n)(h2:n<8):((pcL [0] (sidI n.toNat (8-n).toNat) 8).length:Int)=if n=1 then 7 else 1:=by
 have:n=1∨n=2∨n=3∨n=4∨n=5∨n=6∨n=7:=by omega
 rcases this with rfl|rfl|rfl|rfl|rfl|rfl|rfl<;>decide+kernel
end
end K05
namespace K05
open Pc
theorem x05_pen:a2s'=K05.a2s':=rfl
theorem b3v':a1E'=K05.a1E':=rfl
theorem b1W':a1L'=K05.a1L':=rfl
theorem x05_bes:a3p'=K05.a3p':=rfl
theorem x05_is:a2d'=K05.a2d':=rfl
section
variable {us:Lq}{n a b:Int}{e f:CE}
theorem len5(hS:Flat S)(W:Web m ts)(h:den t_law G0 e ρ S=.ok (webD m ts) S):den t_law G0 (.blt .len [.call "pieces" [e]]) ρ S=.ok (.int ((pcL [] ts m.toNat).length:Nat)) (S++[(pcL [] ts m.toNat).map tupI]):=by refine a0P' (a0V' a1q' h (a4x' hS W)) ?_;simp only[bltD,lenD,seqOf,boxE,Zw]
theorem lenW5(hS:Flat S)(W:Web m ts)(O:Some_ m so)(h:den t_law G0 e ρ S=.ok (webD m ts) S)(h2:den t_law G0 f ρ S=.ok (tupI so) S):den t_law G0 (.blt .len [.call "pieces_without" [e,f]]) ρ S=.ok (.int ((pcL so ts m.toNat).length:Nat)) (S++[(pcL so ts m.toNat).map tupI]):=by refine a0P' (a0W' a2C' h h2 (pw05 hS W O)) ?_;simp only[bltD,lenD,seqOf,boxE,Zw]
theorem a5L'(h0:0≤n)(h1:n<m):Some_ m [n]:=⟨by simp,λp hp=>by rw[List.mem_singleton.mp hp];exact⟨h0,h1⟩,List.pairwise_singleton _ _⟩
theorem neI{i j:Int}(h:i=j):cmpD .NotEq (.int i) (.int j) T=.ok (.bl false) T:=by subst h;have:cmpD .NotEq (.int i) (.int i) T=.ok (.bl (!(i==i))) T:=rfl;rw[this,beq_self_eq_true];rfl
theorem rowE(hS:Flat S)(h8:ρ[8]?=some (some (.int n)))(h1:1≤n)(h2:n≤8):den t_law G0 (.call "row" [.var 8]) ρ S=.ok (webD n (rowI n.toNat)) S:=a0V' a9M' (den_v h8) (row_eq hS h1 h2)
theorem fullE(hS:Flat S)(h8:ρ[8]?=some (some (.int n)))(h1:1≤n)(h2:n≤8):den t_law G0 (.call "full" [.var 8]) ρ S=.ok (webD n (a2D' n.toNat)) S:=a0V' a8o' (den_v h8) (full_eq hS h1 h2)
theorem q1_no(hS:Flat S)(h8:ρ[8]?=some (some (.int n)))(h1:1≤n)(h2:n≤8):∃T,Flat T∧denT t_law G0 q1 ρ S=.ok false T:=by have a1:=len5 hS (b1V' h1 h2) (rowE hS h8 h1 h2);have hT:Flat (S++[(pcL [] (rowI n.toNat) n.toNat).map tupI]):=hS.snoc a1s';have a2:=len5 hT (a3Q' h1 h2) (fullE hT h8 h1 h2);exact⟨_,hT.snoc a1s',or5 (tc5 a1 lit5 (neI (by rw[row_one h1 h2];rfl))) (tc5 a2 lit5 (neI (by rw[b3s' h1 h2];rfl)))⟩
theorem qG_is(h8:ρ[8]?=some (some (.int n))):denT t_law G0 qG ρ S=.ok (decide (n>2)) S:=tc5 (den_v h8) lit5 rfl
theorem tupE(h:den t_law G0 e ρ S=.ok (.int n) S):den t_law G0 (.tup [e]) ρ S=.ok (tupI [n]) S:=by simp only[den,denL,h,Res.bind];rfl
theorem three{P:CE}(hS:Flat S)(h8:ρ[8]?=some (some (.int n)))(h:3≤n→∃T,Flat T∧denT t_law G0 P ρ S=.ok false T):∃T,Flat T∧denT t_law G0 (.band qG P) ρ S=.ok false T:=by
 by_cases hn:3≤n
 ·obtain⟨T,hT,e⟩:=h hn;refine⟨T,hT,an5 ?_ e⟩;rw[qG_is h8,ZI (show n>2 by omega)]
 ·refine⟨S,hS,an0 ?_⟩;rw[qG_is h8,ZC (show ¬n>2 by omega)]
theorem q2_no(hS:Flat S)(h8:ρ[8]?=some (some (.int n)))(h2:n≤8):∃T,Flat T∧denT t_law G0 q2 ρ S=.ok false T:=three hS h8 λh1=>
 ⟨_,hS.snoc a1s',tc5 (lenW5 hS (b1V' (by omega) h2) (a5L' (by omega) (by omega)) (rowE hS h8 (by omega) h2) (tupE lit5)) lit5 (neI (by rw[row_two h1 h2];rfl))⟩
theorem q3_no(hS:Flat S)(h8:ρ[8]?=some (some (.int n)))(h2:n≤8):∃T,Flat T∧denT t_law G0 q3 ρ S=.ok false T:=three hS h8 λh1=>
 ⟨_,hS.snoc a1s',tc5 (lenW5 hS (b3r' h1 h2) (a5L' (n:=n-1) (by omega) (by omega)) (a0V' a8p' (den_v h8) (ring_eq hS h1 h2)) (tupE (op5 (den_v h8) lit5 rfl))) lit5 (neI (by rw[b3t' h1 h2];rfl))⟩
theorem q4_no(hS:Flat S)(h8:ρ[8]?=some (some (.int n)))(h2:n≤8):∃T,Flat T∧denT t_law G0 q4 ρ S=.ok false T:=three hS h8 λh1=>
 ⟨_,hS.snoc a1s',tc5 (lenW5 hS (a3Q' (by omega) h2) (a5L' (by omega) (by omega)) (fullE hS h8 (by omega) h2) (tupE lit5)) lit5 (neI (by rw[b3u' h1 h2];rfl))⟩
theorem q5_no(hS:Flat S)(h8:ρ[8]?=some (some (.int n)))(h1:1≤n)(h2:n≤8):∃T,Flat T∧denT t_law G0 q5 ρ S=.ok false T:=by
 have hc:denT t_law G0 (.cmp .Lt (.var 8) (.lit (.int 8))) ρ S=.ok (decide (n<8)) S:=tc5 (den_v h8) lit5 rfl;by_cases hn:n<8
 ·have hw:=sides_web h1 hn;have he:den t_law G0 (.call "sides_web" [.var 8,.bin .Sub (.lit (.int 8)) (.var 8)]) ρ S=.ok (webD 8 (sidI n.toNat (8-n).toNat)) S:=a0W' a4i' (den_v h8) (op5 lit5 (den_v h8) rfl) (b3q' hS h1 hn);have h3:=lenW5 hS hw (a5L' (m:=8) (n:=0) (by omega) (by omega)) he (tupE lit5);rw[ZI hn]at hc
  have hi:∀T:Store,den t_law G0 q5i ρ T=.ok (.int (if n=1 then 7 else 1)) T:=λT=>by
   have hx:den t_law G0 (.cmp .Eq (.var 8) (.lit (.int 1))) ρ T=.ok (.bl (n==1)) T:=cm5 (den_v h8) lit5 rfl;unfold q5i;refine idx5 (S1:=T) (d:=.lst [.int 1,.int 7]) (by simp only[den,denL,Res.bind,Zo,ZR]) (a0P' (r:=.int (if n=1 then 1 else 0)) hx ?_) ?_
   ·by_cases hn:n=1
    ·subst hn;rfl
    ·rw[beq_false_of_ne hn,if_neg hn];rfl
   ·by_cases hn:n=1
    ·rw[if_pos hn,if_pos hn];rfl
    ·rw[if_neg hn,if_neg hn];rfl
  exact⟨_,hS.snoc a1s',an5 hc (tc5 h3 (hi _) (neI (b1q' h1 hn)))⟩
 ·rw[ZC hn]at hc;exact⟨S,hS,an0 hc⟩
theorem lB_ok(hS:Flat S)(h8:ρ[8]?=some (some (.int n)))(h1:1≤n)(h2:n≤8):∃T,Flat T∧denSs t_law G0 lB ρ S=.ok (.next ρ) T:=by obtain⟨S1,f1,e1⟩:=q1_no hS h8 h1 h2;obtain⟨S2,f2,e2⟩:=q2_no f1 h8 h2;obtain⟨S3,f3,e3⟩:=q3_no f2 h8 h2;obtain⟨S4,f4,e4⟩:=q4_no f3 h8 h2;obtain⟨S5,f5,e5⟩:=q5_no f4 h8 h1 h2;refine⟨S5,f5,?_⟩;unfold lB;rw[go5 e1,go5 e2,go5 e3,go5 e4,go5 e5,denSs]
end
end K05
namespace K05
open Pc
theorem b3w':c_law=[.for_ (.var 1) lI lA,.for_ (.var 8) (.range [.lit (.int 1),.lit (.int 9)]) lB,.ret (.lit (.bl true))]:=rfl
section
variable {us:Lq}{a b:Int}
theorem cells05(hS:Flat S)(hl:ns.length≤63)(h0:ρ[0]?=some (some (.scr (ns.map D.int)))):∃cs:Li,denI t_law G0 lI ρ S=.ok (.items (cs.map D.int)) S:=by
 obtain⟨c,ec⟩:=K05.cell_eq hS ns;rw[←b3v']at ec;obtain⟨cs,hc,hcl⟩:∃cs:Li,cutL (ns.map D.int) (some 1) (some 6)=cs.map D.int∧cs.length≤63:=by refine⟨(ns.drop _).take _,by unfold cutL;rw[←List.map_drop,←List.map_take],?_⟩;simp;omega
 refine⟨c::cs,?_⟩;have h1:slD (.scr (ns.map D.int)) (some 1) (some 6) S=.ok (.lst (cs.map D.int)) S:=by rw[←hc];rfl
 have h2:addD (.lst [.int c]) (.lst (cs.map D.int)) S=.ok (.lst ([.int c]++cs.map D.int)) S:=by show(if 1+(cs.map D.int).length≤big then Res.ok (D.lst ([.int c]++cs.map D.int)) S else .fail)=_;rw[if_pos (by unfold big;simp;omega)]
 unfold lI;simp[denI,den,denL,Res.bind,Res.noErr,a4A',h0,ec,optL,toOpt,h1,opD,h2,a1y']
theorem mv_eq(hS:Flat S)(V:Web b us)(h3:ρ[3]?=some (some (webD a ts)))(h4:ρ[4]?=some (some (webD b us))):den t_law G0 mvC ρ S=.ok (.lst (((pcL [] us b.toNat).map (List.map (a+ ·))).map tupI)) (S++[(pcL [] us b.toNat).map tupI]):=by
 have w2:=V.hi;have h8:(pcL [] us b.toNat).length≤8:=a7X' (by omega);unfold mvC;refine(a5K' (h:=tupI) (f:=λl=>tupI (l.map (a+ ·))) (p:=λ_=>true) (r0:=[none,some (webD a ts)]) (a0V' a1q' (den_v h4) (a4x' hS V)) boxE (by simp[h3]) (by omega) λl hl acc ha=>?_).trans ?_
 ·generalize S++[(pcL [] us b.toNat).map tupI]=T;have ha':acc.length<16777216:=ha;obtain⟨c,_,rfl⟩:=Zs.mp hl
  have hll:(chain [] us b.toNat c).length≤1000:=by have:=ZG (λp=>decide (nm (fin [] us b.toNat) p=c)&& !([]:Li).contains p) (a0e' 0 b.toNat);rw[a0d']at this;unfold chain;omega
  generalize chain [] us b.toNat c=l at hll
  have hi:den t_law G0 mvI [some (tupI l),some (webD a ts)] T=.ok (.lst ((l.map (a+ ·)).map D.int)) T:=by
   unfold mvI;refine(a6G' (h:=D.int) (f:=λx=>D.int (a+x)) (p:=λ_=>true) (r0:=[none,some (webD a ts)]) (seq5 (den_v rfl)) rfl hll λx hx acc ha=>?_).trans ?_
   ·have ha':acc.length<16777216:=ha;have e1:den t_law G0 (.bin .Add (.idx (.var 1) (.lit (.int 0))) (.var 0)) [some (.int x),some (webD a ts)] T=.ok (.int (a+x)) T:=op5 (many5 rfl) (den_v rfl) rfl;generalize webD a ts=w at e1;simp[a0q',isNew,slots,a1h',asgCT,asgVs,denTs,denB,Res.bind,e1,ha']
   ·rw[List.filter_eq_self.mpr λ_ _=>rfl,List.map_map];rfl
  have hb:den t_law G0 (.blt .tuple [mvI]) [some (tupI l),some (webD a ts)] T=.ok (tupI (l.map (a+ ·))) T:=a0P' hi rfl;generalize webD a ts=w at hb;generalize tupI l=B at hb;simp[a0q',isNew,slots,a1h',asgCT,asgVs,denTs,denB,Res.bind,hb,ha']
 ·rw[List.filter_eq_self.mpr λ_ _=>rfl,List.map_map];rfl
theorem b0i'(k:Nat):∀l:Li,allO (List.zipWith (eqF T (k+1)) (l.map D.int) (l.map D.int))=some true
 | []=>rfl
 |x::l=>by rw[ZK,List.zipWith_cons_cons,K05.a6u'];simp only[allO,b0i' k l,beq_self_eq_true];rfl
theorem eq_tup5(k:Nat)(l:Li):eqF T (k+2) (tupI l) (tupI l)=some true:=by have e:eqF T (k+2) (tupI l) (tupI l)=(allO (List.zipWith (eqF T (k+1)) (l.map D.int) (l.map D.int))).map (· &&(l.map D.int).length==(l.map D.int).length):=rfl;rw[e,b0i',beq_self_eq_true];rfl
theorem b0j'(k:Nat):∀L:List (Li),allO (List.zipWith (eqF T (k+2)) (L.map tupI) (L.map tupI))=some true
 | []=>rfl
 |l::L=>by rw[ZK,List.zipWith_cons_cons,eq_tup5];simp only[allO,b0j' k L];rfl
theorem ne_rows{L:List (Li)}(hk:T[k]?=some (L.map tupI)):cmpD .NotEq (.ref k) (.lst (L.map tupI)) T=.ok (.bl false) T:=by
 have e:cmpD .NotEq (.ref k) (.lst (L.map tupI)) T=boolR ((match(T[k]?).map Sh.lst,some (Sh.lst (L.map tupI))with
   |some x,some y=>eqS (eqF T 39) x y
   |_,_=>none).map not) T:=rfl
 have e2:eqS (eqF T 39) (.lst (L.map tupI)) (.lst (L.map tupI))=if(L.map tupI).length=(L.map tupI).length then allO (List.zipWith (eqF T 39) (L.map tupI) (L.map tupI))else some false:=rfl;rw[e,hk];dsimp only[Option.map_some];rw[e2,if_pos rfl,b0j' 37 L];rfl
theorem add_ref{p q:List D}(hk:T[k]?=some p)(h:p.length+q.length≤1000):opD .Add (.ref k) (.lst q) T=.ok (.lst (p++q)) T:=by
 have e1:opD .Add (.ref k) (.lst q) T=if p.length+q.length≤big then .ok (.lst (p++q)) T else .fail:=by simp only[opD,addD,Py.a3j',hk]
 rw[e1,if_pos (by show _≤16777216;omega)]
theorem body05{s0:D}(c:Int){x1 x4 x7 x8:Option D}(hS:Flat S):∃y2 y3 y4 y5 y6 y7 T,Flat T∧denSs t_law G0 lA [some s0,some (.int c),x2,x3,x4,x5,x6,x7,x8] S=.ok (.next [some s0,some (.int c),y2,y3,y4,y5,y6,y7,x8]) T:=by
 obtain⟨p,ep⟩:=K05.pen_eq hS c;rw[←x05_pen]at ep;have hS0:Flat (S++[[.int c,.int p]]):=hS.snoc rfl;have hp0:PenAt (S++[[.int c,.int p]]) S.length:=⟨c,p,boxE⟩;generalize hn:S.length=n at ep hp0;generalize S++[[D.int c,D.int p]]=S0 at ep hp0 hS0;obtain⟨a,ha4,ts,S1,W,d1,e1⟩:=K05.b0e' hS0 hp0;obtain⟨b,hb4,us,S2,V,d2,e2⟩:=K05.b0e' (d1.flat hS0) (d1.pen hp0);obtain⟨m,vs,S3,Z,d3,e3⟩:=K05.web_eq (d2.flat (d1.flat hS0)) (d2.pen (d1.pen hp0));have f3:=d3.flat (d2.flat (d1.flat hS0));have p3:=d3.pen (d2.pen (d1.pen hp0));rw[←b1W']at e1 e2;rw[←b1W']at e3;have hab:a+b≤8:=by omega
 have hB:=b1T' W V hab;have eb:=b1n' f3 W V hab;rw[←x05_bes]at eb;have f4:Flat (S3++[(pcL [] us b.toNat).map tupI]):=f3.snoc a1s';have p4:PenAt (S3++[(pcL [] us b.toNat).map tupI]) n:=a5J' p3;have emv:=mv_eq (ρ:=[some s0,some (.int c),some (.ref n),some (webD a ts),some (webD b us),some (webD m vs),some (webD (a+b) (besI a ts us)),x7,x8]) (a:=a) (ts:=ts) f3 V rfl rfl;generalize S3++[(pcL [] us b.toNat).map tupI]=S4 at f4 p4 emv;have eis:=K05.a5b' f4 hB;rw[←x05_is]at eis;have ep1:=a4x' f4 hB;have f5:Flat (S4++[(pcL [] (besI a ts us) (a+b).toNat).map tupI]):=f4.snoc a1s';have p5:PenAt (S4++[(pcL [] (besI a ts us) (a+b).toNat).map tupI]) n:=a5J' p4;have ep2:=a4x' f5 W;have f6:Flat (S4++[(pcL [] (besI a ts us) (a+b).toNat).map tupI]++[(pcL [] ts a.toNat).map tupI]):=f5.snoc a1s';have p6:PenAt (S4++[(pcL [] (besI a ts us) (a+b).toNat).map tupI]++[(pcL [] ts a.toNat).map tupI]) n:=a5J' p5;obtain⟨S7,d7,e7⟩:=wr_eq f6 p6 Z;obtain⟨S8,d8,e8⟩:=wr_eq (d7.flat f6) (d7.pen p6) hB;have h4b:(pcL [] us b.toNat).length≤8:=a7X' (by have:=V.hi;omega);have h4a:(pcL [] ts a.toNat).length≤8:=a7X' (by have:=W.hi;omega);refine⟨some (.ref n),some (webD a ts),some (webD b us),some (webD m vs),some (webD (a+b) (besI a ts us)),some (.lst (((pcL [] us b.toNat).map (List.map (a+ ·))).map tupI)),S8,d8.flat (d7.flat f6),?_⟩;unfold lA;rw[a1o' (a0V' a5y' (den_v rfl) ep)];simp only[Zy,Zx]
 have hL:den t_law G0 lwE [some s0,some (.int c),some (.ref n),x3,x4,x5,x6,x7,x8] S0=.ok (.tup [webD a ts,webD b us,webD m vs]) S3:=by have c1:den t_law G0 (.call "_law_web" [.var 2,.lit (.int 4)]) [some s0,some (.int c),some (.ref n),x3,x4,x5,x6,x7,x8] S0=.ok (webD a ts) S1:=a0W' a1M' (den_v rfl) lit5 e1;have c2:den t_law G0 (.call "_law_web" [.var 2,.lit (.int 4)]) [some s0,some (.int c),some (.ref n),x3,x4,x5,x6,x7,x8] S1=.ok (webD b us) S2:=a0W' a1M' (den_v rfl) lit5 e2;have c3:den t_law G0 (.call "_law_web" [.var 2,.lit (.int 8)]) [some s0,some (.int c),some (.ref n),x3,x4,x5,x6,x7,x8] S2=.ok (webD m vs) S3:=a0W' a1M' (den_v rfl) lit5 e3;unfold lwE;rw[den];simp only[denL,c1,c2,c3,Res.bind]
 refine(a0o' (ρ':=[some s0,some (.int c),some (.ref n),some (webD a ts),some (webD b us),some (webD m vs),x6,x7,x8]) (S':=S3) (by rw[denS,hL];rfl)).trans ?_;rw[a1o' (a0W' a6p' (den_v rfl) (den_v rfl) eb)];simp only[Zy,Zx];rw[a1o' emv];simp only[Zy,Zx];have hc1:denT t_law G0 lC1 [some s0,some (.int c),some (.ref n),some (webD a ts),some (webD b us),some (webD m vs),some (webD (a+b) (besI a ts us)),some (.lst (((pcL [] us b.toNat).map (List.map (a+ ·))).map tupI)),x8] S4=.ok false S7:=by unfold lC1;refine or5 (not5 (tcall1 a6q' (den_v rfl) eis)) (or5 (S1:=S4++[(pcL [] (besI a ts us) (a+b).toNat).map tupI]++[(pcL [] ts a.toNat).map tupI]) ?_ (not5 (tcall2 a1j' (den_v rfl) (den_v rfl) e7)));refine tc5 (a0V' a1q' (den_v rfl) ep1) (op5 (a0V' a1q' (den_v rfl) ep2) (den_v rfl) (add_ref boxE (by rw[Zw,Zw,Zw];omega))) ?_;rw[←List.map_append,←pcL_bes W V hab];refine ne_rows ?_;rw[Zl (by simp)];exact boxE
 have hc2:denT t_law G0 lC2 [some s0,some (.int c),some (.ref n),some (webD a ts),some (webD b us),some (webD m vs),some (webD (a+b) (besI a ts us)),some (.lst (((pcL [] us b.toNat).map (List.map (a+ ·))).map tupI)),x8] S7=.ok false S8:=by unfold lC2;exact not5 (tcall2 a1j' (den_v rfl) (den_v rfl) e8)
 rw[go5 hc1,go5 hc2,denSs]
theorem good(ns:Li)(hl:ns.length≤63):∃S',f_law [.scr (ns.map D.int)] []=.ok (.bl true) S':=by
 have hN:Flat ([]:Store):=Flat.nil;obtain⟨cs,hcs⟩:=cells05 (ρ:=[some (.scr (ns.map D.int)),none,none,none,none,none,none,none,none]) hN hl rfl
 obtain⟨ρ',T,⟨x1,x2,x3,x4,x5,x6,x7,x8,rfl,hT⟩,e1⟩:=a3u' (step:=λx ρ S=>match asgCT (.var 1) x ρ with
   |some ρ'=>denSs t_law G0 lA ρ' S
   |none=>.fail) (λρ S=>∃x1 x2 x3 x4 x5 x6 x7 x8,ρ=[some (.scr (ns.map D.int)),x1,x2,x3,x4,x5,x6,x7,x8]∧Flat S) (cs.map D.int) (by rintro x hx ρ S ⟨x1,x2,x3,x4,x5,x6,x7,x8,rfl,hS⟩;obtain⟨c,_,rfl⟩:=Zs.mp hx;obtain⟨y2,y3,y4,y5,y6,y7,T,hT,e⟩:=body05 (s0:=.scr (ns.map D.int)) c hS (x1:=x1) (x2:=x2) (x3:=x3) (x4:=x4) (x5:=x5) (x6:=x6) (x7:=x7) (x8:=x8);exact⟨_,T,⟨some (.int c),y2,y3,y4,y5,y6,y7,x8,rfl,hT⟩,e⟩) [some (.scr (ns.map D.int)),none,none,none,none,none,none,none,none] [] ⟨_,_,_,_,_,_,_,_,rfl,hN⟩
 obtain⟨ρ',U,⟨y8,rfl,hU⟩,e2⟩:=a3u' (step:=λx ρ S=>match asgCT (.var 8) x ρ with
   |some ρ'=>denSs t_law G0 lB ρ' S
   |none=>.fail) (λρ S=>∃x8,ρ=[some (.scr (ns.map D.int)),x1,x2,x3,x4,x5,x6,x7,x8]∧Flat S) ((a0e' 1 8).map D.int) (by rintro x hx ρ S ⟨x8,rfl,hS⟩;obtain⟨c,hc,rfl⟩:=Zs.mp hx;have hc:=a0p'.mp hc;obtain⟨T,hT,e⟩:=lB_ok (ρ:=[some (.scr (ns.map D.int)),x1,x2,x3,x4,x5,x6,x7,some (.int c)]) (n:=c) hS rfl (by omega) (by omega);exact⟨_,T,⟨some (.int c),rfl,hT⟩,e⟩) [some (.scr (ns.map D.int)),x1,x2,x3,x4,x5,x6,x7,x8] T ⟨x8,rfl,hT⟩
 have hd:denSs t_law G0 c_law [some (.scr (ns.map D.int)),none,none,none,none,none,none,none,none] []=.ok (.ret (.bl true)) U:=by rw[b3w'];refine(a0o' (ρ':=[some (.scr (ns.map D.int)),x1,x2,x3,x4,x5,x6,x7,x8]) (S':=T) (by rw[a6w' hcs];exact e1)).trans ?_;refine(a0o' (ρ':=[some (.scr (ns.map D.int)),x1,x2,x3,x4,x5,x6,x7,y8]) (S':=U) (by rw[a6w' (its:=.items ((a0e' 1 8).map D.int)) (S1:=T) rfl];exact e2)).trans ?_;simp only[denSs,denS,den,Res.bind]
 refine⟨[],?_⟩;show runD t_law G0 c_law n_law.length 1 [.scr (ns.map D.int)] []=_;unfold runD;rw[if_pos (show [D.scr (ns.map D.int)].length=1 from rfl)];rw[show denSs t_law G0 c_law ([D.scr (ns.map D.int)].map some++List.replicate (n_law.length-1) none) []=_ from hd];exact K05.a3O' (k:=0) (d:=.bl true) (S':=U) (by rw[List.take_zero];exact hN) rfl
end
end K05
section
namespace K05
theorem walk{l:PySem.W.OpenLaw}{q:Program}{d:DefRec}{K:Params→Fg}(hn:l.most=some 63)(hdf:d.params.defaults=[])
  (hY:∀(w:World) (h:Heap),YP w h→(K w.params).In h)
  (F:∀(w:World) (mg:Mg) (fa:Addr) (h:Heap),(K w.params).In h→h.Ns mainGlobals mg→mg d.name=some (.ref fa)→
   ∃fd:FuncData,(∀(s:Shared) (u:Value),BindsTo s fd ⟨[u],[]⟩ [("_law_script",u)])∧∀base:Heap,(K w.params).In base→base.Ns mainGlobals mg→FnOk l.prog w (K w.params) mg base CX0 11 fa fd ["_law_script"] (spLaw (K w.params))):
  PySem.W.WalkO q loose XP YP l.row.toRowW d [] (λf vs=>PySem.call f vs):=
 L2.walk_of (n:=63) (k:=11) (x:="_law_script") (CX:=λ_=>CX0) (sp:=λw=>spLaw (K w.params)) hn (by decide) hdf ⟨rfl,by decide,by decide,rfl⟩ hY F (λ_ _ a ns hl hO hS=>⟨a,ns,rfl,hO,hS,hl,λ_=>rfl⟩) λ_ _ _ _ _ z=>z
end K05
namespace PySem.W.Fast
def tw2186237196644705889:=Nat
def tw12044688043459180838:=Nat
def tw6923647632402076138:=Nat
def tw2723073010471533483:=Nat
def tw17181576065905522902:=Nat
def tw3605664731370453316:=Nat
def tw6333118408710409842:=Nat
def tw17941793388635282593:=Nat
def tw4773466631706629929:=Nat
def tw6483867674727402331:=Nat
def tw7550880387301963162:=Nat
def tw16404624653860268968:=Nat
def tw4968955595754001225:=Nat
def tw3884397128488764173:=Nat
def tw9742415699864319566:=Nat
def tw13888457764059392258:=Nat
def tw13895721881551278592:=Nat
def tw15505815205601009319:=Nat
def tw14298972743103384016:=Nat
def tw13750207762032145325:=Nat
def tw16826197545066280188:=Nat
def tw1424676876353129240:=Nat
def tw17893087067877304209:=Nat
def tw17232425994685976274:=Nat
def tw17137011743825102841:=Nat
def tw10263765542220090628:=Nat
def tw13657952409764661316:=Nat
def tw6714130294213587853:=Nat
def tw17718599582219435450:=Nat
def tw10205074269389176941:=Nat
def tw7687809243092615882:=Nat
def tw5448415654560502883:=Nat
def tw15607793615006129063:=Nat
def tw3933124137614949802:=Nat
def tw7280554144033120147:=Nat
def tw1471270472714422199:=Nat
def tw11545901560476845047:=Nat
def tw1035444196911921738:=Nat
def tw13399709039205358550:=Nat
def tw10793799041964862529:=Nat
def tw4043794051879070009:=Nat
def tw17506130350071986348:=Nat
def tw12545920994393881861:=Nat
def tw1051733912214980541:=Nat
def tw9637723726009935835:=Nat
def tw8776771828986868337:=Nat
def tw13129313740571485645:=Nat
def tw5459538094139659602:=Nat
def tw9448600006924806976:=Nat
def tw14873071978950382925:=Nat
def tw9451056545549760028:=Nat
def tw7751303350851198924:=Nat
def tw17889408407236544650:=Nat
def tw9221642813017432346:=Nat
def tw8099795885917011793:=Nat
def tw14574423504806370722:=Nat
def tw7568539317763837883:=Nat
def tw8921532806183143609:=Nat
def tw13717888904683448262:=Nat
def tw6506421430299784988:=Nat
def tw13900812601677718158:=Nat
def tw16994920424657711130:=Nat
def tw6713824597830982929:=Nat
def tw17125233592908509441:=Nat
def tw15258870942950640589:=Nat
def tw6180138847074766187:=Nat
def tw4098469146331796055:=Nat
def tw4278871250586369954:=Nat
def tw1868419782106124991:=Nat
def tw11261490261633024195:=Nat
def tw12461867344839144196:=Nat
def tw6047252398998372284:=Nat
def tw3675624598405668002:=Nat
def tw7096380865581853518:=Nat
def tw652367195902637683:=Nat
def tw16148254143428637004:=Nat
end PySem.W.Fast
open PySem PySem.W PyProof.Rows
set_option maxRecDepth 100000 in
set_option maxHeartbeats 0 in
theorem PySem.Challenge.cw_pairwebs_k05_whole_webs_made_of_webs_holds : PySem.Challenge.rw_pairwebs_k05_whole_webs_made_of_webs.Holds := by
 w_on;o_law;k_head;(case hw=>w_witness2)
 k_fill
 refine K05.walk (l:=PySem.Challenge.rw_pairwebs_k05_whole_webs_made_of_webs) rfl rfl (λw h Y=>PySem.W.kIn_of Y) ?F
 case F=>
  intro w mg fa h KX G hmg
  refine' K05.all_mk KX G hmg K05.good ⟨K05.dm ?_ ?_ ?_ ?_,K05.dm ?_ ?_ ?_ ?_,K05.dm ?_ ?_ ?_ ?_,K05.dm ?_ ?_ ?_ ?_,K05.dm ?_ ?_ ?_ ?_,K05.dm ?_ ?_ ?_ ?_,K05.dm ?_ ?_ ?_ ?_,K05.dm ?_ ?_ ?_ ?_,K05.dm ?_ ?_ ?_ ?_,K05.dm ?_ ?_ ?_ ?_,K05.dm ?_ ?_ ?_ ?_,K05.dm ?_ ?_ ?_ ?_,K05.dm ?_ ?_ ?_ ?_,K05.dm ?_ ?_ ?_ ?_,K05.dm ?_ ?_ ?_ ?_,K05.dm ?_ ?_ ?_ ?_,K05.dm ?_ ?_ ?_ ?_,K05.dm ?_ ?_ ?_ ?_,K05.dm ?_ ?_ ?_ ?_,K05.dm ?_ ?_ ?_ ?_,K05.dm ?_ ?_ ?_ ?_,K05.dm ?_ ?_ ?_ ?_,K05.dm ?_ ?_ ?_ ?_,K05.dm ?_ ?_ ?_ ?_,K05.dm ?_ ?_ ?_ ?_,K05.dm ?_ ?_ ?_ ?_,K05.dm ?_ ?_ ?_ ?_,K05.dm ?_ ?_ ?_ ?_,K05.dm ?_ ?_ ?_ ?_,K05.dm ?_ ?_ ?_ ?_,K05.dm ?_ ?_ ?_ ?_⟩ ?Z ?_
  case Z=>intro x hx;simp only[Py.a1V',Zm,List.mem_nil_iff,or_false]at hx;rcases hx with rfl|rfl|rfl|rfl|rfl|rfl|rfl|rfl|rfl|rfl|rfl|rfl|rfl|rfl|rfl|rfl|rfl|rfl|rfl|rfl|rfl<;>k_is
  all_goals first|k_is|skip
end
