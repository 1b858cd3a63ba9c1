import PyProof.Rows.All
import Wide.All
import OpenK.AllK
import Wide.FinOn
import Lean
import PyProof.EqAt
import PyProof.EqKinds
import PyProof.TupleCall
import PyProof.ListMulAny
import PyProof.FactsAll.tuple
import KE.IntBitsLaws
import PyProof.NeKinds
import PyProof.FactsAll.tuple_2
import PyProof.SumWalkG
import PyProof.MinMaxWalk
import PyProof.Rows.SeqMore
import PyProof.FactsAll.tuple_3
import KE.KRevIter
import PyProof.FactsAll.range_2
import PyProof.EnumFor
import PyProof.TupleOfGen
import PyProof.ListRange
import PyProof.Rows.SetFrom
import PyProof.WalksMore
import PyProof.FactsAll.subtypes_4
import PyProof.RangeFor
import PyProof.FactsAll.set_1
import PyProof.CollectIter
import PyProof.FactsAll.set_2
import PyProof.Rows.SortRuns
import KE.KSortAsk
import KE.KSortTup
import PySem.Challenge.RW_pairwebs_k50_parts_of_webs
noncomputable section
set_option genSizeOfSpec false
set_option Elab.async false
set_option linter.all false
set_option maxRecDepth 100000
set_option maxHeartbeats 16000000
namespace L2
end L2
namespace Py
end Py
open PySem PySem.Spec PyProof.Rows L2 Py
abbrev Mg:=Str→Option Value
abbrev Vs:=Value→Shared→Prop
abbrev Fg:=PySem.W.Frag
abbrev Lp:=List (Addr×Obj)
abbrev Lq:=List (Int×Int)
abbrev Li:=List Int
abbrev La:=List Addr
abbrev Lv:=List Value
abbrev Ls:=List Str
abbrev Lx:=List Expr
abbrev Ov:=Option Value
abbrev Av:=Array Value
def Za:=@PySem.wpAny_bind
def Zb:=@List.mem_cons_self
def Zc:=@List.mem_cons_of_mem
def Zd:=@PySem.Heap.get?_push_of_some
def Ze:=@List.getElem?_eq_getElem
def Zf:=@PySem.wpAny_pure
def Zg:=@List.getElem?_cons_zero
def Zh:=@List.getElem?_cons_succ
def Zi:=@Nat.le_refl
def Zj:=@List.mem_cons
def Zk:=@List.size_toArray
def Zl:=@List.getElem?_eq_some_iff
def Zm:=@List.length_map
def Zn:=@List.mem_filter
def Zo:=@PySem.Heap.get?_push_size
def Zp:=@List.length_append
def Zq:=@PyProof.Rows.wpS_bind
def Zr:=@PySem.Heap.lt_size
def Zs:=@List.mem_append
def Zt:=@Array.length_toList
def Zu:=@List.append_assoc
def Zv:=@List.getElem?_append_right
def Zw:=@List.length_cons
def Zx:=@PyProof.Rows.wpS_pure
def Zy:=@List.mem_map
def Zz:=@List.mem_append_right
def ZA:=@Bool.and_eq_true
def ZB:=@List.getElem?_append_left
def ZC:=@List.set_cons_zero
def ZD:=@List.set_cons_succ
def ZE:=@List.map_cons
def ZF:=@List.length_filter_le
def ZG:=@List.mem_append_left
def ZH:=@List.pairwise_append
def ZI:=@List.mem_of_getElem?
def ZJ:=@Nat.ne_of_lt
def ZK:=@List.filter_sublist
def ZL:=@List.eq_nil_of_length_eq_zero
def ZM:=@List.pairwise_cons
def ZN:=@List.mem_singleton
def ZO:=@decide_eq_false
def ZP:=@Nat.le_trans
def ZQ:=@List.all_eq_true
def ZR:=@decide_eq_true
def ZS:=@Array.getElem?_toList
def ZT:=@Bool.false_eq_true
def ZU:=@Nat.lt_of_lt_of_le
def ZV:=@PySem.mem_of_lookup
def ZW:=@List.getElem?_map
def ZX:=@List.mem_iff_getElem
def ZY:=@List.getElem_mem
def ZZ:=@List.getD_eq_getElem?_getD
def Z0:=@decide_eq_true_eq
def Z1:=@List.not_mem_nil
def Z2:=@List.nodup_append
def Z3:=@List.map_map
def Z4:=@decide_eq_false_iff_not
def Z5:=@Array.toList_append
def Z6:=@Option.some.inj
def Z7:=@List.pairwise_map
def Z8:=@List.drop_eq_getElem_cons
def Z9:=@List.nil_append
def Ya:=@Bool.false_ne_true
def Yb:=@List.mem_range
def Yc:=@List.getElem?_eq_none_iff
def Yd:=@List.append_nil
def Ye:=@PySem.wpAny_call_entry
def Yf:=@List.length_take
def Yg:=@PyProof.Rows.wpS_forRange
def Yh:=@PySem.wpAny_newObj_type
def Yi:=@Bool.not_eq_true'
def Yj:=@PySem.wpAny_callSpecial?_slot
def Yk:=@PyProof.Rows.callWith_type1
def Yl:=@Option.map_eq_some_iff
def Ym:=@List.getElem?_set_self
def Yn:=@PySem.wpAny_truthy_bool
def Yo:=@PySem.Heap.SameBut.update
variable {us its:Lv}{a it t dx f sl fa acc I:Addr}{P prog:Program}{w:World}{h h' h1 base:Heap}{α β:Type}{u doc pm cdv ct oc vl vu z:Value}{e tg iter r' elt:Expr}{pq pins':Lp}{s s':Shared}{g':Array GenState}{t' k n tk ep j2 nrem src line np:Nat}{d':Drawn}{ch fp μ μ' F μ1 μ0 wr:La}{N ps loose N':Ls}{M ns l left so:Li}{A:Around}{E Q Q₁ E':Vs}{rest ifs:Lx}{c:Nat→Nat→Bool}{y lo m q:Int}{K:Fg}{st:Stmt}{es:Array (Int×Value)}{g:Int→Int→Int}{pos' apos p2 p1 p3 p4:Pos}{hi:Option Int}{C:Bool→Shared→Prop}{op':CmpOp}{κ:SortKind}{name qual:Str}{mg:Mg}{ks:List Nat}{scope:Scope}{od:Option Addr}{osl:Array (Ov)}{items:Av}{XP:(Mg)→Heap→Prop}{YP:World→Heap→Prop}{env:Env}{gens:List Comprehension}{tn:Nat→Heap→Prop}{cell:Str→Bool}{b1 b2 led:Bool}{ts:Lq}{fr:List (Option Nat)}{key:Keyed}{o2 a0:Array Keyed}{c1:Nat→Prop}{L:List (Nat×Nat×Nat)}{tie:Int→Int→Bool}
namespace L2
abbrev Key:=Sum Int Str
noncomputable def keyIs:Key→Value→Bool
 | .inl k,v=>Value.isInt k v
 | .inr x,v=>Value.isStrOf x v
noncomputable def keyH(w:World):Key→Int
 | .inl k=>hashInt k
 | .inr x=>hashStr w x
theorem a0E':∀{k:Key} {v:Value},keyIs k v=true→(∃i t,k=Sum.inl i∧v=Value.int i t)∨(∃x t,k=Sum.inr x∧v=Value.str x t)
 | .inl i,v,h=>by obtain⟨t,e⟩:=Value.isInt_shape (k:=i) (v:=v) h;exact .inl ⟨i,t,rfl,e⟩
 | .inr x,v,h=>by obtain⟨t,e⟩:=Value.isStrOf_shape (x:=x) (v:=v) h;exact .inr ⟨x,t,rfl,e⟩
theorem key_ll(a b:Int):decide ((Sum.inl a:Key)=Sum.inl b)=(a==b):=by
 by_cases e:a=b
 ·subst e;simp
 ·have h:¬(Sum.inl a:Key)=Sum.inl b:=λq=>e (Sum.inl.inj q);rw[ZO h];exact(beq_eq_false_iff_ne.mpr e).symm
theorem key_rr(a b:Str):decide ((Sum.inr a:Key)=Sum.inr b)=decide (a=b):=by
 by_cases e:a=b
 ·subst e;simp
 ·have h:¬(Sum.inr a:Key)=Sum.inr b:=λq=>e (Sum.inr.inj q);rw[ZO h,ZO e]
theorem key_lr(a:Int)(b:Str):decide ((Sum.inl a:Key)=Sum.inr b)=false:=ZO (λq=>nomatch q)
theorem key_rl(a:Str)(b:Int):decide ((Sum.inr a:Key)=Sum.inl b)=false:=ZO (λq=>nomatch q)
noncomputable def b0e'(prog:Program)(w:World):PySem.KeyKind prog w Key where
 is:=keyIs
 hash:=keyH w
 inj:=λv a b ha hb=>by
  rcases a0E' ha with⟨i,t,rfl,rfl⟩| ⟨x,t,rfl,rfl⟩
  ·rcases a0E' hb with⟨j,u,rfl,e⟩| ⟨y,u,rfl,e⟩
   ·injection e with e1 _;rw[e1]
   ·exact nomatch e
  ·rcases a0E' hb with⟨j,u,rfl,e⟩| ⟨y,u,rfl,e⟩
   ·exact nomatch e
   ·injection e with e1 _;rw[e1]
 byValue:=λk v h=>by rcases a0E' h with⟨i,t,rfl,rfl⟩| ⟨x,t,rfl,rfl⟩<;>rfl
 pyHash:=λhv h=>by
  rcases a0E' hv with⟨i,t,rfl,rfl⟩| ⟨x,t,rfl,rfl⟩
  ·exact wpAny_pyHash_int h
  ·exact wpAny_pyHash_str h
 eqBool:=λhu hv h=>by
  rcases a0E' hu with⟨i,t,rfl,rfl⟩| ⟨x,t,rfl,rfl⟩
  ·rcases a0E' hv with⟨j,u,rfl,rfl⟩| ⟨y,u,rfl,rfl⟩
   ·rw[key_ll]at h;exact wpAny_eqBool_int h
   ·rw[key_lr]at h;exact SeqAt.EqAt.int_str i t y u _ _ _ _ h
  ·rcases a0E' hv with⟨j,u,rfl,rfl⟩| ⟨y,u,rfl,rfl⟩
   ·rw[key_rl]at h;exact SeqAt.EqAt.str_int x t j u _ _ _ _ h
   ·rw[key_rr]at h;exact wpAny_eqBool_str h
 «strs»:=λk x t v h=>by
  rcases a0E' h with⟨i,u,rfl,e⟩| ⟨y,u,rfl,e⟩
  ·exact nomatch e
  ·injection e with e1 _
   subst e1;cases v<;>rfl
inductive V where
 |non|bl (b:Bool)|int (i:Int)|str (x:Str)|byt (b:Array UInt8)|flt (b:UInt64)|ref (a:Addr)|ty (n:String)
 deriving DecidableEq
def RelV:V→Value→Prop
 | .non,u=>u=Value.none
 | .bl b,u=>u=Value.bool b
 | .int i,u=>∃t,u=Value.int i t
 | .str x,u=>∃t,u=Value.str x t
 | .byt b,u=>∃t,u=Value.bytes b t
 | .flt b,u=>∃t,u=Value.float b t
 | .ref a,u=>u=Value.ref a
 | .ty n,u=>u=Value.type n
abbrev Vals:List V→Lv→Prop:=Paired RelV
theorem Vals.length{xs:List V}(r:Vals xs us):xs.length=us.length:=Paired.length r
theorem Vals.get:∀{xs:List V} {us:Lv} {i:Nat} {x:V},Vals xs us→xs[i]?=some x→∃u,us[i]?=some u∧RelV x u
 |_,_,_,_,.nil,e=>by simp at e
 |_,_,0,_,.cons r _,e=>by simp at e;subst e;exact⟨_,rfl,r⟩
 |_,_,i+1,x,.cons _ t,e=>by obtain⟨u,h1,h2⟩:=Vals.get (i:=i) (x:=x) t (by simpa using e);exact⟨u,by simpa using h1,h2⟩
theorem Vals.append:∀{xs ys:List V} {us ws:Lv},Vals xs us→Vals ys ws→Vals (xs++ys) (us++ws)
 |_,_,_,_,.nil,s=>s
 |_,_,_,_,.cons r t,s=>.cons r (Vals.append t s)
theorem Vals.take:∀{xs:List V} {us:Lv} (n:Nat),Vals xs us→Vals (xs.take n) (us.take n)
 |_,_,0,_=>.nil
 |_,_,_+1,.nil=>.nil
 |_,_,n+1,.cons r t=>.cons r (Vals.take n t)
theorem Vals.drop:∀{xs:List V} {us:Lv} (n:Nat),Vals xs us→Vals (xs.drop n) (us.drop n)
 |_,_,0,r=>r
 |_,_,_+1,.nil=>.nil
 |_,_,n+1,.cons _ t=>Vals.drop n t
def RelO:Option V→Ov→Prop
 |some v,some u=>RelV v u
 |none,none=>True
 |_,_=>False
def KV{κ:Type}:List (κ×V)→List (κ×Value)→Prop:=Paired λ(p:κ×V) (q:κ×Value)=>p.1=q.1∧RelV p.2 q.2
def kV:Key→V
 | .inl i=>.int i
 | .inr x=>.str x
inductive HO where
 |lst (xs:List V)
 |tup (xs:List V)
 |dK (kvs:List (Key×V))|dT (kvs:List (List Key×V))
 |set (S:Int→Bool) (n:Nat)
 |ins (C dx:Addr) (fs:List (Str×V))
 |own (x:Addr)
 |xd (fs:List (Str×V))
 |met (f x:Addr)
 |rng (lo hi:Int)
 |frz (o:Obj) (u:HO)
 |tbl (ps:Av)
 |ext (φ:Heap→Prop)
abbrev Hp:=Addr→Option HO
noncomputable def upd(H:Hp)(a:Addr)(o:HO):Hp:=λb=>if b=a then some o else H b
theorem a0U'{H:Hp}{o:HO}:upd H a o a=some o:=by unfold upd;rw[if_pos rfl]
theorem a0A'{H:Hp}{b:Addr}{o:HO}(h:b≠a):upd H a o b=H b:=by unfold upd;rw[if_neg h]
theorem a0o'{H:Hp}{b:Addr}{o:HO}(h:H a=some o)(h':H b=none):a≠b:=by intro e;subst e;rw[h]at h';cases h'
def NoD(h:Heap)(a:Addr):Prop:=∃o,h.get? a=some o∧o.dict=none
theorem NoD.new(h:Heap)(items:Av):NoD (h.push {cls:=.type "tuple",data:=.seq items}) h.objs.size:=⟨_,Zo _ rfl,rfl⟩
section
variable (P:Program)(w:World)
def ObjOk(H:Hp)(h:Heap)(a:Addr):HO→Prop
 | .lst xs=>xs.length≤sizeLine∧∃(its:Lv) (n:Nat),Vals xs its∧h.get? a=some {cls:=.type "list",data:=.seq its.toArray n}
 | .tup xs=>xs.length≤sizeLine∧∃its:Lv,Vals xs its∧IsTup h a its.toArray∧NoD h a
 | .dK kvs=>kvs.length≤sizeLine∧(a==sysModules)=false∧∃vs,KV kvs vs∧h.DictOf (b0e' P w) a vs
 | .dT kvs=>kvs.length≤sizeLine∧(a==sysModules)=false∧∃xs:List (List Key×Addr×Value),
   Paired (λ(p:List Key×V) (q:List Key×Addr×Value)=>p.1=q.1∧H q.2.1=some (.tup (p.1.map kV))∧RelV p.2 q.2.2) kvs xs∧
   ∃o es ep,h.get? a=some o∧o.ExactDict∧o.data=.dict es ep∧es.toList=xs.map (entryOfKey (tupleKind (b0e' P w)))∧(xs.map (·.1)).Nodup
 | .set S n=>h.SetOf (intKind P w) a S n
 | .ins C dx fs=>H dx=some (.own a)∧fs.length≤1000∧dx≠a∧h.get? a=some (PySem.W.instObj C dx)∧
   ∃mA,h.Ns1 dx mA∧(∀f,RelO (fs.lookup f) (mA f))∧PySem.Within mA (fs.map (·.1))
 | .own _=>∃o,h.get? a=some o
 | .xd fs=>∃mA,h.Ns1 a mA∧∀f,RelO (fs.lookup f) (mA f)
 | .rng lo hi=>∃t u v,h.get? a=some {cls:=.type "range",data:=.fields #[.int lo t,.int hi u,.int 1 v]}
 | .frz o u=>h.get? a=some o∧ObjOk H h a u
 | .tbl ps=>h.get? a=some {cls:=.none,data:=.fields ps}
 | .met f x=>h.get? a=some (PySem.W.methodObj (.ref f) (.ref x))
 | .ext φ=>φ h∧(∃o,h.get? a=some o)∧∀h1 h2:Heap,φ h1→(∀o,h1.get? a=some o→h2.get? a=some o)→φ h2
def HOk(H:Hp)(h:Heap):Prop:=∀a o,H a=some o→ObjOk P w H h a o
end
section
variable {H H':Hp}{o:HO}
theorem ObjOk.lt(x:ObjOk P w H h a o):a<h.objs.size:=by
 cases o with
 |lst xs=>obtain⟨_,_,_,_,e⟩:=x;exact Zr e
 |tup xs=>obtain⟨_,_,_,p,_⟩:=x;exact p.lt
 |dK kvs=>obtain⟨_,_,_,_,o,_,_,e,_⟩:=x;exact Zr e
 |dT kvs=>obtain⟨_,_,_,_,o,_,_,e,_⟩:=x;exact Zr e
 |set S n=>obtain⟨o,_,_,_,e,_⟩:=x;exact Zr e
 |ins C dx fs=>obtain⟨_,_,_,e,_⟩:=x;exact Zr e
 |own y=>obtain⟨_,e⟩:=x;exact Zr e
 |xd fs=>obtain⟨_,⟨_,_,_,e,_⟩,_⟩:=x;exact Zr e
 |rng lo hi=>obtain⟨_,_,_,e⟩:=x;exact Zr e
 |frz ob u=>obtain⟨e,_⟩:=x;exact Zr e
 |tbl ps=>exact Zr (show h.get? a=some _ from x)
 |met f y=>exact Zr (show h.get? a=some _ from x)
 |ext φ=>obtain⟨_,⟨_,e⟩,_⟩:=x;exact Zr e
theorem Paired.mapP{F G:α→β→Prop}:∀{l₁:List α} {l₂:List β},Paired F l₁ l₂→(∀a b,F a b→G a b)→Paired G l₁ l₂
 |_,_,.nil,_=>.nil
 |_,_,.cons r t,f=>.cons (f _ _ r) (Paired.mapP t f)
theorem ObjOk.stay(x:ObjOk P w H h a o)(k:∀b u,(b=a∨H b=some (.own a))→h.get? b=some u→h'.get? b=some u)
  (ho:∀b,H b=some (.own a)→H' b=some (.own a)) (ht:∀b xs,H b=some (.tup xs)→H' b=some (.tup xs)):ObjOk P w H' h' a o:=by
 induction o with
 |lst xs=>obtain⟨z,its,n,r,e⟩:=x;exact⟨z,its,n,r,k _ _ (.inl rfl) e⟩
 |tup xs=>obtain⟨z,its,r,⟨ob,e,c⟩,ob',e',c'⟩:=x;exact⟨z,its,r,⟨ob,k _ _ (.inl rfl) e,c⟩,ob',k _ _ (.inl rfl) e',c'⟩
 |dK kvs=>obtain⟨z,y,vs,r,ob,es,ep,e,c⟩:=x;exact⟨z,y,vs,r,ob,es,ep,k _ _ (.inl rfl) e,c⟩
 |dT kvs=>obtain⟨z,y,xs,r,ob,es,ep,e,c⟩:=x;exact⟨z,y,xs,Paired.mapP r λp q z=>⟨z.1,ht _ _ z.2.1,z.2.2⟩,ob,es,ep,k _ _ (.inl rfl) e,c⟩
 |set S n=>obtain⟨ob,es,ep,t,e,c⟩:=x;exact⟨ob,es,ep,t,k _ _ (.inl rfl) e,c⟩
 |ins C dx fs=>obtain⟨d,z,ne,e,mA,⟨od,es,ep,e2,c⟩,r⟩:=x;exact⟨ho _ d,z,ne,k _ _ (.inl rfl) e,mA,⟨od,es,ep,k _ _ (.inr d) e2,c⟩,r⟩
 |own y=>obtain⟨ob,e⟩:=x;exact⟨ob,k _ _ (.inl rfl) e⟩
 |xd fs=>obtain⟨mA,⟨od,es,ep,e,c⟩,r⟩:=x;exact⟨mA,⟨od,es,ep,k _ _ (.inl rfl) e,c⟩,r⟩
 |rng lo hi=>obtain⟨t,u,v,e⟩:=x;exact⟨t,u,v,k _ _ (.inl rfl) e⟩
 |frz ob u ih=>obtain⟨e,q⟩:=x;exact⟨k _ _ (.inl rfl) e,ih q⟩
 |tbl ps=>have e:h.get? a=some {cls:=.none,data:=.fields ps}:=x;show h'.get? a=some {cls:=.none,data:=.fields ps};exact k a _ (.inl rfl) e
 |met f y=>have e:h.get? a=some (PySem.W.methodObj (.ref f) (.ref y)):=x;show h'.get? a=some (PySem.W.methodObj (.ref f) (.ref y));exact k a _ (.inl rfl) e
 |ext φ=>obtain⟨p,⟨o,e⟩,st⟩:=x;exact⟨st _ _ p λo q=>k _ _ (.inl rfl) q,⟨o,k _ _ (.inl rfl) e⟩,st⟩
theorem HOk.lt(x:HOk P w H h)(e:H a=some o):a<h.objs.size:=(x a o e).lt
theorem HOk.fresh(x:HOk P w H h)(e:h.objs.size≤a):H a=none:=by
 cases q:H a with
 |none=>rfl
 |some u=>exact absurd (ZU (x.lt q) e) (Nat.lt_irrefl _)
theorem HOk.kept(x:HOk P w H h)(k:∀b u,h.get? b=some u→h'.get? b=some u):HOk P w H h':=λa o e=>
 (x a o e).stay (λb u _ q=>k b u q) (λ_ q=>q) λ_ _ q=>q
theorem HOk.laid(x:HOk P w H h)(k:∀b u,h.get? b=some u→h'.get? b=some u)(hp:h.objs.size≤a)(new:ObjOk P w (upd H a o) h' a o):HOk P w (upd H a o) h':=λb u e=>by
 have hn:=x.fresh hp;by_cases hb:b=a
 ·subst hb;rw[a0U']at e;cases e;exact new
 ·rw[a0A' hb]at e;exact(x b u e).stay (λc v _ q=>k c v q) (λc q=>by rw[a0A' (a0o' q hn)];exact q) λc xs q=>by rw[a0A' (a0o' q hn)];exact q
end
def Rd(H:Hp)(a:Addr)(u:HO):Prop:=H a=some u∨∃o,H a=some (.frz o u)
theorem Rd.ok{H:Hp}{u:HO}(r:Rd H a u)(x:HOk P w H h):ObjOk P w H h a u:=by
 rcases r with r| ⟨o,r⟩
 ·exact x a u r
 ·obtain⟨_,q⟩:=x a _ r;exact q
def Mut:Option HO→Prop
 |some (.lst _)=>True
 |some (.dK _)=>True
 |some (.dT _)=>True
 |some (.set _ _)=>True
 |some (.ins _ _ _)=>True
 |some (.ext _)=>True
 |_=>False
section
variable {H:Hp}{x e:Addr}{o':HO}
theorem HOk.write(ok:HOk P w H h)(mu:Mut (H x))(he:e=x∨H e=some (.own x))(k:∀b u,b≠e→h.get? b=some u→h'.get? b=some u)(heo:∃u,h'.get? e=some u)
  (new:ObjOk P w (upd H x o') h' x o'):HOk P w (upd H x o') h':=λb u q=>by
 have nown:∀c y,H c=some (.own y)→c≠x:=λc y r z=>by subst z;rw[r]at mu;exact mu
 have ntup:∀c xs,H c=some (.tup xs)→c≠x:=λc xs r z=>by subst z;rw[r]at mu;exact mu
 by_cases hb:b=x
 ·subst hb;rw[a0U']at q;cases q;exact new
 ·rw[a0A' hb]at q;by_cases hbe:b=e
  ·have q':H b=some (.own x):=by
    rcases he with z|z
    ·exact absurd (hbe.trans z) hb
    ·rw[hbe];exact z
   rw[q]at q';cases q';obtain⟨v,hv⟩:=heo;exact⟨v,by rw[hbe];exact hv⟩
  ·refine(ok b u q).stay (λc v hc r=>k c v ?_ r) (λc r=>by rw[a0A' (nown c b r)];exact r) λc xs r=>by rw[a0A' (ntup c xs r)];exact r
   rcases hc with rfl|hc
   ·exact hbe
   ·rintro rfl;rcases he with z|z
    ·exact nown c b hc z
    ·rw[hc]at z;cases z;exact hb rfl
end
structure Un (fs ex:La)(H H':Hp)(h h':Heap):Prop where
 keep:∀b o,h.get? b=some o→H b=none→b∉fs→b∉ex→h'.get? b=some o
 slot:∀b o,h.get? b=some o→H b=none→b∈fs→b∉ex→∃sl,h'.get? b=some {o with slots:=sl}
 free:∀b o,h.get? b=some o→H b=none→b∉ex→H' b=none
 there:∀b o,h.get? b=some o→b∉ex→∃o',h'.get? b=some o'
 tups:∀b xs,H b=some (.tup xs)→H' b=some (.tup xs)
 frzs:∀b o u,H b=some (.frz o u)→H' b=some (.frz o u)
 tbls:∀b ps,H b=some (.tbl ps)→∃more,H' b=some (.tbl (ps++more))
section
variable {fs fs' ex ex':La}{H H1 H2:Hp}{h2:Heap}{x e:Addr}{o:HO}
theorem Un.any(u:Un fs ex H H1 h h1){b:Addr}{ob:Obj}(q:h.get? b=some ob)(n:H b=none)(hx:b∉ex):∃sl,h1.get? b=some {ob with slots:=sl}:=by
 by_cases hb:b∈fs
 ·exact u.slot b ob q n hb hx
 ·exact⟨ob.slots,u.keep b ob q n hb hx⟩
theorem Un.kept(k:∀b u,h.get? b=some u→h'.get? b=some u):Un fs ex H H h h':=
 ⟨λb ob q _ _ _=>k b ob q,λb ob q _ _ _=>⟨ob.slots,k b ob q⟩,λ_ _ _ n _=>n,λb ob q _=>⟨ob,k b ob q⟩,λ_ _ q=>q,λ_ _ _ q=>q,λ_ ps q=>⟨#[],by rw[q];simp⟩⟩
theorem Un.refl:Un fs ex H H h h:=Un.kept λ_ _ q=>q
theorem Un.laid(k:∀b u,h.get? b=some u→h'.get? b=some u)(hp:h.objs.size≤a)(hn:H a=none):Un fs ex H (upd H a o) h h' where
 keep:=λb u q _ _ _=>k b u q
 slot:=λb u q _ _ _=>⟨u.slots,k b u q⟩
 free:=λb u q n _=>by rw[a0A' (ZJ (ZU (Zr q) hp))];exact n
 there:=λb u q _=>⟨u,k b u q⟩
 tups:=λb xs q=>by rw[a0A' (a0o' q hn)];exact q
 frzs:=λb u xs q=>by rw[a0A' (a0o' q hn)];exact q
 tbls:=λb ps q=>⟨#[],by rw[a0A' (a0o' q hn),q];simp⟩
theorem Un.write(mu:Mut (H x))(he:e=x∨H e=some (.own x))(k:∀b u,b≠e→h.get? b=some u→h'.get? b=some u)(heo:∃u,h'.get? e=some u):Un fs ex H (upd H x o) h h':=by
 have hx:∀b,H b=none→b≠x:=λb n z=>by subst z;rw[n]at mu;exact mu
 have hb:∀b,H b=none→b≠e:=λb n z=>by
  subst z;rcases he with r|r
  ·exact hx b n r
  ·rw[n]at r;cases r
 have hm:∀b u,H b=some u→¬Mut (some u)→b≠x:=λb u q nm z=>by subst z;rw[q]at mu;exact nm mu
 refine⟨λb u q n _ _=>k b u (hb b n) q,λb u q n _ _=>⟨u.slots,k b u (hb b n) q⟩,λb u q n _=>by rw[a0A' (hx b n)];exact n,λb u q _=>?_,
  λb xs q=>by rw[a0A' (hm b _ q λz=>z)];exact q,λb u xs q=>by rw[a0A' (hm b _ q λz=>z)];exact q,λb ps q=>⟨#[],by rw[a0A' (hm b _ q λz=>z),q];simp⟩⟩
 by_cases hbe:b=e
 ·subst hbe;exact heo
 ·exact⟨u,k b u hbe q⟩
end
noncomputable def trk(h:Heap)(H:Hp):La:=(List.range h.objs.size).filter λa=>(H a).isSome
def hidT(h:Heap)(H:Hp):Heap:=PySem.W.hideAll h (trk h H)
theorem b2B'(h:Heap)(H:Hp):(hidT h H).objs.size=h.objs.size:=PySem.W.hideAll_size _ _
theorem b4C'{H:Hp}{b:Addr}{o:Obj}(e:h.get? b=some o)(n:H b=none):(hidT h H).get? b=some o:=
 PySem.W.hideAll_get _ e λhm=>by have q:(H b).isSome=true:=(Zn.mp hm).2;rw[n]at q;simp at q
theorem of_hidT{H:Hp}{b:Addr}{o:Obj}(e:(hidT h H).get? b=some o):h.get? b=some o∧H b=none:=by
 have e':h.get? b=some o:=PySem.W.of_hideAll (trk h H) e;refine⟨e',?_⟩;cases q:H b with
 |none=>rfl
 |some x=>have hm:b∈trk h H:=Zn.mpr ⟨Yb.mpr (Zr e'),by simp[q]⟩;have z:(hidT h H).get? b=none:=PySem.W.hideAll_none (trk h H) hm;rw[z]at e;cases e
structure Mod (K:Fg)(mg:Mg)(base:Heap):Prop where
 kin:K.In base
 glob:base.Ns mainGlobals mg
 blt:∃mb,base.Ns builtinsNs mb∧∀x:Str,x≠"__name__"→mb x=bootBuiltins x
 nolimit:base.NoLimit
structure Cx where
 prog:Program
 w:World
 K:Fg
 mg:Mg
 base:Heap
 A:Around
 N:Ls
 s₀:Shared
 H₀:Hp
 env:Env
 outer:List Env
 stack:List Env
 ex:La
 fn:Str→Bool
 calm:Bool
 pn:Lp
 xe:Vs
def frs(l:List Env):La:=l.filterMap (·.frame)
abbrev Cx.fs(X:Cx):La:=frs X.outer
def Vis(sc:Scope)(x:Str):Prop:=sc.names.lookup x=some .local∨sc.names.lookup x=some .cell∨sc.names.lookup x=some .free
def Loc(sc:Scope)(x:Str):Prop:=sc.names.lookup x=some .local∨sc.names.lookup x=some .cell
def Look(env:Env)(h:Heap)(m:Mg)(x:Str)(u:Value):Prop:=
 (env.kindOf x=some .local∧m x=some u)∨((env.kindOf x=some .cell∨env.kindOf x=some .free)∧∃c,env.cells.lookup x=some c∧h.IsCell c (some u))
structure Cx.Ok (X:Cx):Prop where
 mod:Mod X.K X.mg X.base
 kind:X.env.scope.kind=.function
 glob:X.env.globals=mainGlobals
 blt:X.env.builtins=builtinsNs
 above:X.s₀.heap.objs.size≤X.env.locals
 inj:∀x y c,X.env.cells.lookup x=some c→X.env.cells.lookup y=some c→x=y
 has:∀x,(X.env.kindOf x=some .cell∨X.env.kindOf x=some .free)→∃c,X.env.cells.lookup x=some c
 cab:∀x c,X.fn x=true→X.env.cells.lookup x=some c→X.s₀.heap.objs.size≤c
 hd:X.calm=true→X.A.handled=none
 frames:X.A.frames=some X.stack
 stk:X.stack=X.outer∨(X.stack=X.env::X.outer∧X.env.frame=some X.env.locals)
 exf:∀b∈X.ex,b≠X.env.locals∧∀x c,X.env.cells.lookup x=some c→c≠b
 bs:∀b o,X.base.get? b=some o→X.s₀.heap.get? b=some o∧X.H₀ b=none
 bsz:X.base.objs.size≤X.s₀.heap.objs.size
 noex:∀b o,X.base.get? b=some o→b∉X.ex
 exfs:∀b∈X.ex,b∉X.fs
 funs:X.s₀.heap.FunFrames X.base X.outer
 frf:∀b∈X.fs,X.H₀ b=none
structure Inv (X:Cx)(pq:Lp)(σ:List (Option V))(H:Hp)(s:Shared):Prop where
 ok:X.Ok
 os:s.os=X.s₀.os
 bare:AllBare s.gens
 base:Un X.fs X.ex X.H₀ H X.s₀.heap s.heap
 loc:∃m,s.heap.Ns X.env.locals m∧∀(i:Nat) (x:Str) (v:V),X.N[i]?=some x→σ[i]?=some (some v)→Vis X.env.scope x→∃u,RelV v u∧Look X.env s.heap m x u
 cell:∀x c,X.env.cells.lookup x=some c→∃v,s.heap.IsCell c v
 free:H X.env.locals=none
 freeC:∀x c,X.env.cells.lookup x=some c→H c=none
 pin:∀p∈X.pn++pq,s.heap.get? p.1=some p.2∧H p.1=none∧p.1≠X.env.locals∧p.1∉X.fs∧∀v,p.2.data≠.cell v
 hok:HOk X.prog X.w H s.heap
 len:σ.length=X.N.length
section
variable {X:Cx}{σ:List (Option V)}{H H':Hp}
theorem Cx.Ok.nofr(ok:X.Ok){b:Addr}{o:Obj}(e:X.base.get? b=some o):b∉X.fs:=λhb=>by have:=(ok.funs.mem hb).1;rw[e]at this;cases this
theorem Inv.bs(I:Inv X pq σ H s):∀b o,X.base.get? b=some o→s.heap.get? b=some o∧H b=none:=λb o e=>
 ⟨I.base.keep b o (I.ok.bs b o e).1 (I.ok.bs b o e).2 (I.ok.nofr e) (I.ok.noex b o e),I.base.free b o (I.ok.bs b o e).1 (I.ok.bs b o e).2 (I.ok.noex b o e)⟩
theorem Inv.bk(I:Inv X pq σ H s):∀b o,X.base.get? b=some o→s.heap.get? b=some o:=λb o e=>(I.bs b o e).1
theorem Inv.mod(I:Inv X pq σ H s):Mod X.K X.mg X.base:=I.ok.mod
theorem Inv.kIn(I:Inv X pq σ H s):X.K.In s.heap:=I.ok.mod.kin.keeps I.bk
theorem Inv.lt(I:Inv X pq σ H s):X.env.locals<s.heap.objs.size:=let⟨_,hn,_⟩:=I.loc;hn.lt
theorem Inv.sz(I:Inv X pq σ H s):X.s₀.heap.objs.size≤s.heap.objs.size:=ZP I.ok.above (Nat.le_of_lt I.lt)
theorem Inv.nofs(I:Inv X pq σ H s)(h:s.heap.objs.size≤a):a∉X.fs:=λhb=>by obtain⟨_,o,ho,_⟩:=I.ok.funs.mem hb;exact absurd (ZU (Zr ho) (ZP I.sz h)) (Nat.lt_irrefl _)
theorem Inv.cne(I:Inv X pq σ H s):∀x c,X.env.cells.lookup x=some c→c≠X.env.locals:=λx c e z=>by obtain⟨v,o,ho,hd⟩:=I.cell x c e;obtain⟨m,⟨o',es,ep,ho',hd',_⟩,_⟩:=I.loc;rw[z,ho']at ho;cases ho;rw[hd']at hd;cases hd
theorem Inv.funs(I:Inv X pq σ H s):s.heap.FunFrames X.base X.outer:=by
 have all:∀(l:List Env),(∀b∈frs l,b∈X.fs)→X.s₀.heap.FunFrames X.base l→s.heap.FunFrames X.base l:=by
  intro l
  induction l with
  |nil=>intro _ _;trivial
  |cons env r ih=>intro hs hl;obtain⟨hk,⟨L,o,hf,hn,ho,hd⟩,hr⟩:=hl;have hL:L∈X.fs:=hs L (by unfold frs;rw[List.filterMap_cons,hf];exact Zb);obtain⟨sl,e⟩:=I.base.slot L o ho (I.ok.frf L hL) hL λz=>I.ok.exfs L z hL;exact⟨hk,⟨L,_,hf,hn,e,hd⟩,ih (λb hb=>hs b (by unfold frs;rw[List.filterMap_cons,hf];exact Zc _ hb)) hr⟩
 exact all X.outer (λ_ hb=>hb) I.ok.funs
theorem Inv.stack(I:Inv X pq σ H s):s.heap.FunFrames X.base X.stack:=by
 rcases I.ok.stk with e| ⟨e,hf⟩
 ·rw[e];exact I.funs
 ·rw[e];obtain⟨m,hn,_⟩:=I.loc;refine .cons (by rw[I.ok.kind];decide) hf hn ?_ I.funs;exact Heap.get?_none_of_le (ZP I.ok.bsz I.ok.above)
theorem Inv.stkSub(I:Inv X pq σ H s):∀b∈frs X.stack,b∈X.env.locals::X.fs:=λb hb=>by
 rcases I.ok.stk with e| ⟨e,hf⟩
 ·rw[e]at hb;exact Zc _ hb
 ·rw[e]at hb;unfold frs at hb;rw[List.filterMap_cons,hf]at hb;exact hb
theorem Inv.stkFree(I:Inv X pq σ H s):∀b∈frs X.stack,H b=none:=λb hb=>by
 rcases Zj.mp (I.stkSub b hb)with e|hb
 ·rw[e];exact I.free
 ·obtain⟨_,o,ho,_⟩:=I.ok.funs.mem hb;exact I.base.free b o ho (I.ok.frf b hb) λz=>I.ok.exfs b z hb
theorem Inv.step{g':Array GenState}{t':Nat}{d':Drawn}(I:Inv X pq σ H s)
  (hch:∀b∈ch,(b∈X.ex∨X.s₀.heap.objs.size≤b)∧b≠X.env.locals∧(∀x c,X.env.cells.lookup x=some c→c≠b)∧∀p∈X.pn++pq,p.1≠b)
  (keep:∀b o,b≠X.env.locals→b∉X.fs→b∉ch→s.heap.get? b=some o→H b=none→h'.get? b=some o)
  (slot:∀b o,b≠X.env.locals→b∈X.fs→b∉ch→s.heap.get? b=some o→H b=none→∃sl,h'.get? b=some {o with slots:=sl}) (free:∀b o,b∉ch→s.heap.get? b=some o→H b=none→H' b=none)
  (there:∀b o,b∉ch→s.heap.get? b=some o→∃o',h'.get? b=some o')
  (tups:∀b xs,H b=some (.tup xs)→H' b=some (.tup xs)) (frzs:∀b o u,H b=some (.frz o u)→H' b=some (.frz o u)) (tbls:∀b ps,H b=some (.tbl ps)→∃more,H' b=some (.tbl (ps++more)))
  (ns:∀m,s.heap.Ns X.env.locals m→h'.Ns X.env.locals m) (hok:HOk X.prog X.w H' h') (hg:AllBare g'):
  Inv X pq σ H' {s with heap:=h',gens:=g',drawn:=d',toks:=t'}:=by
 have neL:∀b o,X.s₀.heap.get? b=some o→b≠X.env.locals:=λb o e=>ZJ (ZU (Zr e) I.ok.above)
 have neC:∀b o,X.s₀.heap.get? b=some o→b∉X.ex→b∉ch:=λb o e hx hb=>by
  rcases(hch b hb).1 with z|z
  ·exact hx z
  ·exact absurd (ZU (Zr e) z) (Nat.lt_irrefl _)
 have cellK:∀x c,X.env.cells.lookup x=some c→∀v,s.heap.IsCell c v→h'.IsCell c v:=λx c e v ⟨o,ho,hd⟩=>by
  have nch:c∉ch:=λz=>(hch c z).2.2.1 x c e rfl;by_cases hc:c∈X.fs
  ·obtain⟨sl,q⟩:=slot c o (I.cne x c e) hc nch ho (I.freeC x c e);exact⟨_,q,hd⟩
  ·exact⟨o,keep c o (I.cne x c e) hc nch ho (I.freeC x c e),hd⟩
 refine⟨I.ok,I.os,hg,⟨λb o e n hb hx=>?_,λb o e n hb hx=>?_,λb o e n hx=>?_,λb o e hx=>?_,λb xs e=>tups b xs (I.base.tups b xs e),λb o xs e=>frzs b o xs (I.base.frzs b o xs e),λb ps e=>?_⟩,?_,λx c e=>?_,?_,λx c e=>?_,λp hp=>?_,hok,I.len⟩
 ·exact keep b o (neL b o e) hb (neC b o e hx) (I.base.keep b o e n hb hx) (I.base.free b o e n hx)
 ·obtain⟨sl,e1⟩:=I.base.slot b o e n hb hx;obtain⟨sl',e2⟩:=slot b _ (neL b o e) hb (neC b o e hx) e1 (I.base.free b o e n hx);exact⟨sl',e2⟩
 ·obtain⟨o',e1⟩:=I.base.there b o e hx;exact free b o' (neC b o e hx) e1 (I.base.free b o e n hx)
 ·obtain⟨o',e1⟩:=I.base.there b o e hx;exact there b o' (neC b o e hx) e1
 ·obtain⟨m1,e1⟩:=I.base.tbls b ps e;obtain⟨m2,e2⟩:=tbls b _ e1;exact⟨m1++m2,by rw[e2,Array.append_assoc]⟩
 ·obtain⟨m,hn,hl⟩:=I.loc;refine⟨m,ns m hn,λi x v e1 e2 e3=>?_⟩;obtain⟨u,r,l⟩:=hl i x v e1 e2 e3;refine⟨u,r,?_⟩;rcases l with l| ⟨k,c,e,z⟩
  ·exact .inl l
  ·exact .inr ⟨k,c,e,cellK x c e _ z⟩
 ·obtain⟨v,z⟩:=I.cell x c e;exact⟨v,cellK x c e v z⟩
 ·obtain⟨m,⟨o,_,_,ho,_⟩,_⟩:=I.loc;exact free _ o (λz=>(hch _ z).2.1 rfl) ho I.free
 ·obtain⟨v,o,ho,hd⟩:=I.cell x c e;exact free c o (λz=>(hch c z).2.2.1 x c e rfl) ho (I.freeC x c e)
 ·obtain⟨e,n,ne,nf,d⟩:=I.pin p hp;have nch:p.1∉ch:=λz=>(hch p.1 z).2.2.2 p hp rfl;exact⟨keep p.1 p.2 ne nf nch e n,free p.1 p.2 nch e n,ne,nf,d⟩
theorem Inv.un{t':Nat}(I:Inv X pq σ H s)(u:Un X.fs [] H H' s.heap h')(hok:HOk X.prog X.w H' h'):Inv X pq σ H' {s with heap:=h',toks:=t'}:=by obtain⟨m,⟨o,es,ep,ho,r⟩,_⟩:=id I.loc;obtain⟨sl,hL⟩:=u.any ho I.free (by simp);exact I.step (g':=s.gens) (d':=s.drawn) (ch:=[]) (λ_ z=>nomatch z) (λb o _ hb _ e n=>u.keep b o e n hb (by simp)) (λb o _ hb _ e n=>u.slot b o e n hb (by simp)) (λb o _ e n=>u.free b o e n (by simp)) (λb o _ e=>u.there b o e (by simp)) u.tups u.frzs u.tbls (λm' hm=>by obtain⟨o',es',ep',ho',r'⟩:=hm;rw[ho]at ho';cases ho';exact⟨_,es',ep',hL,r'⟩) hok I.bare
theorem Inv.call{t':Nat}{d':Drawn}(I:Inv X pq σ H s)(u:Un (frs X.stack) ch H H' s.heap h')(hok:HOk X.prog X.w H' h')(hg:AllBare g')
  (hch:∀b∈ch,(b∈X.ex∨X.s₀.heap.objs.size≤b)∧b≠X.env.locals∧(∀x c,X.env.cells.lookup x=some c→c≠b)∧∀p∈X.pn++pq,p.1≠b):
  Inv X pq σ H' {s with heap:=h',gens:=g',drawn:=d',toks:=t'}:=by
 obtain⟨m,⟨o,es,ep,ho,r⟩,_⟩:=id I.loc;obtain⟨sl,hL⟩:=u.any ho I.free λz=>(hch _ z).2.1 rfl;exact I.step (ch:=ch) hch (λb o hL hb hc e n=>u.keep b o e n (λz=>(Zj.mp (I.stkSub b z)).elim hL hb) hc) (λb o _ _ hc e n=>u.any e n hc) (λb o hc e n=>u.free b o e n hc) (λb o hc e=>u.there b o e hc) u.tups u.frzs u.tbls (λm' hm=>by obtain⟨o',es',ep',ho',r'⟩:=hm;rw[ho]at ho';cases ho';exact⟨_,es',ep',hL,r'⟩) hok hg
theorem Inv.turned{t':Nat}(I:Inv X pq σ H s)(k:∀b o,b≠it→s.heap.get? b=some o→h'.get? b=some o)(hn:H it=none)(hL:it≠X.env.locals)
  (h1:it∈X.ex∨X.s₀.heap.objs.size≤it) (h2:∀x c,X.env.cells.lookup x=some c→c≠it) (h3:∀p∈X.pn++pq,p.1≠it):Inv X pq σ H {s with heap:=h',toks:=t'}:=by
 have nit:∀b u,H b=some u→b≠it:=λb u e z=>by rw[z,hn]at e;cases e
 refine I.step (g':=s.gens) (d':=s.drawn) (ch:=[it]) (λb hb=>?_) (λb o _ _ hc e _=>k b o (λz=>hc (by simp[z])) e) (λb o _ _ hc e _=>⟨o.slots,k b o (λz=>hc (by simp[z])) e⟩) (λ_ _ _ _ n=>n)
  (λb o hc e=>⟨o,k b o (λz=>hc (by simp[z])) e⟩) (λ_ _ e=>e) (λ_ _ _ e=>e) (λb ps e=>⟨#[],by rw[e];simp⟩) (λm hm=>?_) (λb u e=>?_) I.bare
 ·have e:b=it:=by simpa using hb
  subst e;exact⟨h1,hL,h2,h3⟩
 ·obtain⟨o,es,ep,ho,r⟩:=hm;exact⟨o,es,ep,k _ o (Ne.symm hL) ho,r⟩
 ·refine(I.hok b u e).stay (λc v hc q=>k c v ?_ q) (λ_ q=>q) λ_ _ q=>q;rcases hc with z|z
  ·rw[z];exact nit b u e
  ·exact nit c _ z
theorem Inv.tok(I:Inv X pq σ H s)(t:Nat):Inv X pq σ H {s with toks:=t}:=I.un (h':=s.heap) (t':=t) Un.refl I.hok
theorem Inv.kept{t':Nat}(I:Inv X pq σ H s)(k:∀b u,s.heap.get? b=some u→h'.get? b=some u):Inv X pq σ H {s with heap:=h',toks:=t'}:=I.un (Un.kept k) (I.hok.kept k)
theorem Inv.laid{o:HO}{t':Nat}(I:Inv X pq σ H s)(k:∀b u,s.heap.get? b=some u→h'.get? b=some u)(hp:s.heap.objs.size≤a)(new:ObjOk X.prog X.w (upd H a o) h' a o):
  Inv X pq σ (upd H a o) {s with heap:=h',toks:=t'}:=I.un (Un.laid k hp (I.hok.fresh hp)) (I.hok.laid k hp new)
theorem Inv.write{x e:Addr}{o:HO}{t':Nat}(I:Inv X pq σ H s)(mu:Mut (H x))(he:e=x∨H e=some (.own x))(k:∀b u,b≠e→s.heap.get? b=some u→h'.get? b=some u)(heo:∃u,h'.get? e=some u)
  (new:ObjOk X.prog X.w (upd H x o) h' x o):Inv X pq σ (upd H x o) {s with heap:=h',toks:=t'}:=I.un (Un.write mu he k heo) (I.hok.write mu he k heo new)
theorem Inv.pins_of(I:Inv X pq σ H s)(h:∀p∈pins',s.heap.get? p.1=some p.2∧H p.1=none∧p.1≠X.env.locals∧p.1∉X.fs∧∀v,p.2.data≠.cell v):Inv X pins' σ H s:=
 ⟨I.ok,I.os,I.bare,I.base,I.loc,I.cell,I.free,I.freeC,λp hp=>(Zs.mp hp).elim (λz=>I.pin p (ZG _ z)) (h p),I.hok,I.len⟩
theorem b0f'(hN:N.Nodup){i j:Nat}{x:Str}(a:N[i]?=some x)(b:N[j]?=some x):i=j:=by obtain⟨h1,e1⟩:=Zl.mp a;obtain⟨h2,e2⟩:=Zl.mp b;exact(List.getElem_inj hN).mp (e1.trans e2.symm)
theorem a8m'{M:Model}{A:Around}{E:Vs}{i:Nat}{x:Str}{v:V}{Q:Unit→Shared→Prop}(I:Inv X pq σ H s)(hN:X.N.Nodup)(hi:X.N[i]?=some x)(hx:Loc X.env.scope x)(r:RelV v u)
  (h:∀s',Inv X pq (σ.set i (some v)) H s'→(∃a,Heap.SameBut a s.heap s'.heap∧(a=X.env.locals∨X.env.cells.lookup x=some a))→Q () s') (hf:X.fn x=true∨X.env.scope.names.lookup x=some .local:=by first|exact .inl rfl|exact .inr rfl|assumption):wpAny M A (storeName X.env x u) Q E s:=by
 obtain⟨m,hn,hl⟩:=id I.loc;have hcls:(X.env.scope.kind== .class||(X.env.scope.kind== .module&&X.env.locals !=X.env.globals))=false:=by rw[I.ok.kind];rfl
 have hiσ:i<σ.length:=by rw[I.len];exact(Zl.mp hi).1
 have cne:=I.cne
 have tracked:∀{a:Addr} {h':Heap},(∃o,s.heap.get? a=some o∧H a=none)→Heap.SameBut a s.heap h'→HOk X.prog X.w H h':=λ{a h'} ha hs b ob e=>by
  obtain⟨_,_,hfree⟩:=ha;refine(I.hok b ob e).stay (λc w' hc q=>(hs.2 c ?_).trans q) (λ_ q=>q) λ_ _ q=>q;rintro rfl;rcases hc with rfl|hc
  ·rw[hfree]at e;cases e
  ·rw[hfree]at hc;cases hc
 rcases hx with hk|hk
 ·refine wpAny_storeName_local hk hn (λh' hn' hs=>?_) hcls;obtain⟨oL,_,_,hoL,_⟩:=id hn;refine h _ ⟨I.ok,I.os,I.bare,⟨λb o e n hb hx=>?_,λb o e n hb hx=>?_,I.base.free,λb o e hx=>?_,I.base.tups,I.base.frzs,I.base.tbls⟩,⟨_,hn',λj y v' e1 e2 e3=>?_⟩,λy c e=>?_,I.free,I.freeC,λp hp=>?_,tracked ⟨oL,hoL,I.free⟩ hs,by simpa using I.len⟩ ⟨_,hs,.inl rfl⟩
  ·exact(hs.2 b (ZJ (ZU (Zr e) I.ok.above))).trans (I.base.keep b o e n hb hx)
  ·obtain⟨sl,e1⟩:=I.base.slot b o e n hb hx;exact⟨sl,(hs.2 b (ZJ (ZU (Zr e) I.ok.above))).trans e1⟩
  ·obtain⟨o',e1⟩:=I.base.there b o e hx;exact⟨o',(hs.2 b (ZJ (ZU (Zr e) I.ok.above))).trans e1⟩
  ·by_cases hj:j=i
   ·subst hj;rw[hi]at e1;cases e1;rw[Ym hiσ]at e2;cases e2;exact⟨u,r,.inl ⟨hk,by simp⟩⟩
   ·rw[List.getElem?_set_ne (Ne.symm hj)]at e2;obtain⟨u',r',q⟩:=hl j y v' e1 e2 e3;refine⟨u',r',?_⟩;rcases q with⟨k,e⟩| ⟨k,c,e,z⟩
    ·refine .inl ⟨k,?_⟩;have:y≠x:=λe=>hj (b0f' hN e1 (e▸hi));simp[this,e]
    ·exact .inr ⟨k,c,e,z.sameBut hs (cne y c e)⟩
  ·obtain⟨w',z⟩:=I.cell y c e;exact⟨w',z.sameBut hs (cne y c e)⟩
  ·obtain⟨e,n,ne,nf,d⟩:=I.pin p hp;exact⟨(hs.2 p.1 ne).trans e,n,ne,nf,d⟩
 ·have hfn:X.fn x=true:=by
   rcases hf with z|z
   ·exact z
   ·rw[z]at hk;cases hk
  obtain⟨c,hc⟩:=I.ok.has x (.inl hk);obtain⟨w',z⟩:=I.cell x c hc;refine wpAny_storeName_cell I.ok.kind hk hc z (λh' hc' hs=>?_);obtain⟨oc,hoc,hocd⟩:=id z;refine h {s with heap:=h'} ⟨I.ok,I.os,I.bare,⟨λb o e n hb hx=>?_,λb o e n hb hx=>?_,I.base.free,λb o e hx=>?_,I.base.tups,I.base.frzs,I.base.tbls⟩,⟨m,hn.sameBut hs (Ne.symm (cne x c hc)),λj y v' e1 e2 e3=>?_⟩,λy c' e=>?_,I.free,I.freeC,λp hp=>?_,tracked ⟨oc,hoc,I.freeC x c hc⟩ hs,by simpa using I.len⟩ ⟨c,hs,.inr hc⟩
  ·exact(hs.2 b (ZJ (ZU (Zr e) (I.ok.cab x c hfn hc)))).trans (I.base.keep b o e n hb hx)
  ·obtain⟨sl,e1⟩:=I.base.slot b o e n hb hx;exact⟨sl,(hs.2 b (ZJ (ZU (Zr e) (I.ok.cab x c hfn hc)))).trans e1⟩
  ·obtain⟨o',e1⟩:=I.base.there b o e hx;exact⟨o',(hs.2 b (ZJ (ZU (Zr e) (I.ok.cab x c hfn hc)))).trans e1⟩
  ·by_cases hj:j=i
   ·subst hj;rw[hi]at e1;cases e1;rw[Ym hiσ]at e2;cases e2;exact⟨u,r,.inr ⟨.inl hk,c,hc,hc'⟩⟩
   ·rw[List.getElem?_set_ne (Ne.symm hj)]at e2;obtain⟨u',r',q⟩:=hl j y v' e1 e2 e3;refine⟨u',r',?_⟩;rcases q with q| ⟨k,c',e,z'⟩
    ·exact .inl q
    ·refine .inr ⟨k,c',e,z'.sameBut hs ?_⟩;rintro rfl;exact hj (b0f' hN e1 (I.ok.inj _ _ _ e hc▸hi))
  ·by_cases hcc:c'=c
   ·subst hcc;exact⟨_,hc'⟩
   ·obtain⟨w2,z2⟩:=I.cell y c' e;exact⟨w2,z2.sameBut hs hcc⟩
  ·obtain⟨e,n,ne,nf,d⟩:=I.pin p hp;refine⟨(hs.2 p.1 ?_).trans e,n,ne,nf,d⟩;intro q;rw[q,hoc]at e;have q':oc=p.2:=Z6 e;exact d w' (by rw[←q'];exact hocd)
theorem b0g'{M:Model}{A:Around}{E:Vs}{i:Nat}{x:Str}{v:V}{Q:Unit→Shared→Prop}(I:Inv X pq σ H s)(hN:X.N.Nodup)(hi:X.N[i]?=some x)(hx:Loc X.env.scope x)(r:RelV v u)
  (h:∀s',Inv X pq (σ.set i (some v)) H s'→Q () s') (hf:X.fn x=true∨X.env.scope.names.lookup x=some .local:=by first|exact .inl rfl|exact .inr rfl|assumption):wpAny M A (storeName X.env x u) Q E s:=
 a8m' I hN hi hx r (λs' I' _=>h s' I') hf
theorem Inv.call'(I:Inv X pq σ H s)(ho:s'.os=s.os)(u:Un (frs X.stack) ch H H' s.heap s'.heap)(hok:HOk X.prog X.w H' s'.heap)(hg:AllBare s'.gens)
  (hch:∀b∈ch,(b∈X.ex∨X.s₀.heap.objs.size≤b)∧b≠X.env.locals∧(∀x c,X.env.cells.lookup x=some c→c≠b)∧∀p∈X.pn++pq,p.1≠b):Inv X pq σ H' s':=by
 obtain⟨h',g',d',t',o'⟩:=s';have e:o'=s.os:=ho;subst e;exact I.call (g':=g') (t':=t') (d':=d') u hok hg hch
end
abbrev XK:=Value→Option Addr→Hp→Prop
abbrev St:=List (Option V)
abbrev VK:=V→Hp→Prop
abbrev TE:=St→Hp→VK→Prop
abbrev TT:=St→Hp→(Bool→Hp→Prop)→Prop
abbrev TA:=St→Hp→(List V→Hp→Prop)→Prop
structure Ends where
 nx:St→Hp→Prop
 rt:VK
 bk:St→Hp→Prop:=λ_ _=>False
 ct:St→Hp→Prop:=λ_ _=>False
abbrev TS:=Ends→St→Hp→Prop
def EP(X:Cx)(pq:Lp)(σ:St)(Q:VK)(u:Value)(s':Shared):Prop:=∃v H',Inv X pq σ H' s'∧RelV v u∧Q v H'
def TP(X:Cx)(pq:Lp)(σ:St)(Q:Bool→Hp→Prop)(b:Bool)(s':Shared):Prop:=∃H',Inv X pq σ H' s'∧Q b H'
def AP(X:Cx)(pq:Lp)(σ:St)(Q:List V→Hp→Prop)(us:Lv)(s':Shared):Prop:=∃vs H',Inv X pq σ H' s'∧Vals vs us∧Q vs H'
def SP(X:Cx)(pq:Lp)(D:Ends)(f:Flow)(s':Shared):Prop:=
 match f with
 | .next=>∃σ' H',Inv X pq σ' H' s'∧D.nx σ' H'
 | .brk=>∃σ' H',Inv X pq σ' H' s'∧D.bk σ' H'
 | .cont=>∃σ' H',Inv X pq σ' H' s'∧D.ct σ' H'
 | .ret u=>∃v σ' H',Inv X pq σ' H' s'∧RelV v u∧D.rt v H'
def PE(X:Cx)(e:Expr)(t:TE):Prop:=
 ∀(pq:Lp) (s:Shared) (σ:St) (H:Hp) (Q:VK),Inv X pq σ H s→t σ H Q→wpAny (model X.prog X.w) X.A (eval e X.env) (EP X pq σ Q) X.xe s
def PT(X:Cx)(e:Expr)(t:TT):Prop:=
 ∀(pq:Lp) (s:Shared) (σ:St) (H:Hp) (Q:Bool→Hp→Prop),Inv X pq σ H s→t σ H Q→wpAny (model X.prog X.w) X.A (isTrue e X.env (eval e X.env)) (TP X pq σ Q) X.xe s
def PW(X:Cx)(e:Expr)(t:TT):Prop:=
 ∀(whole:Sem Value) (pq:Lp) (s:Shared) (σ:St) (H:Hp) (Q:Bool→Hp→Prop),Inv X pq σ H s→t σ H Q→wpAny (model X.prog X.w) X.A (isTrue e X.env whole) (TP X pq σ Q) X.xe s
theorem PW.pt{X:Cx}{t:TT}(h:PW X e t):PT X e t:=h _
def PA(X:Cx)(es:Lx)(t:TA):Prop:=
 ∀(pos:Pos) (pq:Lp) (s:Shared) (σ:St) (H:Hp) (Q:List V→Hp→Prop),Inv X pq σ H s→t σ H Q→wpAny (model X.prog X.w) X.A (spliced (backTo pos (starEach es X.env))) (AP X pq σ Q) X.xe s
def PS(X:Cx)(st:Stmt)(t:TS):Prop:=
 ∀(pq:Lp) (s:Shared) (σ:St) (H:Hp) (D:Ends),Inv X pq σ H s→t D σ H→wpAny (model X.prog X.w) X.A (exec st X.env) (SP X pq D) X.xe s
def PSs(X:Cx)(st:List Stmt)(t:TS):Prop:=
 ∀(pq:Lp) (s:Shared) (σ:St) (H:Hp) (D:Ends),Inv X pq σ H s→t D σ H→wpAny (model X.prog X.w) X.A (execs st X.env) (SP X pq D) X.xe s
theorem thn{t:Sem α}{Q Q':α→Shared→Prop}{M:Model}(h:wpAny M A t Q E s)(hQ:∀a s,Q a s→Q' a s):wpAny M A t Q' E s:=wpAny_mono h hQ λ_ _ x=>x
section
variable {X:Cx}
def tVar(i:Nat):TE:=λσ H Q=>∃v,σ[i]?=some (some v)∧Q v H
def tC(v:V):TE:=λ_ H Q=>Q v H
theorem pe_var{i:Nat}{x:Str}{pos:Pos}(hN:X.N[i]?=some x)(hv:Vis X.env.scope x)(hd:(x==("__debug__":Str))=false:=by decide)(hcd:(x==("__classdict__":Str))=false:=by decide):PE X (.Name x pos) (tVar i):=by
 intro pq s σ H Q I h;obtain⟨v,e,h⟩:=h;obtain⟨m,hn,hl⟩:=I.loc;obtain⟨u,r,l⟩:=hl i x v hN e hv;have fin:EP X pq σ Q u s:=⟨v,H,I,r,h⟩;rcases l with⟨hk,hm⟩| ⟨hk,c,hc,hcell⟩
 ·exact wpAny_Name (wpAny_loadName_local I.ok.kind hk hn hm fin) hd
 ·rcases hk with hk|hk
  ·exact wpAny_Name (wpAny_loadName_cell I.ok.kind hk hc hcell fin) hd
  ·exact wpAny_Name (wpAny_loadName_free I.ok.kind hk hc hcell fin hcd) hd
theorem pe_int{i j pos}:PE X (.Constant (.int i) j pos) (tC (.int i)):=λ_ _ _ H _ I h=>wpAny_Constant_int ⟨.int i,H,I.tok _,⟨_,rfl⟩,h⟩
theorem pe_bl{b j pos}:PE X (.Constant (.bool b) j pos) (tC (.bl b)):=λ_ _ _ H _ I h=>Constant_bool ⟨.bl b,H,I,rfl,h⟩
theorem pe_non{j pos}:PE X (.Constant .none j pos) (tC .non):=λ_ _ _ H _ I h=>Constant_none ⟨.non,H,I,rfl,h⟩
theorem pe_str{x j pos}:PE X (.Constant (.str x) j pos) (tC (.str x)):=λ_ _ _ H _ I h=>Calls.Constant_str ⟨.str x,H,I.tok _,⟨_,rfl⟩,h⟩
def Gl(X:Cx)(x:Str):Prop:=X.env.kindOf x=some .globalImplicit
theorem b3L'{E:Vs}{σ:St}{H:Hp}{x:Str}{pos:Pos}(I:Inv X pq σ H s)(hg:Gl X x)(hm:X.mg x=some u)(h:Q u s)
  (hd:(x==("__debug__":Str))=false:=by decide):wpAny (model X.prog X.w) X.A (eval (.Name x pos) X.env) Q E s:=
 Calls.Name_function_global I.ok.kind hg (Calls.loadGlobal_global (by rw[I.ok.glob];exact I.mod.glob.keeps I.bk) hm h) hd
theorem a5j'{E:Vs}{σ:St}{H:Hp}{x:Str}{pos:Pos}(I:Inv X pq σ H s)(hg:Gl X x)(hm:X.mg x=none)(hv:bootBuiltins x=some u)(h:Q u s)
  (hn:x≠"__name__":=by decide) (hd:(x==("__debug__":Str))=false:=by decide):wpAny (model X.prog X.w) X.A (eval (.Name x pos) X.env) Q E s:=by
 obtain⟨mb,h1,h2⟩:=I.mod.blt;exact Calls.Name_function_global I.ok.kind hg (Calls.loadGlobal_builtin (by rw[I.ok.glob];exact I.mod.glob.keeps I.bk) hm (by rw[I.ok.blt];exact h1.keeps I.bk) ((h2 x hn).trans hv) h) hd
theorem pe_glob{x:Str}{v:V}{pos:Pos}(hg:Gl X x)(hm:X.mg x=some u)(r:RelV v u)(hd:(x==("__debug__":Str))=false:=by decide):PE X (.Name x pos) (tC v):=
 λ_ _ _ H _ I h=>b3L' I hg hm ⟨v,H,I,r,h⟩ hd
theorem pe_bltn{x:Str}{v:V}{pos:Pos}(hg:Gl X x)(hm:X.mg x=none)(hv:bootBuiltins x=some u)(r:RelV v u)(hn:x≠"__name__":=by decide)(hd:(x==("__debug__":Str))=false:=by decide):PE X (.Name x pos) (tC v):=
 λ_ _ _ H _ I h=>a5j' I hg hm hv ⟨v,H,I,r,h⟩ hn hd
variable {a b:Expr}{ta tb:TE}{pos:Pos}
variable {tA tB':TT}
def tAnd(t u:TT):TT:=λσ H Q=>t σ H λc H1=>if c=true then u σ H1 Q else Q false H1
def tOr(t u:TT):TT:=λσ H Q=>t σ H λc H1=>if c=true then Q true H1 else u σ H1 Q
def tNot(t:TT):TT:=λσ H Q=>t σ H λc H1=>Q (!c) H1
theorem pw_and1(ha:PT X a tA):PW X (.BoolOp .And [a] pos) tA:=by
 intro wh pq s σ H Q I h;refine isTrue_and (thn (ha pq s σ H Q I h) λc s1 e=>?_);cases c with
 |true=>exact isTrue_and_nil e
 |false=>exact e
theorem pw_or1(ha:PT X a tA):PW X (.BoolOp .Or [a] pos) tA:=by
 intro wh pq s σ H Q I h;refine isTrue_or (thn (ha pq s σ H Q I h) λc s1 e=>?_);cases c with
 |false=>exact isTrue_or_nil e
 |true=>exact e
theorem pw_and(ha:PT X a tA)(hb:PW X (.BoolOp .And (b::rest) pos) tB'):PW X (.BoolOp .And (a::b::rest) pos) (tAnd tA tB'):=by
 intro wh pq s σ H Q I h;refine isTrue_and (thn (ha pq s σ H _ I h) λc s1 ⟨H1,I1,q1⟩=>?_);cases c with
 |true=>exact hb wh pq s1 σ H1 Q I1 q1
 |false=>exact⟨H1,I1,q1⟩
theorem pw_or(ha:PT X a tA)(hb:PW X (.BoolOp .Or (b::rest) pos) tB'):PW X (.BoolOp .Or (a::b::rest) pos) (tOr tA tB'):=by
 intro wh pq s σ H Q I h;refine isTrue_or (thn (ha pq s σ H _ I h) λc s1 ⟨H1,I1,q1⟩=>?_);cases c with
 |true=>exact⟨H1,I1,q1⟩
 |false=>exact hb wh pq s1 σ H1 Q I1 q1
theorem pt_not(ha:PT X a tA):PT X (.UnaryOp .Not a pos) (tNot tA):=by intro pq s σ H Q I h;exact isTrue_not (ha pq s σ H (λc H1=>Q (!c) H1) I h)
def tAndV(ta tb:TE):TE:=λσ H Q=>ta σ H λx H1=>∃c,x=.bl c∧if c=true then tb σ H1 Q else Q (.bl false) H1
def tOrV(ta tb:TE):TE:=λσ H Q=>ta σ H λx H1=>∃c,x=.bl c∧if c=true then Q (.bl true) H1 else tb σ H1 Q
theorem pe_one{op}{t:TE}(h:PE X a t):PE X (.BoolOp op [a] pos) t:=λpq s σ H Q I hw=>BoolOp_one (h pq s σ H Q I hw)
theorem pe_and(ha:PE X a ta)(hb:PE X (.BoolOp .And (b::rest) pos) tb):PE X (.BoolOp .And (a::b::rest) pos) (tAndV ta tb):=by
 intro pq s σ H Q I h;refine BoolOp_and (thn (ha pq s σ H _ I h) λv s1 ⟨x,H1,I1,r1,q1⟩=>?_);obtain⟨c,rfl,q1⟩:=q1;cases r1;refine Yn ?_;cases c with
 |true=>exact hb pq s1 σ H1 Q I1 q1
 |false=>exact⟨.bl false,H1,I1,rfl,q1⟩
theorem pe_or(ha:PE X a ta)(hb:PE X (.BoolOp .Or (b::rest) pos) tb):PE X (.BoolOp .Or (a::b::rest) pos) (tOrV ta tb):=by
 intro pq s σ H Q I h;refine BoolOp_or (thn (ha pq s σ H _ I h) λv s1 ⟨x,H1,I1,r1,q1⟩=>?_);obtain⟨c,rfl,q1⟩:=q1;cases r1;refine Yn ?_;cases c with
 |false=>exact hb pq s1 σ H1 Q I1 q1
 |true=>exact⟨.bl true,H1,I1,rfl,q1⟩
def tIf(t:TT)(ta tb:TE):TE:=λσ H Q=>t σ H λc H1=>if c=true then ta σ H1 Q else tb σ H1 Q
theorem b4D'{c:Expr}(hc:PT X c tA)(ha:PE X a ta)(hb:PE X b tb):PE X (.IfExp c a b pos) (tIf tA ta tb):=by
 intro pq s σ H Q I h;refine wpAny_IfExp (thn (hc pq s σ H _ I h) λd s1 ⟨H1,I1,q1⟩=>?_);cases d with
 |true=>exact ha pq s1 σ H1 Q I1 q1
 |false=>exact hb pq s1 σ H1 Q I1 q1
end
def SqL(K:Fg)(H:Hp)(a:Addr)(xs:List V):Prop:=
 Rd H a (.lst xs)∨
  ∃(o:Obj) (its:Av) (n:Nat),K.lookup a=some o∧o.cls=.type "list"∧o.dict=none∧o.data=.seq its n∧its.size≤sizeLine∧Vals xs its.toList
def SqT(K:Fg)(H:Hp)(a:Addr)(xs:List V):Prop:=
 Rd H a (.tup xs)∨
  ∃(o:Obj) (its:Av) (n:Nat),K.lookup a=some o∧o.cls=.type "tuple"∧o.dict=none∧o.data=.seq its n∧its.size≤sizeLine∧Vals xs its.toList
noncomputable def absV:Value→Option V
 | .none=>some .non
 | .bool b=>some (.bl b)
 | .int i _=>some (.int i)
 | .str x _=>some (.str x)
 | .bytes b _=>some (.byt b)
 | .float b _=>some (.flt b)
 | .ref a=>some (.ref a)
 | .type n=>some (.ty n)
 |_=>none
theorem RelV.abs{x:V}(r:RelV x u):absV u=some x:=by
 cases x with
 |non=>cases r;rfl
 |bl _=>cases r;rfl
 |int _=>obtain⟨t,rfl⟩:=r;rfl
 |str _=>obtain⟨t,rfl⟩:=r;rfl
 |byt _=>obtain⟨t,rfl⟩:=r;rfl
 |flt _=>obtain⟨t,rfl⟩:=r;rfl
 |ref _=>cases r;rfl
 |ty _=>cases r;rfl
theorem RelV.inj{x y:V}(r:RelV x u)(q:RelV y u):x=y:=Z6 (r.abs.symm.trans q.abs)
theorem Vals.inj:∀{xs ys:List V} {us:Lv},Vals xs us→Vals ys us→xs=ys
 |_,_,_,.nil,.nil=>rfl
 |_,_,_,.cons r t,.cons r' t'=>by rw[r.inj r',Vals.inj t t']
section
variable {X:Cx}{σ:St}{H:Hp}{xs ys:List V}
theorem SqL.of(h:H a=some (.lst xs)):SqL K H a xs:=.inl (.inl h)
theorem SqT.of(h:H a=some (.tup xs)):SqT K H a xs:=.inl (.inl h)
theorem Inv.list(I:Inv X pq σ H s)(h:SqL X.K H a xs):∃its:Lv,Vals xs its∧PlainL s.heap a its.toArray∧xs.length≤sizeLine:=by
 rcases h with h| ⟨o,its,n,hk,hc,hd,hs,hz,r⟩
 ·obtain⟨z,its,n,r,e⟩:=h.ok I.hok;exact⟨its,r,⟨_,n,e,rfl,rfl,rfl⟩,z⟩
 ·refine⟨its.toList,r,⟨o,n,I.kIn a o hk,hc,hd,by simpa using hs⟩,?_⟩;have e:=r.length;simp only[Zt]at e;omega
theorem Inv.tuple(I:Inv X pq σ H s)(h:SqT X.K H a xs):∃its:Lv,Vals xs its∧IsTup s.heap a its.toArray∧xs.length≤sizeLine:=by
 rcases h with h| ⟨o,its,n,hk,hc,_,hs,hz,r⟩
 ·obtain⟨z,its,r,p,_⟩:=h.ok I.hok;exact⟨its,r,p,z⟩
 ·refine⟨its.toList,r,⟨o,I.kIn a o hk,hc,n,by simpa using hs⟩,?_⟩;have e:=r.length;simp only[Zt]at e;omega
theorem Inv.list_inj(I:Inv X pq σ H s)(h:SqL X.K H a xs)(h':SqL X.K H a ys):xs=ys:=by
 obtain⟨its,r,⟨o,n,e,_,_,d⟩,_⟩:=I.list h;obtain⟨its',r',⟨o',n',e',_,_,d'⟩,_⟩:=I.list h';rw[e]at e';cases e';rw[d]at d';injection d' with d1 _
 have:its=its':=by simpa using congrArg Array.toList d1
 subst this;exact r.inj r'
theorem Inv.tuple_inj(I:Inv X pq σ H s)(h:SqT X.K H a xs)(h':SqT X.K H a ys):xs=ys:=by
 obtain⟨its,r,⟨o,e,_,n,d⟩,_⟩:=I.tuple h;obtain⟨its',r',⟨o',e',_,n',d'⟩,_⟩:=I.tuple h';rw[e]at e';cases e';rw[d]at d';injection d' with d1 _
 have:its=its':=by simpa using congrArg Array.toList d1
 subst this;exact r.inj r'
end
abbrev Cx.wish(X:Cx)(E:Vs):Cx:={X with xe:=E}
abbrev Cx.nox(X:Cx):Cx:=X.wish λ_ _=>False
theorem Cx.Ok.wish{X:Cx}(ok:X.Ok)(E:Vs):(X.wish E).Ok:=
 ⟨ok.mod,ok.kind,ok.glob,ok.blt,ok.above,ok.inj,ok.has,ok.cab,ok.hd,ok.frames,ok.stk,ok.exf,ok.bs,ok.bsz,ok.noex,ok.exfs,ok.funs,ok.frf⟩
theorem Cx.Ok.unwish{X:Cx}(ok:(X.wish E).Ok):X.Ok:=
 ⟨ok.mod,ok.kind,ok.glob,ok.blt,ok.above,ok.inj,ok.has,ok.cab,ok.hd,ok.frames,ok.stk,ok.exf,ok.bs,ok.bsz,ok.noex,ok.exfs,ok.funs,ok.frf⟩
section
variable {X:Cx}{σ:St}{H:Hp}
theorem Inv.wish(I:Inv X pq σ H s)(E:Vs):Inv (X.wish E) pq σ H s:=⟨I.ok.wish E,I.os,I.bare,I.base,I.loc,I.cell,I.free,I.freeC,I.pin,I.hok,I.len⟩
theorem Inv.unwish(I:Inv (X.wish E) pq σ H s):Inv X pq σ H s:=⟨I.ok.unwish,I.os,I.bare,I.base,I.loc,I.cell,I.free,I.freeC,I.pin,I.hok,I.len⟩
theorem SP.unwish{D:Ends}{f:Flow}(h:SP (X.wish E) pq D f s'):SP X pq D f s':=by
 cases f with
 |next=>obtain⟨σ',H',I,q⟩:=h;exact⟨σ',H',I.unwish,q⟩
 |brk=>obtain⟨σ',H',I,q⟩:=h;exact⟨σ',H',I.unwish,q⟩
 |cont=>obtain⟨σ',H',I,q⟩:=h;exact⟨σ',H',I.unwish,q⟩
 |ret u=>obtain⟨v,σ',H',I,r,q⟩:=h;exact⟨v,σ',H',I.unwish,r,q⟩
theorem PSs.nox{st:List Stmt}{t:TS}(h:PSs X.nox st t):PSs X st t:=λpq s σ H D I hw=>
 wpAny_mono (h pq s σ H D (I.wish _) hw) (λ_ _ q=>q.unwish) λ_ _ z=>False.elim z
end
section
variable {X:Cx}{rest:List Stmt}{t u:TS}{te:TE}{pos:Pos}
def tNext:TS:=λD σ H=>D.nx σ H
def tSeq(t u:TS):TS:=λD σ H=>t {D with nx:=u D} σ H
theorem pss_nil:PSs X [] tNext:=λ_ _ σ H _ I h=>wpAny_execs_nil ⟨σ,H,I,h⟩
theorem b4E'(h1:PS X st t)(h2:PSs X rest u):PSs X (st::rest) (tSeq t u):=by
 intro pq s σ H D I h;refine wpAny_execs_cons (thn (h1 pq s σ H {D with nx:=u D} I h) λf s1 q=>?_);cases f with
 |next=>obtain⟨σ',H',I',q⟩:=q;exact h2 pq s1 σ' H' D I' q
 |ret v=>exact q
 |brk=>exact q
 |cont=>exact q
def tBreak:TS:=λD σ H=>D.bk σ H
def tCont:TS:=λD σ H=>D.ct σ H
theorem ps_pass:PS X (.Pass pos) tNext:=λ_ _ σ H _ I h=>wpAny_Pass ⟨σ,H,I,h⟩
theorem b4F':PS X (.Break pos) tBreak:=λ_ _ σ H _ I h=>wpAny_Break ⟨σ,H,I,h⟩
theorem a9n':PS X (.Continue pos) tCont:=λ_ _ σ H _ I h=>wpAny_Continue ⟨σ,H,I,h⟩
theorem Inv.quiet{σ:St}{H:Hp}(I:Inv X pq σ H s):interactive X.env=false:=by simp[interactive,I.ok.kind]
def tDrop(te:TE):TS:=λD σ H=>te σ H λ_ H1=>D.nx σ H1
theorem ps_expr(he:PE X e te)(hs:swapsWith e none pos.line X.env=pure false:=by rfl):PS X (.Expr e pos) (tDrop te):=by intro pq s σ H D I h;exact wpAny_Expr_any (thn (he pq s σ H _ I h) λv s1 ⟨x,H1,I1,r1,q1⟩=>⟨σ,H1,I1,q1⟩) I.quiet hs
def tRet(te:TE):TS:=λD σ H=>te σ H D.rt
theorem ps_ret(he:PE X e te):PS X (.Return (some e) pos) (tRet te):=by intro pq s σ H D I h;exact wpAny_Return_some (thn (he pq s σ H _ I h) λv s1 ⟨x,H1,I1,r1,q1⟩=>⟨x,σ,H1,I1,r1,q1⟩)
def tRetN:TS:=λD _ H=>D.rt .non H
theorem ps_retN:PS X (.Return none pos) tRetN:=λ_ _ σ H _ I h=>wpAny_Return_none ⟨.non,σ,H,I,rfl,h⟩
def tIfS(c:TT)(t u:TS):TS:=λD σ H=>c σ H λb H1=>if b=true then t D σ H1 else u D σ H1
theorem ps_if{c:Expr}{a b:List Stmt}{tc:TT}(hc:PT X c tc)(ha:PSs X a t)(hb:PSs X b u):PS X (.If c a b pos) (tIfS tc t u):=by
 intro pq s σ H D I h;refine wpAny_If (thn (hc pq s σ H _ I h) λd s1 ⟨H1,I1,q1⟩=>?_);cases d with
 |true=>exact ha pq s1 σ H1 D I1 q1
 |false=>exact hb pq s1 σ H1 D I1 q1
end
abbrev TG:=V→St→Hp→(St→Hp→Prop)→Prop
abbrev TGs:=List V→St→Hp→(St→Hp→Prop)→Prop
def PG(X:Cx)(target:Expr)(t:TG):Prop:=
 ∀(pq:Lp) (s:Shared) (σ:St) (H:Hp) (v:V) (u:Value) (Q:St→Hp→Prop),Inv X pq σ H s→RelV v u→t v σ H Q→
  wpAny (model X.prog X.w) X.A (assign target X.env u) (λ_ s'=>∃σ' H',Inv X pq σ' H' s'∧Q σ' H') X.xe s
def PGs(X:Cx)(ts:Lx)(t:TGs):Prop:=
 ∀(pq:Lp) (s:Shared) (σ:St) (H:Hp) (vs:List V) (us:Lv) (Q:St→Hp→Prop),Inv X pq σ H s→Vals vs us→t vs σ H Q→
  wpAny (model X.prog X.w) X.A (assignInOrder ((assignEach ts X.env).map (·.2)) us) (λ_ s'=>∃σ' H',Inv X pq σ' H' s'∧Q σ' H') X.xe s
section
variable {X:Cx}{pos:Pos}
def gName(i:Nat):TG:=λv σ H Q=>Q (σ.set i (some v)) H
theorem pg_name{i:Nat}{x:Str}(hN:X.N.Nodup)(hi:X.N[i]?=some x)(hx:Loc X.env.scope x)(hf:X.fn x=true∨X.env.scope.names.lookup x=some .local:=by first|exact .inl rfl|exact .inr rfl|assumption):PG X (.Name x pos) (gName i):=by intro pq s σ H v u Q I r h;exact wpAny_assign_Name (b0g' I hN hi hx r (λs' I'=>⟨_,H,I',h⟩) hf)
def gNil:TGs:=λvs σ H Q=>vs=[]∧Q σ H
noncomputable def gCons(t:TG)(u:TGs):TGs:=λvs σ H Q=>∃v r,vs=v::r∧t v σ H λσ' H'=>u r σ' H' Q
theorem pgs_nil:PGs X [] gNil:=by intro pq s σ H vs us Q I r h;obtain⟨e,h⟩:=h;subst e;cases r;exact assignInOrder_nil ⟨σ,H,I,h⟩
theorem b4G'{es:Lx}{t:TG}{u:TGs}(h1:PG X e t)(h2:PGs X es u)
  (hs:(assignEach (e::es) X.env).map (·.2)=assign e X.env::(assignEach es X.env).map (·.2):=by rfl):PGs X (e::es) (gCons t u):=by
 intro pq s σ H vs us Q I r h;obtain⟨v,vr,e1,h⟩:=h;subst e1;cases r with
 |cons r rr=>rw[hs];refine assignInOrder_cons (thn (h1 pq s σ H _ _ _ I r h) λ_ s1 ⟨σ1,H1,I1,q1⟩=>?_);exact h2 pq s1 σ1 H1 _ _ Q I1 rr q1
def gTup(K:Fg)(n:Nat)(t:TGs):TG:=λv σ H Q=>∃a xs,v=.ref a∧SqT K H a xs∧xs.length=n∧t xs σ H Q
theorem pg_tup{es:Lx}{k:Nat}{t:TGs}(hc:X.calm=true)(h:PGs X es t)
  (hn:(assignEach es X.env).length=n:=by rfl) (hst:(assignEach es X.env).findIdx? (·.1)=none:=by rfl):PG X (.Tuple es k pos) (gTup X.K n t):=by
 intro pq s σ H v u Q I r hw;obtain⟨a,xs,e1,hq,hl,hw⟩:=hw;subst e1;cases r;obtain⟨its,rv,ht,hz⟩:=I.tuple hq;refine assign_Tuple_tuple (I.ok.hd hc) ht (by simp[hn,←hl,rv.length]) hst λh' hx=>?_;have I1:Inv X pq σ H {s with heap:=h'}:=I.kept (t':=s.toks) λb o e=>hx b o (ZJ (Zr e)) e;exact h pq _ σ H xs _ Q I1 (by simpa using rv) hw
def tAsg(te:TE)(g:TG):TS:=λD σ H=>te σ H λx H1=>g x σ H1 D.nx
theorem ps_asg{te:TE}{g:TG}(he:PE X e te)(hg:PG X tg g)(hs:swapsWithSole [tg] e pos.line X.env=pure false:=by rfl)(hw:swappedStores [tg] e X.env=pure none:=by rfl)
  (h1:(assignEach [tg] X.env).map (·.2)=[assign tg X.env]:=by rfl):PS X (.Assign [tg] e pos) (tAsg te g):=by
 intro pq s σ H D I h;refine wpAny_Assign_stores (thn (he pq s σ H _ I h) λv s1 ⟨x,H1,I1,r1,q1⟩=>?_) hs hw;rw[h1];exact thn (hg pq s1 σ H1 x v _ I1 r1 q1) λ_ s2 q=>q
theorem ps_set{i:Nat}{x:Str}{te:TE}(hN:X.N.Nodup)(hi:X.N[i]?=some x)(hx:Loc X.env.scope x)(he:PE X e te)(hs:swapsWith e (some (.Name x pos')) pos.line X.env=pure false:=by rfl)(hf:X.fn x=true∨X.env.scope.names.lookup x=some .local:=by first|exact .inl rfl|exact .inr rfl|assumption):
  PS X (.Assign [.Name x pos'] e pos) (tAsg te (gName i)):=by
 intro pq s σ H D I h;refine wpAny_Assign_Name (thn (he pq s σ H _ I h) λv s1 ⟨y,H1,I1,r1,q1⟩=>?_) hs;exact b0g' I1 hN hi hx r1 (λs2 I2=>⟨_,H1,I2,q1⟩) hf
end
section
variable {X:Cx}{pos:Pos}
def tWhile(c:TT)(tb:TS):TS:=λD σ H=>∃W:Nat→St→Hp→Prop,(∃m,W m σ H)∧∀m σ H,W m σ H→
 c σ H λb H1=>if b=true then ∃N:St→Hp→Prop,(∀σ' H',N σ' H'→∃m',m'<m∧W m' σ' H')∧tb {D with nx:=N,ct:=N,bk:=D.nx} σ H1 else D.nx σ H1
theorem b4H'{c:Expr}{body:List Stmt}{tc:TT}{tb:TS}(hp:PassesOwn (model X.prog X.w) X.A X.env X.xe)(hc:PT X c tc)(hb:PSs X body tb):PS X (.While c body [] pos) (tWhile tc tb):=by
 intro pq s σ H D I h;obtain⟨W,⟨m0,w0⟩,turn⟩:=h;refine wpAny_While (codeAny_whileLoop (λn s'=>∃σ' H',Inv X pq σ' H' s'∧W n σ' H') ?_ m0 ⟨σ,H,I,w0⟩);rintro n s1 ⟨σ1,H1,I1,w1⟩;refine wpAny_passesOwn hp (thn (hc pq s1 σ1 H1 _ I1 (turn n σ1 H1 w1)) λb s2 ⟨H2,I2,q2⟩=>?_);cases b with
 |true=>
  obtain⟨N,hN,q2⟩:=q2;rw[if_pos rfl];refine wpAny_passesOwn hp (thn (hb pq s2 σ1 H2 _ I2 q2) λf s3 q3=>?_);cases f with
  |next=>obtain⟨σ3,H3,I3,n3⟩:=q3;obtain⟨m',hm,w3⟩:=hN σ3 H3 n3;exact⟨m',hm,σ3,H3,I3,w3⟩
  |cont=>obtain⟨σ3,H3,I3,n3⟩:=q3;obtain⟨m',hm,w3⟩:=hN σ3 H3 n3;exact⟨m',hm,σ3,H3,I3,w3⟩
  |brk=>exact q3
  |ret v=>exact q3
 |false=>rw[if_neg Ya];exact wpAny_execs_nil ⟨σ1,H2,I2,q2⟩
end
structure It where
 go:Nat→Hp→Prop
 yld:Nat→Hp→V→Hp→Prop
 stop:Nat→Hp→Prop
def FpOk(X:Cx)(pq:Lp)(H:Hp)(b:Addr):Prop:=
 H b=none∧b≠X.env.locals∧b∉X.fs∧(b∈X.ex∨X.s₀.heap.objs.size≤b)∧(∀x c,X.env.cells.lookup x=some c→c≠b)∧∀p∈X.pn++pq,p.1≠b
theorem Inv.fpOk{X:Cx}{σ:St}{H H':Hp}{b:Addr}(I:Inv X pq σ H s)(hb:s.heap.objs.size≤b)(hn:H' b=none):FpOk X pq H' b:=by
 refine⟨hn,Nat.ne_of_gt (ZU I.lt hb),I.nofs hb,.inr (ZP I.sz hb),λx c e z=>?_,λp hp z=>?_⟩
 ·obtain⟨v,q⟩:=I.cell x c e;exact absurd (ZU q.lt (by rw[z];exact hb)) (Nat.lt_irrefl _)
 ·exact absurd (ZU (Zr (I.pin p hp).1) (by rw[z];exact hb)) (Nat.lt_irrefl _)
structure Turn (P:Program)(w:World)(K:Fg)(tg:Expr)(J:It)(fp:La)(it:Addr)(tn:Nat→Heap→Prop):Prop where
 mem:it∈fp
 obj:∀i h,tn i h→∀b∈fp,∃o,h.get? b=some o∧∀v,o.data≠.cell v
 keep:∀i h h',tn i h→(∀b∈fp,∀o,h.get? b=some o→h'.get? b=some o)→tn i h'
 item:∀(X:Cx),X.prog=P→X.w=w→X.K=K→X.calm=true→∀(i:Nat) (pq:Lp) (s:Shared) (σ:St) (H:Hp) (E:Vs),Inv X pq σ H s→(∀b∈fp,FpOk X pq H b)→tn i s.heap→J.go i H→
  wpAny (model P w) X.A (pyNext (.ref it)) (λr s1=>∃u,r=some u∧
   wpAny (model P w) X.A (letOwnedTupleGo tg (.ref it) u) (λ_ s2=>∃x H',Inv X pq σ H' s2∧RelV x u∧J.yld i H x H'∧tn (i+1) s2.heap∧∀b∈fp,H' b=none) E s1) E s
 done:∀(X:Cx),X.prog=P→X.w=w→X.K=K→X.calm=true→∀(i:Nat) (pq:Lp) (s:Shared) (σ:St) (H:Hp) (E:Vs),Inv X pq σ H s→(∀b∈fp,FpOk X pq H b)→tn i s.heap→J.stop i H→
  wpAny (model P w) X.A (pyNext (.ref it)) (λr s1=>r=none∧Inv X pq σ H s1) E s
 self:∀(A:Around) (i:Nat) (s:Shared) (Q:Vs) (E:Vs),tn i s.heap→Q (.ref it) s→wpAny (model P w) A (pyIter (.ref it)) Q E s
abbrev TI:=St→Hp→(It→Hp→Prop)→Prop
def PIE(X:Cx)(pq:Lp)(σ:St)(tg:Expr)(R:It→Hp→Prop)(itv:Value)(s2:Shared):Prop:=
 ∃(it:Addr) (fp:La) (tn:Nat→Heap→Prop) (J:It) (H':Hp),itv=.ref it∧Inv X pq σ H' s2∧Turn X.prog X.w X.K tg J fp it tn∧tn 0 s2.heap∧(∀b∈fp,FpOk X pq H' b)∧R J H'
def PI(X:Cx)(tg iter:Expr)(wi:TI):Prop:=
 ∀(pq:Lp) (s:Shared) (σ:St) (H:Hp) (R:It→Hp→Prop),Inv X pq σ H s→wi σ H R→
  wpAny (model X.prog X.w) X.A (eval iter X.env) (λv s1=>wpAny (model X.prog X.w) X.A (pyIter v) (PIE X pq σ tg R) X.xe s1) X.xe s
theorem go_of{M:Model}{o:Obj}{n:String}{vs:Av}{Q:Unit→Shared→Prop}(ho:s.heap.get? it=some o)(hc:o.cls=.type n)(hd:o.data=.fields vs)
  (hn:["enumerate","zip","dict_itemiterator","dict_reverseitemiterator","odict_iterator","itertools.zip_longest","itertools.pairwise"].contains n=false) (hQ:Q () s):wpAny M A (letOwnedTupleGo tg (.ref it) u) Q E s:=by
 unfold letOwnedTupleGo
 cases tg<;>first
  |exact Zf hQ
  | (cases u<;>first
    |exact Zf hQ
    | (refine Za (wpAny_load ho ?_)
       rw[hc,hd];show wpAny M A (if(["enumerate","zip","dict_itemiterator","dict_reverseitemiterator","odict_iterator","itertools.zip_longest","itertools.pairwise"].contains n&&vs[0]?==some (rawInt _))=true then _ else _) Q E s;rw[if_neg (by intro h;rw[hn,Bool.false_and]at h;cases h)];exact Zf hQ))
noncomputable def Itl(K:Fg)(a:Addr):It:=
 ⟨λi H=>∃xs x,SqL K H a xs∧xs[i]?=some x,λi H x H'=>H'=H∧∀xs,SqL K H a xs→xs[i]?=some x,λi H=>∃xs,SqL K H a xs∧xs.length≤i⟩
noncomputable def Itt(K:Fg)(a:Addr):It:=
 ⟨λi H=>∃xs x,SqT K H a xs∧xs[i]?=some x,λi H x H'=>H'=H∧∀xs,SqT K H a xs→xs[i]?=some x,λi H=>∃xs,SqT K H a xs∧xs.length≤i⟩
noncomputable def Itr(lo:Int)(n:Nat):It:=⟨λi _=>i<n,λi H x H'=>H'=H∧x=.int (lo+i),λi _=>n≤i⟩
theorem b2C'(a it:Addr):Turn P w K tg (Itl K a) [it] it (λi h=>h.IsListIter it a i) where
 mem:=by simp
 obj:=λi h st b hb=>by
  have e:b=it:=by simpa using hb
  subst e;obtain⟨o,e,c,d⟩:=st;exact⟨o,e,λv z=>by rw[d]at z;cases z⟩
 keep:=λi h h' st k=>st.at λo e=>k it (by simp) o e
 item:=by intro X hP hw hK hc i pq s σ H E I hf st hg;subst hP hw hK;obtain⟨xs,x,hq,hx⟩:=hg;obtain⟨its,rv,p,hz⟩:=I.list hq;obtain⟨u,hu,ru⟩:=rv.get hx;obtain⟨f0,f1,f2,f3,f4,f5⟩:=hf it (by simp);refine wpAny_pyNext_list_item st p.isList (x:=u) (by simpa using hu) λh' st' sb=>?_;have I1:Inv X pq σ H {s with heap:=h'}:=I.turned (t':=s.toks) (λb o hb e=>(sb.2 b hb).trans e) f0 f1 f3 f4 f5;obtain⟨o,e,c,d⟩:=id st';exact⟨u,rfl,go_of (s:={s with heap:=h'}) e c d (by decide) ⟨x,H,I1,ru,⟨rfl,λys hy=>by rw[I.list_inj hy hq];exact hx⟩,st',λb hb=>(hf b hb).1⟩⟩
 done:=by intro X hP hw hK hc i pq s σ H E I hf st hg;subst hP hw hK;obtain⟨xs,hq,hx⟩:=hg;obtain⟨its,rv,p,hz⟩:=I.list hq;obtain⟨f0,f1,f2,f3,f4,f5⟩:=hf it (by simp);have hl:=rv.length;exact wpAny_pyNext_list_end (I.ok.hd hc) st p.isList (by simp;omega) λh' eb=>⟨rfl,I.turned (t':=s.toks) (λb o hb e=>eb b o hb e) f0 f1 f3 f4 f5⟩
 self:=λ_ _ _ _ _ st h=>wpAny_pyIter_listiter st h
theorem b0h'(a it:Addr):Turn P w K tg (Itt K a) [it] it (λi h=>h.IsTupleIter it a i) where
 mem:=by simp
 obj:=λi h st b hb=>by
  have e:b=it:=by simpa using hb
  subst e;obtain⟨o,e,c,d⟩:=st;exact⟨o,e,λv z=>by rw[d]at z;cases z⟩
 keep:=λi h h' st k=>st.at λo e=>k it (by simp) o e
 item:=by intro X hP hw hK hc i pq s σ H E I hf st hg;subst hP hw hK;obtain⟨xs,x,hq,hx⟩:=hg;obtain⟨its,rv,p,hz⟩:=I.tuple hq;obtain⟨u,hu,ru⟩:=rv.get hx;obtain⟨f0,f1,f2,f3,f4,f5⟩:=hf it (by simp);refine wpAny_pyNext_tuple_item st (show s.heap.IsTuple a its.toArray from p) (x:=u) (by simpa using hu) λh' st' sb=>?_;have I1:Inv X pq σ H {s with heap:=h'}:=I.turned (t':=s.toks) (λb o hb e=>(sb.2 b hb).trans e) f0 f1 f3 f4 f5;obtain⟨o,e,c,d⟩:=id st';exact⟨u,rfl,go_of (s:={s with heap:=h'}) e c d (by decide) ⟨x,H,I1,ru,⟨rfl,λys hy=>by rw[I.tuple_inj hy hq];exact hx⟩,st',λb hb=>(hf b hb).1⟩⟩
 done:=by intro X hP hw hK hc i pq s σ H E I hf st hg;subst hP hw hK;obtain⟨xs,hq,hx⟩:=hg;obtain⟨its,rv,p,hz⟩:=I.tuple hq;obtain⟨f0,f1,f2,f3,f4,f5⟩:=hf it (by simp);have hl:=rv.length;exact wpAny_pyNext_tuple_end (I.ok.hd hc) st (show s.heap.IsTuple a its.toArray from p) (by simp;omega) λh' eb=>⟨rfl,I.turned (t':=s.toks) (λb o hb e=>eb b o hb e) f0 f1 f3 f4 f5⟩
 self:=λ_ _ _ _ _ st h=>wpAny_pyIter_tupleiter st h
theorem b0i'(it:Addr)(lo:Int)(n:Nat):Turn P w K tg (Itr lo n) [it] it (λi h=>IsRangeIter h it (lo+(i:Nat)*1) ((n:Int)-(i:Nat)) 1) where
 mem:=by simp
 obj:=λi h st b hb=>by
  have e:b=it:=by simpa using hb
  subst e;exact⟨_,st,λv z=>by have z':Data.fields _=Data.cell v:=z;cases z'⟩
 keep:=λi h h' st k=>k it (by simp) _ st
 item:=by intro X hP hw hK hc i pq s σ H E I hf st hg;subst hP hw hK;obtain⟨f0,f1,f2,f3,f4,f5⟩:=hf it (by simp);have W:=Walks.range (prog:=X.prog) (w:=X.w) (I.ok.hd hc) it lo 1 n;refine W.item i s _ _ hg st λv h' tk hv st' kk=>?_;obtain⟨t,rfl⟩:=hv;have I1:Inv X pq σ H {s with heap:=h',toks:=tk}:=I.turned (λb o hb e=>kk b o (by simpa using hb) e) f0 f1 f3 f4 f5;refine⟨_,rfl,go_of (s:={s with heap:=h',toks:=tk}) (n:="range_iterator") st' rfl rfl (by decide) ⟨.int (lo+i),H,I1,⟨t,?_⟩,⟨rfl,rfl⟩,st',λb hb=>(hf b hb).1⟩⟩;rw[Int.mul_one]
 done:=by intro X hP hw hK hc i pq s σ H E I hf st hg;subst hP hw hK;obtain⟨f0,f1,f2,f3,f4,f5⟩:=hf it (by simp);exact wpAny_pyNext_range_end (I.ok.hd hc) st (by have:n≤i:=hg;omega) λh' eb=>⟨rfl,I.turned (t':=s.toks) (λb o hb e=>eb b o hb e) f0 f1 f3 f4 f5⟩
 self:=λ_ _ _ _ _ st h=>wpAny_pyIter_rangeiter st h
section
variable {X:Cx}
theorem b0j'{σ:St}{H:Hp}{R:It→Hp→Prop}{hi:Int}{t u v:Tok}{tk:Nat}(I:Inv X pq σ H s)(h1: -(2^62)≤lo)(h2:lo<2^62)(h3: -(2^62)≤hi)(h4:hi<2^62)
  (q:R (Itr lo (hi-lo).toNat) H):wpAny (model X.prog X.w) X.A (pyIter (.ref s.heap.objs.size)) (PIE X pq σ tg R) E {s with heap:=s.heap.push {cls:=.type "range",data:=.fields #[.int lo t,.int hi u,.int 1 v]},toks:=tk}:=by
 refine wpAny_pyIter_range (IsRange.new ..) (small_one h1 h2 h3 h4) ?_;have I1:Inv X pq σ H {s with heap:=s.heap.push {cls:=.type "range",data:=.fields #[.int lo t,.int hi u,.int 1 v]},toks:=tk}:=I.kept λb o e=>Zd _ e
 refine⟨(s.heap.push {cls:=.type "range",data:=.fields #[.int lo t,.int hi u,.int 1 v]}).objs.size,[(s.heap.push {cls:=.type "range",data:=.fields #[.int lo t,.int hi u,.int 1 v]}).objs.size],_,_,H,rfl,
  I1.kept (t':=tk) λb o e=>Zd _ e,b0i' _ lo (hi-lo).toNat,?_,λb hb=>?_,q⟩
 ·have e1:lo+((0:Nat):Int)*1=lo:=by simp
  have e2:(((hi-lo).toNat:Nat):Int)-((0:Nat):Int)=Builtin.Range.rangeSize lo hi 1:=by rw[rangeSize_one];split<;>omega
  show IsRangeIter _ _ (lo+((0:Nat):Int)*1) ((((hi-lo).toNat:Nat):Int)-((0:Nat):Int)) 1;rw[e1,e2];exact Zo _ rfl
 ·have e:b=(s.heap.push {cls:=.type "range",data:=.fields #[.int lo t,.int hi u,.int 1 v]}).objs.size:=by simpa using hb
  subst e;exact I1.fpOk (Zi _) (I1.hok.fresh (Zi _))
def iRng1(ta:TA):TI:=λσ H R=>ta σ H λvs H1=>∃j:Int,vs=[.int j]∧-(2^62)≤j∧j<2^62∧R (Itr 0 j.toNat) H1
def iRng2(ta:TA):TI:=λσ H R=>ta σ H λvs H1=>∃i j:Int,vs=[.int i,.int j]∧(-(2^62)≤i∧i<2^62∧-(2^62)≤j∧j<2^62)∧R (Itr i (j-i).toNat) H1
theorem b2D'{a:Expr}{ta:TA}{p pos:Pos}(hg:Gl X "range")(hm:X.mg "range"=none)(ha:PA X [a] ta)(hs:starEach [a] X.env=[(false,eval a X.env)]:=by rfl):PI X tg (.Call (.Name "range" p) [a] [] pos) (iRng1 ta):=by
 intro pq s σ H R I h;refine Call_ (a5j' I hg hm boot_range (Yk (thn (ha pos pq s σ H _ I h) λus s1 ⟨vs,H1,I1,r1,q1⟩=>?_) hs rfl));obtain⟨j,e,q1,q2,q⟩:=q1;subst e;cases r1 with
 |cons r rr=>cases rr;obtain⟨t,rfl⟩:=r;exact call_range_1 (b0j' I1 (by omega) (by omega) q1 q2 (by simpa using q))
theorem b2E'{a b:Expr}{ta:TA}{p pos:Pos}(hg:Gl X "range")(hm:X.mg "range"=none)(ha:PA X [a,b] ta)(hs:starEach [a,b] X.env=[(false,eval a X.env),(false,eval b X.env)]:=by rfl)(hs2:starEach [b] X.env=[(false,eval b X.env)]:=by rfl):
  PI X tg (.Call (.Name "range" p) [a,b] [] pos) (iRng2 ta):=by
 intro pq s σ H R I h;refine Call_ (a5j' I hg hm boot_range (Yk (thn (ha pos pq s σ H _ I h) λus s1 ⟨vs,H1,I1,r1,q1⟩=>?_) (by rw[hs,hs2]) (by rw[hs2];rfl)));obtain⟨i,j,e,⟨q1,q2,q3,q4⟩,q⟩:=q1;subst e;cases r1 with
 |cons r rr=>
  cases rr with
  |cons r' rr=>cases rr;obtain⟨t,rfl⟩:=r;obtain⟨t',rfl⟩:=r';exact call_range_2 (b0j' I1 q1 q2 q3 q4 q)
def tFor(wi:TI)(g:TG)(tb:TS):TS:=λD σ H=>wi σ H λJ H1=>∃W:Nat→Nat→St→Hp→Prop,(∃m,W 0 m σ H1)∧∀i m σ H,W i m σ H→
 (J.stop i H∧D.nx σ H)∨(J.go i H∧∃N:St→Hp→Prop,(∀σ' H',N σ' H'→∃m',m'<m∧W (i+1) m' σ' H')∧∀x H',J.yld i H x H'→g x σ H' λσ2 H2=>tb {D with nx:=N,ct:=N,bk:=D.nx} σ2 H2)
noncomputable def b2F'(fp:La)(h:Heap):Lp:=fp.filterMap λb=>(h.get? b).map λo=>(b,o)
theorem a3h'{b:Addr}{o:Obj}(hb:b∈fp)(e:h.get? b=some o):(b,o)∈b2F' fp h:=List.mem_filterMap.mpr ⟨b,hb,by rw[e];rfl⟩
theorem b2G'{p:Addr×Obj}(hp:p∈b2F' fp h):p.1∈fp∧h.get? p.1=some p.2:=by
 obtain⟨b,hb,e⟩:=List.mem_filterMap.mp hp;cases q:h.get? b with
 |none=>rw[q]at e;cases e
 |some o=>rw[q]at e;have e':(b,o)=p:=Z6 e;subst e';exact⟨hb,q⟩
theorem Inv.pinned{σ:St}{H:Hp}(I:Inv X pq σ H s)(hf:∀b∈fp,FpOk X pq H b)(ho:∀b∈fp,∃o,s.heap.get? b=some o∧∀v,o.data≠.cell v):Inv X (pq++b2F' fp s.heap) σ H s:=
 I.pins_of λp hp=>(Zs.mp hp).elim (λz=>I.pin p (Zz _ z)) λz=>by obtain⟨hb,e⟩:=b2G' z;obtain⟨f0,f1,f2,_⟩:=hf p.1 hb;obtain⟨o,e',d⟩:=ho p.1 hb;rw[e]at e';cases e';exact⟨e,f0,f1,f2,d⟩
theorem Inv.unpinned{pl:Lp}{σ:St}{H:Hp}(I:Inv X (pq++pl) σ H s):Inv X pq σ H s:=I.pins_of λp hp=>I.pin p (Zz _ (ZG _ hp))
theorem ps_for{body:List Stmt}{wi:TI}{g:TG}{tb:TS}{pos:Pos}(hp:PassesOwn (model X.prog X.w) X.A X.env X.xe)(hc:X.calm=true)(hi:PI X tg iter wi)(hg:PG X tg g)(hb:PSs X body tb)
  (hs:∀x,foldedSetIterable iter X.env x=pure x:=by intro _;rfl):PS X (.For tg iter body [] pos) (tFor wi g tb):=by
 intro pq s σ H D I h;refine wpAny_For (thn (hi pq s σ H _ I h) λv s1 h1=>thn h1 λitv s2 h2=>?_) hs;obtain⟨it,fp,tn,J,H2,e,I2,T,st2,f2,W,⟨m0,w0⟩,turn⟩:=h2;subst e;have stat:∀{H':Hp},(∀b∈fp,H' b=none)→∀b∈fp,FpOk X pq H' b:=λhn b hb=>⟨hn b hb,(f2 b hb).2⟩;refine codeAny_forLoop_any (λn s'=>∃i σ' H',Inv X pq σ' H' s'∧tn i s'.heap∧(∀b∈fp,H' b=none)∧W i n σ' H') ?_ m0 ⟨0,σ,H2,I2,st2,λb hb=>(f2 b hb).1,w0⟩;rintro n s3 ⟨i,σ3,H3,I3,st3,fr3,w3⟩;rcases turn i n σ3 H3 w3 with⟨stop,qn⟩| ⟨go,N,hN,step⟩
 ·refine wpAny_passesOwn hp (thn (T.done X rfl rfl rfl hc i pq s3 σ3 H3 X.xe I3 (stat fr3) st3 stop) λr s4 ⟨hr,I4⟩=>?_);subst hr;exact wpAny_execs_nil ⟨σ3,H3,I4,qn⟩
 ·refine wpAny_passesOwn hp (thn (T.item X rfl rfl rfl hc i pq s3 σ3 H3 X.xe I3 (stat fr3) st3 go) λr s4 ⟨u,hr,h4⟩=>?_);subst hr;refine wpAny_passesOwn hp (thn h4 λ_ s5 ⟨x,H5,I5,r5,y5,st5,fr5⟩=>?_);have I5':=I5.pinned (stat fr5) (T.obj _ _ st5);refine wpAny_passesOwn hp (thn (hg _ s5 σ3 H5 x u _ I5' r5 (step x H5 y5)) λ_ s6 ⟨σ6,H6,I6,q6⟩=>?_);refine wpAny_passesOwn hp (thn (hb _ s6 σ6 H6 _ I6 q6) λf s7 q7=>?_)
  have again:∀{σ7:St} {H7:Hp},Inv X (pq++b2F' fp s5.heap) σ7 H7 s7→N σ7 H7→∃m,m<n∧∃i σ' H',Inv X pq σ' H' s7∧tn i s7.heap∧(∀b∈fp,H' b=none)∧W i m σ' H':=λ{σ7 H7} I7 n7=>by obtain⟨m',hm,w7⟩:=hN σ7 H7 n7;refine⟨m',hm,i+1,σ7,H7,I7.unpinned,T.keep _ _ _ st5 λb hb o e=>(I7.pin (b,o) (Zz _ (Zz _ (a3h' hb e)))).1,λb hb=>?_,w7⟩;obtain⟨o,e,d⟩:=T.obj _ _ st5 b hb;exact(I7.pin (b,o) (Zz _ (Zz _ (a3h' hb e)))).2.1
  cases f with
  |next=>obtain⟨σ7,H7,I7,n7⟩:=q7;exact again I7 n7
  |cont=>obtain⟨σ7,H7,I7,n7⟩:=q7;exact again I7 n7
  |brk=>obtain⟨σ7,H7,I7,q7⟩:=q7;exact⟨σ7,H7,I7.unpinned,q7⟩
  |ret v=>obtain⟨x7,σ7,H7,I7,r7,q7⟩:=q7;exact⟨x7,σ7,H7,I7.unpinned,r7,q7⟩
end
abbrev R2:=V→V→Hp→VK→Prop
def OpR(X:Cx)(f:Value→Value→Sem Value)(r:R2):Prop:=
 ∀(pq:Lp) (s:Shared) (σ:St) (H:Hp) (x y:V) (v u:Value) (Q:VK),Inv X pq σ H s→RelV x v→RelV y u→r x y H Q→
  wpAny (model X.prog X.w) X.A (f v u) (EP X pq σ Q) X.xe s
def UnR(X:Cx)(f:Value→Sem Value)(r:V→Hp→VK→Prop):Prop:=
 ∀(pq:Lp) (s:Shared) (σ:St) (H:Hp) (x:V) (v:Value) (Q:VK),Inv X pq σ H s→RelV x v→r x H Q→
  wpAny (model X.prog X.w) X.A (f v) (EP X pq σ Q) X.xe s
def CallR(X:Cx)(f:Value)(r:List V→Hp→VK→Prop):Prop:=
 ∀(pq:Lp) (s:Shared) (σ:St) (H:Hp) (xs:List V) (us:Lv) (Q:VK),Inv X pq σ H s→Vals xs us→r xs H Q→
  wpAny (model X.prog X.w) X.A (call f us) (EP X pq σ Q) X.xe s
def TruR(X:Cx)(r:V→Hp→(Bool→Hp→Prop)→Prop):Prop:=
 ∀(pq:Lp) (s:Shared) (σ:St) (H:Hp) (x:V) (v:Value) (Q:Bool→Hp→Prop),Inv X pq σ H s→RelV x v→r x H Q→
  wpAny (model X.prog X.w) X.A (truthy v) (TP X pq σ Q) X.xe s
def tOp(r:R2)(ta tb:TE):TE:=λσ H Q=>ta σ H λx H1=>tb σ H1 λy H2=>r x y H2 Q
def tUn(r:V→Hp→VK→Prop)(ta:TE):TE:=λσ H Q=>ta σ H λx H1=>r x H1 Q
def rI(C:Int→Int→Prop)(g:Int→Int→V):R2:=λx y H Q=>∃i j,x=.int i∧y=.int j∧C i j∧Q (g i j) H
def rI0(g:Int→Int→V):R2:=λx y H Q=>∃i j,x=.int i∧y=.int j∧Q (g i j) H
def rU(g:Int→V):V→Hp→VK→Prop:=λx H Q=>∃i,x=.int i∧Q (g i) H
section
variable {X:Cx}{a b c:Expr}{ta tb tc:TE}{pos:Pos}
theorem binT(ha:PE X a ta)(hb:PE X b tb){σ:St}{H:Hp}{R:V→V→Hp→Prop}(I:Inv X pq σ H s)
  (h:ta σ H λx H1=>tb σ H1 λy H2=>R x y H2)  {f:Value→Value→Sem Value}
  (hf:∀v u s2 x y H2,Inv X pq σ H2 s2→RelV x v→RelV y u→R x y H2→wpAny (model X.prog X.w) X.A (f v u) Q X.xe s2):
  wpAny (model X.prog X.w) X.A (eval a X.env) (λv s₁=>wpAny (model X.prog X.w) X.A (eval b X.env) (λu s₂=>wpAny (model X.prog X.w) X.A (f v u) Q X.xe s₂) X.xe s₁) X.xe s:=by
 refine thn (ha pq s σ H _ I h) λv s1 ⟨x,H1,I1,r1,q1⟩=>?_;refine thn (hb pq s1 σ H1 _ I1 q1) λu s2 ⟨y,H2,I2,r2,q2⟩=>?_;exact hf v u s2 x y H2 I2 r1 r2 q2
theorem pe_op{op:Operator}{r:R2}(ho:OpR X (binaryOp op) r)(ha:PE X a ta)(hb:PE X b tb):PE X (.BinOp a op b pos) (tOp r ta tb):=by intro pq s σ H Q I h;exact wpAny_BinOp (binT ha hb I h λv u s2 x y H2 I2 rx ry q=>ho pq s2 σ H2 x y v u Q I2 rx ry q)
theorem pe_un{op:UnaryOp}{r:V→Hp→VK→Prop}(ho:UnR X (unaryOp op) r)(ha:PE X a ta):PE X (.UnaryOp op a pos) (tUn r ta):=by intro pq s σ H Q I h;exact UnaryOp_ (thn (ha pq s σ H _ I h) λv s1 ⟨x,H1,I1,r1,q1⟩=>ho pq s1 σ H1 x v Q I1 r1 q1)
theorem opI{f:Value→Value→Sem Value}{C:Int→Int→Prop}
  (rule:∀(i j:Int) (t u:Tok) (s:Shared) (Q:Vs) (E:Vs),C i j→Q (.int (g i j) s.toks) {s with toks:=s.toks+1}→wpAny (model X.prog X.w) X.A (f (.int i t) (.int j u)) Q E s):
  OpR X f (rI C λi j=>.int (g i j)):=by
 intro pq s σ H x y v u Q I rx ry h;obtain⟨i,j,rfl,rfl,hc,q⟩:=h;obtain⟨t,rfl⟩:=rx;obtain⟨t',rfl⟩:=ry;exact rule i j t t' s _ _ hc ⟨.int (g i j),H,I.tok _,⟨_,rfl⟩,q⟩
theorem opI0{f:Value→Value→Sem Value}
  (rule:∀(i j:Int) (t u:Tok) (s:Shared) (Q:Vs) (E:Vs),Q (.int (g i j) s.toks) {s with toks:=s.toks+1}→wpAny (model X.prog X.w) X.A (f (.int i t) (.int j u)) Q E s):
  OpR X f (rI0 λi j=>.int (g i j)):=by
 intro pq s σ H x y v u Q I rx ry h;obtain⟨i,j,rfl,rfl,q⟩:=h;obtain⟨t,rfl⟩:=rx;obtain⟨t',rfl⟩:=ry;exact rule i j t t' s _ _ ⟨.int (g i j),H,I.tok _,⟨_,rfl⟩,q⟩
theorem opB0{f:Value→Value→Sem Value}{g:Int→Int→Bool}
  (rule:∀(i j:Int) (t u:Tok) (s:Shared) (Q:Vs) (E:Vs),Q (.bool (g i j)) s→wpAny (model X.prog X.w) X.A (f (.int i t) (.int j u)) Q E s):
  OpR X f (rI0 λi j=>.bl (g i j)):=by
 intro pq s σ H x y v u Q I rx ry h;obtain⟨i,j,rfl,rfl,q⟩:=h;obtain⟨t,rfl⟩:=rx;obtain⟨t',rfl⟩:=ry;exact rule i j t t' s _ _ ⟨.bl (g i j),H,I,rfl,q⟩
def CDiv(i j:Int):Prop:=0<j∧j<1073741824
noncomputable def CMul(i j:Int):Prop:=(-(2^64)<i∧i<2^64)∨(-(2^64)<j∧j<2^64)
theorem CMul.ok{i j:Int}(h:CMul i j):IntMulOk i j:=by
 rcases h with⟨h1,h2⟩| ⟨h1,h2⟩
 ·exact .of_left (intBits_le_64 h1 h2)
 ·exact .of_right (intBits_le_64 h1 h2)
theorem b0k'(k:Nat):(0:Int)≤2^k:=by rw[two_pow_cast];exact Int.natCast_nonneg _
theorem op_add:OpR X (binaryOp .Add) (rI0 λi j=>.int (i+j)):=opI0 λ_ _ _ _ _ _ _ q=>add_int q
theorem op_sub:OpR X (binaryOp .Sub) (rI0 λi j=>.int (i-j)):=opI0 λ_ _ _ _ _ _ _ q=>sub_int q
theorem op_mul:OpR X (binaryOp .Mult) (rI CMul λi j=>.int (i*j)):=opI λ_ _ _ _ _ _ _ hc q=>mul_int q hc.ok
theorem op_fdiv:OpR X (binaryOp .FloorDiv) (rI CDiv λi j=>.int (i/j)):=opI λi j _ _ _ _ _ hc q=>by have h1:(0:Int)<j:=hc.1;have h2:j<1073741824:=hc.2;exact floordiv_int (by omega) (by rw[Int.fdiv_eq_ediv_of_nonneg i (by omega)];exact q) (.inl (PyProof.noPylong_small (by omega)))
theorem op_mod:OpR X (binaryOp .Mod) (rI (λ_ j=>0<j) λi j=>.int (i%j)):=opI λi j _ _ _ _ _ hc q=>by have h1:(0:Int)<j:=hc;exact mod_int' (by omega) (by rw[Int.fmod_eq_emod_of_nonneg i (by omega)];exact q)
theorem op_shr:OpR X (binaryOp .RShift) (rI (λ_ j=>0≤j) λi j=>.int (i/2^j.toNat)):=opI λi j _ _ _ _ _ hc q=>
 rshift_int hc (by rw[Int.fdiv_eq_ediv_of_nonneg i (b0k' _)];exact q)
theorem op_and:OpR X (binaryOp .BitAnd) (rI0 λi j=>.int (Builtin.bitAnd i j)):=opI0 λ_ _ _ _ _ _ _ q=>and_int q
theorem op_or:OpR X (binaryOp .BitOr) (rI0 λi j=>.int (Builtin.bitOr i j)):=opI0 λ_ _ _ _ _ _ _ q=>or_int q
theorem unI{f:Value→Sem Value}{g:Int→Int}
  (rule:∀(i:Int) (t:Tok) (s:Shared) (Q:Vs) (E:Vs),Q (.int (g i) s.toks) {s with toks:=s.toks+1}→wpAny (model X.prog X.w) X.A (f (.int i t)) Q E s):
  UnR X f (rU λi=>.int (g i)):=by
 intro pq s σ H x v Q I rx h;obtain⟨i,rfl,q⟩:=h;obtain⟨t,rfl⟩:=rx;exact rule i t s _ _ ⟨.int (g i),H,I.tok _,⟨_,rfl⟩,q⟩
theorem un_neg:UnR X (unaryOp .USub) (rU λi=>.int (-i)):=unI λ_ _ _ _ _ q=>neg_int q
end
section
variable {X:Cx}{a b c:Expr}{ta tb tc:TE}{pos:Pos}
theorem fin_bl{σ:St}{H:Hp}{Q:VK}{k k':Bool}(I:Inv X pq σ H s)(q:Q (.bl k) H)(e:k=k'):EP X pq σ Q (.bool k') s:=by subst e;exact⟨.bl k,H,I,rfl,q⟩
theorem op_le:OpR X (compareOp .LtE) (rI0 λi j=>.bl (decide (i≤j))):=opB0 λ_ _ _ _ _ _ _ q=>le_int q
theorem op_gt:OpR X (compareOp .Gt) (rI0 λi j=>.bl (decide (j<i))):=opB0 λ_ _ _ _ _ _ _ q=>gt_int q
theorem op_ge:OpR X (compareOp .GtE) (rI0 λi j=>.bl (decide (j≤i))):=opB0 λ_ _ _ _ _ _ _ q=>ge_int q
theorem op_isN:OpR X (compareOp .Is) (λx y H Q=>y=.non∧Q (.bl (decide (x=.non))) H):=by
 intro pq s σ H x y v u Q I rx ry h;obtain⟨rfl,q⟩:=h;cases ry;refine is_none_gen (fin_bl I q ?_)
 cases x<;>first
  | (cases rx;rfl)
  | (obtain⟨t,rfl⟩:=rx;rfl)
theorem op_notN:OpR X (compareOp .IsNot) (λx y H Q=>y=.non∧Q (.bl (!decide (x=.non))) H):=by
 intro pq s σ H x y v u Q I rx ry h;obtain⟨rfl,q⟩:=h;cases ry;refine isnot_none_gen (fin_bl I q ?_)
 cases x<;>first
  | (cases rx;rfl)
  | (obtain⟨t,rfl⟩:=rx;rfl)
theorem pe_cmpR{op:CmpOp}{r:R2}(ho:OpR X (compareOp op) r)(ha:PE X a ta)(hb:PE X b tb)(hm:behindInMarks op b=false):PE X (.Compare a [op] [b] pos) (tOp r ta tb):=by intro pq s σ H Q I h;exact wpAny_Compare1 (binT ha hb I h λv u s2 x y H2 I2 rx ry q=>ho pq s2 σ H2 x y v u Q I2 rx ry q) hm
def tTest(t:TE):TT:=λσ H Q=>t σ H λx H'=>∃k,x=.bl k∧Q k H'
theorem pt_cmpR{op:CmpOp}{r:R2}(ho:OpR X (compareOp op) r)(ha:PE X a ta)(hb:PE X b tb)(hm:behindInMarks op b=false):PT X (.Compare a [op] [b] pos) (tTest (tOp r ta tb)):=by
 intro pq s σ H Q I h
 refine wpAny_isTrue_Compare1 (thn (ha pq s σ H _ I h) λv s1 ⟨x,H1,I1,r1,q1⟩=>thn (hb pq s1 σ H1 _ I1 q1) λu s2 ⟨y,H2,I2,r2,q2⟩=>
  thn (ho pq s2 σ H2 x y v u _ I2 r1 r2 q2) λc s3 ⟨z,H3,I3,r3,k,e,q3⟩=>?_) hm
 subst e;cases r3;exact Yn ⟨H3,I3,q3⟩
def tChain(r r':R2)(ta tb tc:TE):TE:=λσ H Q=>ta σ H λx H1=>tb σ H1 λy H2=>r x y H2 λz H3=>∃k,z=.bl k∧
 (if k=true then tc σ H3 λw' H4=>r' y w' H4 Q else Q (.bl false) H3)
theorem b4I'{op:CmpOp}{r r':R2}(ho:OpR X (compareOp op) r)(ho':OpR X (compareOp op') r')(ha:PE X a ta)(hb:PE X b tb)(hc:PE X c tc)
  (hm:lastMarks [op,op'] [b,c]=false:=by with_unfolding_all rfl):PE X (.Compare a [op,op'] [b,c] pos) (tChain r r' ta tb tc):=by
 intro pq s σ H Q I h
 refine Compare_chain (thn (ha pq s σ H _ I h) λv s1 ⟨x,H1,I1,r1,q1⟩=>chain_link (thn (hb pq s1 σ H1 _ I1 q1) λu s2 ⟨y,H2,I2,r2,q2⟩=>
  thn (ho pq s2 σ H2 x y v u _ I2 r1 r2 q2) λd s3 ⟨z,H3,I3,r3,k,e,q3⟩=>?_)) hm
 subst e;cases r3;refine Yn ?_;cases k with
 |false=>exact ite_ff ⟨.bl false,H3,I3,rfl,q3⟩
 |true=>exact ite_tt (chain_last (thn (hc pq s3 σ H3 _ I3 q3) λw' s4 ⟨z',H4,I4,r4,q4⟩=>ho' pq s4 σ H4 y z' u w' Q I4 r2 r4 q4))
theorem b4J'{op:CmpOp}{r r':R2}(ho:OpR X (compareOp op) r)(ho':OpR X (compareOp op') r')(ha:PE X a ta)(hb:PE X b tb)(hc:PE X c tc)
  (hm:lastMarks [op,op'] [b,c]=false:=by with_unfolding_all rfl):PT X (.Compare a [op,op'] [b,c] pos) (tTest (tChain r r' ta tb tc)):=by
 intro pq s σ H Q I h
 refine isTrue_chain (thn (ha pq s σ H _ I h) λv s1 ⟨x,H1,I1,r1,q1⟩=>test_link (thn (hb pq s1 σ H1 _ I1 q1) λu s2 ⟨y,H2,I2,r2,q2⟩=>
  thn (ho pq s2 σ H2 x y v u _ I2 r1 r2 q2) λd s3 ⟨z,H3,I3,r3,k,e,q3⟩=>?_)) hm
 subst e;cases r3;refine Yn ?_;cases k with
 |false=>obtain⟨k',e',q'⟩:=q3;cases e';exact ite_ff ⟨H3,I3,q'⟩
 |true=>refine ite_tt (test_last (thn (hc pq s3 σ H3 _ I3 q3) λw' s4 ⟨z',H4,I4,r4,q4⟩=>thn (ho' pq s4 σ H4 y z' u w' _ I4 r2 r4 q4) λd' s5 ⟨z2,H5,I5,r5,k2,e2,q5⟩=>?_));subst e2;cases r5;exact Yn ⟨H5,I5,q5⟩
def TruV(K:Fg)(x:V)(H:Hp)(k:Bool):Prop:=
 match x with
 | .non=>k=false
 | .bl b=>k=b
 | .int i=>k=(i !=0)
 | .str y=>y.length≤sizeLine∧k=((y.length:Int) !=0)
 | .byt y=>y.size≤sizeLine∧k=((y.size:Int) !=0)
 | .ref p=>(∃xs,SqL K H p xs∧k= !xs.isEmpty)∨(∃xs,SqT K H p xs∧k= !xs.isEmpty)∨∃kvs,H p=some (.dK kvs)∧k= !kvs.isEmpty
 |_=>False
theorem b0l'{κ:Type}{kvs:List (κ×V)}{vs:List (κ×Value)}(r:KV kvs vs):(!vs.isEmpty)= !kvs.isEmpty:=by cases r<;>rfl
theorem a6A'{xs:List V}(r:Vals xs its):(!its.toArray.isEmpty)= !xs.isEmpty:=by cases r<;>simp
theorem b0m':(sizeLine:Nat)<2^63:=by rw[sizeLine_eq];decide
theorem tru_ok:TruR X (λx H Q=>∃k,TruV X.K x H k∧Q k H):=by
 intro pq s σ H x v Q I rx h;obtain⟨k,e,q⟩:=h;have hl:=b0m';have hs:sizeLine=16777216:=sizeLine_eq;cases x with
 |non=>cases rx;have e':k=false:=e;subst e';exact truthy_none ⟨H,I,q⟩
 |bl b=>cases rx;have e':k=b:=e;subst e';exact Yn ⟨H,I,q⟩
 |int i=>obtain⟨t,rfl⟩:=rx;have e':k=(i !=0):=e;subst e';exact PySem.P.truthy_int ⟨H,I,q⟩
 |str y=>obtain⟨t,rfl⟩:=rx;obtain⟨hy,e'⟩:y.length≤sizeLine∧k=((y.length:Int) !=0):=e;subst e';exact PySem.P.truthy_str (by omega) ⟨H,I.tok _,q⟩
 |byt y=>obtain⟨t,rfl⟩:=rx;obtain⟨hy,e'⟩:y.size≤sizeLine∧k=((y.size:Int) !=0):=e;subst e';exact PySem.W.truthy_bytes (by omega) ⟨H,I.tok _,q⟩
 |ref p=>
  cases rx;have e':(∃xs,SqL X.K H p xs∧k= !xs.isEmpty)∨(∃xs,SqT X.K H p xs∧k= !xs.isEmpty)∨∃kvs,H p=some (.dK kvs)∧k= !kvs.isEmpty:=e;rcases e' with⟨xs,hx,e'⟩| ⟨xs,hx,e'⟩| ⟨kvs,hx,e'⟩
  ·subst e';obtain⟨its,r,pl,hz⟩:=I.list hx;have hlen:=r.length;exact wpAny_truthy_list pl.isList (by simp only[Zk];omega) ⟨H,I.tok _,by rw[a6A' r];exact q⟩
  ·subst e';obtain⟨its,r,pl,hz⟩:=I.tuple hx;have hlen:=r.length;exact truthy_tuple pl (by simp only[Zk];omega) ⟨H,I.tok _,by rw[a6A' r];exact q⟩
  ·subst e';obtain⟨hz,hS,vs,r,m⟩:kvs.length≤sizeLine∧(p==sysModules)=false∧∃vs,KV kvs vs∧s.heap.DictOf (b0e' X.prog X.w) p vs:=I.hok p _ hx;have hlen:kvs.length=vs.length:=Paired.length r;exact wpAny_truthy_dict hS m (by omega) ⟨H,I.tok _,by rw[b0l' r];exact q⟩
 |_=>exact(show False from e).elim
theorem b4K'(ha:PE X a ta)(he:∀whole,isTrue a X.env whole=(do let v ←whole;standAt a.pos;holding [v] (truthy v))):
  PT X a (λσ H Q=>ta σ H λx H'=>∃k,TruV X.K x H' k∧Q k H'):=by
 intro pq s σ H Q I h;exact isTrue_plain (thn (ha pq s σ H _ I h) λv s1 ⟨x,H1,I1,r1,q1⟩=>tru_ok pq s1 σ H1 x v Q I1 r1 q1) (he _)
theorem b0n':OpR X (binaryOp .Add) (λx y H Q=>∃i j,x=.str i∧y=.str j∧i.length+j.length≤sizeLine∧Q (.str (i++j)) H):=by intro pq s σ H x y v u Q I rx ry h;obtain⟨i,j,rfl,rfl,hz,q⟩:=h;obtain⟨t,rfl⟩:=rx;obtain⟨t',rfl⟩:=ry;exact add_str (λt' tk=>⟨.str (i++j),H,I.tok _,⟨_,rfl⟩,q⟩) hz
theorem vals1{x:V}(r:Vals [x] us):∃u,us=[u]∧RelV x u:=by
 cases r with
 |cons r1 r2=>cases r2;exact⟨_,rfl,r1⟩
theorem vals2{x y:V}(r:Vals [x,y] us):∃u w',us=[u,w']∧RelV x u∧RelV y w':=by
 cases r with
 |cons r1 r2=>
  cases r2 with
  |cons r3 r4=>cases r4;exact⟨_,_,rfl,r1,r3⟩
theorem b2H'(hc:X.calm=true):CallR X (.builtin "max") (λxs H Q=>∃i j,xs=[.int i,.int j]∧Q (.int (if j>i then j else i)) H):=by
 intro pq s σ H xs us Q I r h;obtain⟨i,j,rfl,q⟩:=h;obtain⟨u,w',rfl,⟨t,rfl⟩,⟨t',rfl⟩⟩:=vals2 r;refine max_two_ints (I.ok.hd hc) λh' tk k=>⟨_,H,I.kept k,?_,q⟩;by_cases hj:j>i
 ·rw[if_pos hj,if_pos hj];exact⟨_,rfl⟩
 ·rw[if_neg hj,if_neg hj];exact⟨_,rfl⟩
theorem b2I'(hc:X.calm=true):CallR X (.builtin "min") (λxs H Q=>∃i j,xs=[.int i,.int j]∧Q (.int (if j<i then j else i)) H):=by
 intro pq s σ H xs us Q I r h;obtain⟨i,j,rfl,q⟩:=h;obtain⟨u,w',rfl,⟨t,rfl⟩,⟨t',rfl⟩⟩:=vals2 r;refine min_two_ints (I.ok.hd hc) λh' tk k=>⟨_,H,I.kept k,?_,q⟩;by_cases hj:j<i
 ·rw[if_pos hj,if_pos hj];exact⟨_,rfl⟩
 ·rw[if_neg hj,if_neg hj];exact⟨_,rfl⟩
theorem a8n':CallR X (.type "int") (λxs H Q=>(∃i,xs=[.int i]∧Q (.int i) H)∨∃k,xs=[.bl k]∧Q (.int (if k then 1 else 0)) H):=by
 intro pq s σ H xs us Q I r h;rcases h with⟨i,rfl,q⟩| ⟨k,rfl,q⟩
 ·obtain⟨u,rfl,t,rfl⟩:=vals1 r;exact call_int_int ⟨.int i,H,I,⟨_,rfl⟩,q⟩
 ·obtain⟨u,rfl,r1⟩:=vals1 r;cases r1;exact call_int_bool ⟨.int (if k then 1 else 0),H,I.tok _,⟨_,rfl⟩,q⟩
end
section
variable {x C:Addr}{mA:Mg}{v:Value}
end
section
variable {H H':Hp}{C:Addr}{fs fs':List (Str×V)}
end
section
variable {X:Cx}{σ:St}{H:Hp}{C:Addr}{fs:List (Str×V)}{f:Str}{v:V}
end
section
variable {X:Cx}{o value:Expr}{f:Str}{pos tpos:Pos}{ta tv:TE}
end
section
variable {X:Cx}{σ:St}{H:Hp}{c:Value}{b:Bool}
end
structure Room (k:Nat)(A:Around):Prop where
 hd:A.handled=none
 dp:A.depth+3*k+5<recursionLimit
 un:A.units+16*k+200<cLine
 gd:A.guards=some []
theorem Room.mono{j:Nat}(r:Room k A)(h:j≤k):Room j A:=⟨r.hd,by have:=r.dp;omega,by have:=r.un;omega,r.gd⟩
theorem Room.deeper(r:Room (k+1) A)(env:Env):Room k (A.deeper env):=
 ⟨r.hd,by have:=r.dp;show A.depth+1+3*k+5<_;omega,by have:=r.un;show A.units+3+16*k+200<_;omega,r.gd⟩
theorem Room.depth(r:Room k A):A.depth<recursionLimit:=by have:=r.dp;omega
theorem Room.units(r:Room k A):A.units+64<cLine:=by have:=r.un;omega
def tNil:TA:=λ_ H Q=>Q [] H
def tCons(ta:TE)(tr:TA):TA:=λσ H Q=>ta σ H λx H1=>tr σ H1 λxs H2=>Q (x::xs) H2
section
variable {X:Cx}{es:Lx}{te:TE}{t:TA}{pos:Pos}
theorem pa_nil:PA X [] tNil:=λ_ _ _ _ H Q I h=>Calls.spliced_nil ⟨[],H,I,.nil,h⟩
theorem b3M'(ha:PE X e te)(hr:PA X es t)(hs:starEach (e::es) X.env=(false,eval e X.env)::starEach es X.env:=by rfl):PA X (e::es) (tCons te t):=by intro pos pq s σ H Q I h;rw[hs];show wpAny _ _ (spliced ((false,eval e X.env)::backTo pos (starEach es X.env))) _ _ s;refine Calls.spliced_cons (thn (ha pq s σ H _ I h) λu s1 ⟨x,H1,I1,r1,q1⟩=>?_);exact thn (hr pos pq s1 σ H1 _ I1 q1) λus s2 ⟨xs,H2,I2,r2,q2⟩=>⟨x::xs,H2,I2,.cons r1 r2,q2⟩
def tTup(t:TA):TE:=λσ H Q=>t σ H λxs H1=>xs.length≤sizeLine∧∀p,H1 p=none→Q (.ref p) (upd H1 p (.tup xs))
def tLst(t:TA):TE:=λσ H Q=>t σ H λxs H1=>xs.length≤sizeLine∧∀p,H1 p=none→Q (.ref p) (upd H1 p (.lst xs))
theorem pe_tup{x1}(h:PA X es t):PE X (.Tuple es x1 pos) (tTup t):=by intro pq s σ H Q I hq;refine wpAny_Tuple_spliced (thn (h pos pq s σ H _ I hq) λus s1 ⟨xs,H1,I1,r,z,q⟩=>⟨by rw[←r.length];exact z,?_⟩);have hf:H1 s1.heap.objs.size=none:=I1.hok.fresh (Zi _);refine⟨.ref s1.heap.objs.size,upd H1 s1.heap.objs.size (.tup xs),I1.laid (t':=s1.toks) (λb u e=>Zd _ e) (Zi _) ?_,rfl,q _ hf⟩;exact⟨z,us,r,⟨_,Zo _ rfl,rfl,_,rfl⟩,_,Zo _ rfl,rfl⟩
theorem pe_lst(h:PA X es t):PE X (.List es pos) (tLst t):=by intro pq s σ H Q I hq;refine wpAny_List_spliced (thn (h pos pq s σ H _ I hq) λus s1 ⟨xs,H1,I1,r,z,q⟩=>⟨by rw[←r.length];exact z,?_⟩);have hf:H1 s1.heap.objs.size=none:=I1.hok.fresh (Zi _);refine⟨.ref s1.heap.objs.size,upd H1 s1.heap.objs.size (.lst xs),I1.laid (t':=s1.toks) (λb u e=>Zd _ e) (Zi _) ?_,rfl,q _ hf⟩;exact⟨z,us,0,r,Zo _ rfl⟩
end
abbrev Sp:=List V→Hp→VK→XK→Prop
abbrev CXT:=List Env→Hp→Shared→XK→Vs
structure Env0 (P:Program)(w:World)(K:Fg)(mg:Mg)(base:Heap)(A:Around)(outer:List Env)(s:Shared)(H:Hp):Prop where
 frames:A.frames=some outer
 mod:Mod K mg base
 bs:∀b o,base.get? b=some o→s.heap.get? b=some o∧H b=none
 bsz:base.objs.size≤s.heap.objs.size
 funs:s.heap.FunFrames base outer
 frf:∀b∈frs outer,H b=none
 hok:HOk P w H s.heap
 bare:AllBare s.gens
def CE(outer:List Env)(P:Program)(w:World)(H:Hp)(s:Shared)(Q:VK)(u:Value)(s':Shared):Prop:=
 ∃v H',s'.os=s.os∧AllBare s'.gens∧Un (frs outer) [] H H' s.heap s'.heap∧HOk P w H' s'.heap∧RelV v u∧Q v H'
def CR(CX:CXT)(outer:List Env)(P:Program)(w:World)(H:Hp)(s:Shared)(Q:VK)(E:XK)(r:Result)(s':Shared):Prop:=
 match r with
 | .ok (.ret u)=>CE outer P w H s Q u s'
 | .ok _=>False
 | .error e=>CX outer H s E e s'
structure FnOk (P:Program)(w:World)(K:Fg)(mg:Mg)(base:Heap)(CX:CXT)(k:Nat)(f:Addr)(fd:FuncData)(ps:Ls)(sp:Sp):Prop where
 len:∀vs H Q E,sp vs H Q E→vs.length=ps.length
 run:∀(A:Around) (outer:List Env) (s:Shared) (H:Hp) (args:Args) (us:Lv) (vs:List V) (Q:VK) (E:XK),Room k A→Env0 P w K mg base A outer s H→BindsTo s fd args (ps.zip us)→Vals vs us→sp vs H Q E→
  codeAny (model P w) A (.call (.ref f) args) (CR CX outer P w H s Q E) s
theorem FnOk.mono{CX:CXT}{j:Nat}{fd:FuncData}{sp:Sp}(F:FnOk P w K mg base CX j f fd ps sp)(h:j≤k):
  FnOk P w K mg base CX k f fd ps sp:=⟨F.len,λA outer s H args us vs Q E hr=>F.run A outer s H args us vs Q E (hr.mono h)⟩
theorem FnOk.imp{CX:CXT}{fd:FuncData}{sp sp':Sp}(F:FnOk P w K mg base CX k f fd ps sp)
  (h:∀vs H Q E,sp' vs H Q E→sp vs H Q E):FnOk P w K mg base CX k f fd ps sp':=
 ⟨λvs H Q E q=>F.len vs H Q E (h _ _ _ _ q),λA outer s H args us vs Q E hr he hb hv hs=>F.run A outer s H args us vs Q E hr he hb hv (h _ _ _ _ hs)⟩
section
variable {X:Cx}{σ:St}{H:Hp}
theorem Inv.env0(I:Inv X pq σ H s):Env0 X.prog X.w X.K X.mg X.base X.A X.stack s H:=
 ⟨I.ok.frames,I.ok.mod,I.bs,ZP I.ok.bsz I.sz,I.stack,I.stkFree,I.hok,I.bare⟩
theorem Inv.after{Q:VK}(I:Inv X pq σ H s)(h:CE X.stack X.prog X.w H s Q u s'):EP X pq σ Q u s':=by obtain⟨v,H',os,bare,un,hok,r,q⟩:=h;obtain⟨hh,g,d,t,os'⟩:=s';obtain rfl:os'=s.os:=os;exact⟨v,H',I.call (h':=hh) (g':=g) (d':=d) (t':=t) (ch:=[]) un hok bare (λb z=>absurd z (by simp)),r,q⟩
end
def tCall(sp:Sp)(dvs:List V)(E:XK)(t:TA):TE:=λσ H Q=>t σ H λvs H1=>sp (vs++dvs) H1 Q E
def Binds(K:Fg)(fd:FuncData)(ps:Ls)(ds:Lv):Prop:=
 ∀(s:Shared) (us:Lv),K.In s.heap→(us++ds).length=ps.length→BindsTo s fd ⟨us,[]⟩ (ps.zip (us++ds))
theorem Binds.all{fd:FuncData}(h:∀us:Lv,us.length=ps.length→bindArgs fd ⟨us,[]⟩=pure (ps.zip us)):Binds K fd ps []:=λs us _ hl=>by rw[Yd]at hl⊢;exact .of_eq (h us hl)
def b4L'(CX:CXT)(X:Cx)(E:XK):Prop:=∀(pq:Lp) (σ:St) (H:Hp) (s:Shared) (e:Value) (s':Shared),Inv X pq σ H s→CX X.stack H s E e s'→X.xe e s'
section
variable {X:Cx}{CX:CXT}{C:Addr}{fd:FuncData}{sp:Sp}{dvs:List V}{ds:Lv}{E:XK}{x m:Str}{p pos:Pos}{o:Expr}{es:Lx}{ta:TE}{t:TA}
theorem run_fn{σ:St}{H:Hp}{Q:VK}{vs:List V}(F:FnOk X.prog X.w X.K X.mg X.base CX k f fd ps sp)(hr:Room k X.A)(hb:Binds X.K fd ps ds)(hd:Vals dvs ds)(hx:b4L' CX X E)
  (I:Inv X pq σ H s) (r:Vals vs us) (h:sp (vs++dvs) H Q E):wpAny (model X.prog X.w) X.A (call (.ref f) us) (EP X pq σ Q) X.xe s:=by
 have r2:Vals (vs++dvs) (us++ds):=r.append hd;have hl:(us++ds).length=ps.length:=by rw[←r2.length];exact F.len _ _ _ _ h
 refine wpAny_call (codeAny_mono (F.run X.A X.stack s H ⟨us,[]⟩ (us++ds) (vs++dvs) Q E hr I.env0 (hb s us I.kIn hl) r2 h) λr s' hq=>?_);cases r with
 |error e=>exact hx pq σ H s e s' I hq
 |ok fl=>
  cases fl with
  |ret u=>exact I.after hq
  |next=>exact False.elim hq
  |brk=>exact False.elim hq
  |cont=>exact False.elim hq
theorem pe_call(F:FnOk X.prog X.w X.K X.mg X.base CX k f fd ps sp)(hr:Room k X.A)(hg:Gl X x)(hm:X.mg x=some (.ref f))(hk:PySem.W.keepIn X.K (.ref f)=true)(hb:Binds X.K fd ps ds)(hd:Vals dvs ds)(hx:b4L' CX X E)
  (ha:PA X (e::es) t) (hdb:(x==("__debug__":Str))=false:=by decide) (he:starEach (e::es) X.env=(false,eval e X.env)::starEach es X.env:=by rfl) (hpl:(backTo pos (starEach es X.env)).any (·.1)=false:=by rfl):
  PE X (.Call (.Name x p) (e::es) [] pos) (tCall sp dvs E t):=by
 intro pq s σ H Q I h;refine wpAny_Call_Name_kw (b3L' I hg hm ?_ hdb);refine PySem.W.callWith_K (h₀:=X.base) I.ok.mod.kin hk (thn (ha pos pq s σ H _ I h) λus s1 ⟨vs,H1,I1,r,q⟩=>⟨I1.kIn,?_⟩) he hpl;exact run_fn F hr hb hd hx I1 r q
end
section
variable {X:Cx}{CX:CXT}{C:Addr}{fd:FuncData}{ks:Ls}{sp:Sp}{E:XK}{x m:Str}{p pos kpos:Pos}{o:Expr}{es:Lx}{kws:List Keyword}{te ta:TE}{t tk:TA}{nm:Option Str}
variable {g:Lv→Lv→Lv}{gV:List V→List V→List V}
end
structure FnScope (N P:Ls)(sc:Scope):Prop where
 kind:sc.kind=.function
 co:sc.isCoroutine=false
 gen:sc.isGenerator=false
 nd:N.Nodup
 pre:N.take P.length=P
 par:∀x∈P,sc.names.lookup x=some .local∨sc.names.lookup x=some .cell
 nofree:∀y∈sc.names,y.2≠.free
theorem a8o'{kindOf:Str→Option NameKind}{x:Str}:∀{binds:List (Str×Value)} {m:Mg},(∀v,(x,v)∉binds)→bindL kindOf binds m x=m x
 | [],_,_=>rfl
 | (n,v)::r,m,h=>by
  unfold bindL;rw[a8o' λw hw=>h w (Zc _ hw)];split
  ·have:x≠n:=by rintro rfl;exact h v Zb
   simp[this]
  ·rfl
theorem a8p'{kindOf:Str→Option NameKind}{x:Str}:∀{binds:List (Str×Value)} {m:Mg},(∀v,(x,v)∉binds)→bindC kindOf binds m x=m x
 | [],_,_=>rfl
 | (n,v)::r,m,h=>by
  unfold bindC;rw[a8p' λw hw=>h w (Zc _ hw)];split
  ·rfl
  ·have:x≠n:=by rintro rfl;exact h v Zb
   simp[this]
theorem a8q'{kindOf:Str→Option NameKind}{x:Str}{v:Value}:∀{P:Ls} {vs:Lv} {i:Nat} {m:Mg},P.Nodup→P[i]?=some x→vs[i]?=some v→kindOf x=some .local→
  bindL kindOf (P.zip vs) m x=some v
 | [],_,_,_,_,h,_,_=>by simp at h
 |_::_,[],_,_,_,_,h,_=>by simp at h
 |p::P,w::vs,0,m,nd,h1,h2,hk=>by simp at h1 h2;subst h1;subst h2;show bindL kindOf ((p,w)::P.zip vs) m p=_;unfold bindL;rw[a8o' λv hv=>(List.nodup_cons.mp nd).1 (List.of_mem_zip hv).1,if_pos hk];simp
 |p::P,w::vs,i+1,m,nd,h1,h2,hk=>by show bindL kindOf ((p,w)::P.zip vs) m x=_;unfold bindL;exact a8q' (i:=i) (List.nodup_cons.mp nd).2 (by simpa using h1) (by simpa using h2) hk
theorem a8r'{kindOf:Str→Option NameKind}{x:Str}{v:Value}:∀{P:Ls} {vs:Lv} {i:Nat} {m:Mg},P.Nodup→P[i]?=some x→vs[i]?=some v→kindOf x≠some .local→
  bindC kindOf (P.zip vs) m x=some v
 | [],_,_,_,_,h,_,_=>by simp at h
 |_::_,[],_,_,_,_,h,_=>by simp at h
 |p::P,w::vs,0,m,nd,h1,h2,hk=>by simp at h1 h2;subst h1;subst h2;show bindC kindOf ((p,w)::P.zip vs) m p=_;unfold bindC;rw[a8p' λv hv=>(List.nodup_cons.mp nd).1 (List.of_mem_zip hv).1,if_neg hk];simp
 |p::P,w::vs,i+1,m,nd,h1,h2,hk=>by show bindC kindOf ((p,w)::P.zip vs) m x=_;unfold bindC;exact a8r' (i:=i) (List.nodup_cons.mp nd).2 (by simpa using h1) (by simpa using h2) hk
noncomputable def start(N:Ls)(vs:List V):St:=vs.map some++List.replicate (N.length-vs.length) none
noncomputable def cxOf(CX:CXT)(P:Program)(w:World)(K:Fg)(mg:Mg)(base:Heap)(N:Ls)(qual:Str)(scope:Scope)(f:Addr)(cd:Value)(A:Around)(outer:List Env)(s:Shared)(H:Hp)(E:XK):Cx where
 prog:=P
 w:=w
 K:=K
 mg:=mg
 base:=base
 A:=A.deeper (envOfC qual scope s.heap.objs.size f cd)
 N:=N
 s₀:=s
 H₀:=H
 env:=envOfC qual scope s.heap.objs.size f cd
 outer:=outer
 stack:=envOfC qual scope s.heap.objs.size f cd::outer
 ex:=[]
 calm:=true
 fn:=λ_=>true
 pn:=[]
 xe:=λe s'=>wpAny (model P w) (A.deeper (envOfC qual scope s.heap.objs.size f cd)) (leaving (envOfC qual scope s.heap.objs.size f cd) e) (λ_ s''=>CX outer H s E e s'') (λe' s''=>CX outer H s E e' s'') s'
theorem b0o'{sc:Scope}{x:Str}(h:sc.names.lookup x=some .cell):∃c,(cellsFrom n sc.names []).lookup x=some c:=by have q:=PySem.W.cellsFrom_some sc.names n [] (.inl h);exact Option.isSome_iff_exists.mp q
theorem b2J'{CX:CXT}{cd:Value}{outer:List Env}{s1:Shared}{H:Hp}{E:XK}{vs:List V}
  (S:FnScope N ps scope) (hd:A.handled=none) (e0:Env0 P w K mg base A outer s H) (hl:vs.length=ps.length) (r:Vals vs us)
  (x:InCallC s s.heap.objs.size (bindL (envOfC qual scope s.heap.objs.size f cd).kindOf (ps.zip us) λ_=>none) (cellsFrom (s.heap.objs.size+1) scope.names []) (bindC (envOfC qual scope s.heap.objs.size f cd).kindOf (ps.zip us) λ_=>none) s1):
  Inv (cxOf CX P w K mg base N qual scope f cd A outer s H E) [] (start N vs) H s1:=by
 have hpl:ps.length≤N.length:=by have:=congrArg List.length S.pre;rw[Yf]at this;omega
 obtain⟨h1,tk,rfl,hk⟩:=x.done;have noA:∀b:Addr,b∉(cxOf CX P w K mg base N qual scope f cd A outer s H E).ex:=λb z=>absurd (show b∈([]:La)from z) (by simp)
 refine⟨⟨e0.mod,S.kind,rfl,rfl,Zi _,λy z c h1 h2=>?_,λy hy=>?_,λy c _ h=>?_,λ_=>hd,Around.frames_deeper e0.frames,.inr ⟨rfl,rfl⟩,λb z=>absurd z (noA b),e0.bs,e0.bsz,λb _ _=>noA b,λb z=>absurd z (noA b),e0.funs,e0.frf⟩,
  rfl,e0.bare,Un.kept hk,⟨_,x.toInCall.ns,λi y v h1 h2 h3=>?_⟩,λy c h=>⟨_,x.cell y c h⟩,e0.hok.fresh (Zi _),λy c h=>?_,λp hp=>absurd (show p∈([]:Lp)from hp) (by simp),e0.hok.kept hk,?_⟩
 ·exact name_of_addr x.apart (ZV h1) (ZV h2)
 ·have hy:scope.names.lookup y=some .cell∨scope.names.lookup y=some .free:=hy;rcases hy with hy|hy
  ·exact b0o' hy
  ·exact absurd rfl (S.nofree _ (ZV hy))
 ·exact Nat.le_of_lt (x.above y c (ZV h))
 ·have hi:i<vs.length:=by
   unfold start at h2;by_cases hi:i<vs.length
   ·exact hi
   ·rw[Zv (by simpa using hi)]at h2;rw[List.getElem?_replicate]at h2;split at h2<;>cases h2
  have ha:vs[i]?=some v:=by
   unfold start at h2;rw[ZB (by simpa using hi),ZW]at h2;cases e:vs[i]? with
   |none=>rw[e]at h2;cases h2
   |some a=>rw[e]at h2;cases h2;rfl
  obtain⟨u,hu,rv⟩:=r.get ha;have hp:ps[i]?=some y:=by rw[←S.pre,List.getElem?_take_of_lt (by omega)];exact h1
  have ndP:ps.Nodup:=by rw[←S.pre];exact S.nd.sublist (List.take_sublist _ _)
  refine⟨u,rv,?_⟩;rcases S.par y (ZI hp)with k|k
  ·exact .inl ⟨k,a8q' ndP hp hu k⟩
  ·obtain⟨c,e⟩:=b0o' (n:=s.heap.objs.size+1) k;refine .inr ⟨.inl k,c,e,?_⟩;have q:=x.cell y c e;rw[a8r' ndP hp hu (by show scope.names.lookup y≠_;rw[k];decide)]at q;exact q
 ·exact e0.hok.fresh (Nat.le_of_lt (x.above y c (ZV h)))
 ·unfold start;show _=N.length;rw[Zp,Zm,List.length_replicate];omega
theorem fn_of{CX:CXT}{params:Arguments}{body:List Stmt}{dV kV:Value}{an:Option Addr}
    {sp:Sp} (lk:K.lookup f=some ⟨oc,od,.func (PySem.W.fnOf name qual params body scope dV kV doc pm an cdv ct),osl⟩) (hcd:PySem.W.codeIn K cdv qual=true) (S:FnScope N ps scope)
  (len:∀vs H Q E,sp vs H Q E→vs.length=ps.length)
  (hbody:∀(A:Around) (outer:List Env) (s:Shared) (H:Hp) (vs:List V) (Q:VK) (E:XK),Room k (A.deeper (envOfC qual scope s.heap.objs.size f cdv))→sp vs H Q E→
   ∃t,PSs (cxOf CX P w K mg base N qual scope f cdv A outer s H E) body t∧t {nx:=λ_ H'=>Q .non H',rt:=Q} (start N vs) H):
  FnOk P w K mg base CX (k+1) f (PySem.W.fnOf name qual params body scope dV kV doc pm an cdv ct) ps sp:=by
 refine⟨len,λA outer s H args us vs Q E hr e0 hb r hsp=>?_⟩;have hl:=len _ _ _ _ hsp;have KX:K.In s.heap:=e0.mod.kin.keeps λb o e=>(e0.bs b o e).1;have lim:s.heap.NoLimit:=e0.mod.nolimit.keeps λb o e=>(e0.bs b o e).1
 have hkind:∀y∈ps.zip us,scope.names.lookup y.1=some .local∨(scope.names.lookup y.1=some .cell∧((cellsFrom (s.heap.objs.size+1) scope.names []).lookup y.1).isSome=true):=λ⟨n,v⟩ hy=>by
  rcases S.par n (List.of_mem_zip hy).1 with q|q
  ·exact .inl q
  ·exact .inr ⟨q,PySem.W.cellsFrom_some _ _ _ (.inl q)⟩
 refine codeAny_call_function hr.depth (KX _ _ lk) rfl S.co S.gen rfl (PySem.W.codeRec_of KX hcd) (hb _ _ _ _ ?_);refine wpAny_newFunctionEnv_cells S.kind hkind λenv he s1 x=>?_;subst he;refine⟨lim.keeps x.toInCall.keep,codeAny_func ?_⟩;obtain⟨t,ht,hq⟩:=hbody A outer s H vs Q E (hr.deeper _) hsp;have I:Inv (cxOf CX P w K mg base N qual scope f cdv A outer s H E) [] (start N vs) H s1:=b2J' S hr.hd e0 hl r x;refine wpAny_mono (ht [] s1 (start N vs) H _ I hq) (λfl s' hs=>?_) λe s' hs=>hs
 have fin:∀{σ':St} {H':Hp} {v:V} {u:Value},Inv (cxOf CX P w K mg base N qual scope f cdv A outer s H E) [] σ' H' s'→RelV v u→Q v H'→CE outer P w H s Q u s':=
  λ{σ' H' v u} J rv q=>⟨v,H',J.os,J.bare,J.base,J.hok,rv,q⟩
 cases fl with
 |ret u=>obtain⟨v,σ',H',J,rv,q⟩:=hs;exact fin J rv q
 |next=>obtain⟨σ',H',J,q⟩:=hs;exact fin (v:=V.non) (u:=Value.none) J rfl q
 |brk=>obtain⟨_,_,_,q⟩:=hs;exact False.elim q
 |cont=>obtain⟨_,_,_,q⟩:=hs;exact False.elim q
section
variable {X:Cx}{x:Str}{p pos:Pos}{es:Lx}{t:TA}{id T:String}{r:List V→Hp→VK→Prop}
def tCB(r:List V→Hp→VK→Prop)(t:TA):TE:=λσ H Q=>t σ H λvs H1=>r vs H1 Q
theorem b4M'(hc:CallR X (.builtin id) r)(hg:Gl X x)(hm:X.mg x=none)(hv:bootBuiltins x=some (.builtin id))(ha:PA X (e::es) t)(hn:x≠"__name__":=by decide)(hdb:(x==("__debug__":Str))=false:=by decide)
  (he:starEach (e::es) X.env=(false,eval e X.env)::starEach es X.env:=by rfl) (hpl:(backTo pos (starEach es X.env)).any (·.1)=false:=by rfl):PE X (.Call (.Name x p) (e::es) [] pos) (tCB r t):=by
 intro pq s σ H Q I h;refine wpAny_Call_Name_kw (a5j' I hg hm hv ?_ hn hdb);exact PyProof.Rows.callWith_builtin1 (thn (ha pos pq s σ H _ I h) λus s1 ⟨vs,H1,I1,r1,q1⟩=>hc pq s1 σ H1 vs us Q I1 r1 q1) he hpl
theorem a5S'(hc:CallR X (.type T) r)(hg:Gl X x)(hm:X.mg x=none)(hv:bootBuiltins x=some (.type T))(ha:PA X (e::es) t)(hn:x≠"__name__":=by decide)(hdb:(x==("__debug__":Str))=false:=by decide)
  (he:starEach (e::es) X.env=(false,eval e X.env)::starEach es X.env:=by rfl) (hpl:(backTo pos (starEach es X.env)).any (·.1)=false:=by rfl):PE X (.Call (.Name x p) (e::es) [] pos) (tCB r t):=by
 intro pq s σ H Q I h;refine wpAny_Call_Name_kw (a5j' I hg hm hv ?_ hn hdb);exact Yk (thn (ha pos pq s σ H _ I h) λus s1 ⟨vs,H1,I1,r1,q1⟩=>hc pq s1 σ H1 vs us Q I1 r1 q1) he hpl
end
end L2
namespace HT
section
open PySem.SeqAt
open PySem.AutoSeq1 (wpAny_loadPart')
open PySem.MeetsSeq PySem.MeetsSeq2 PySem.MeetsSeq3
end
theorem cat_tup{b:Addr}{vs ws:Lv}(ht:IsTup s.heap t vs.toArray)(hb:IsTup s.heap b ws.toArray)(hv:vs≠[])
  (h1:ws=[]→Q (.ref t) s) (h2:ws≠[]→Q (.ref s.heap.objs.size) {s with heap:=s.heap.push {cls:=.type "tuple",data:=.seq (vs++ws).toArray}})
  (hsz:vs.length+ws.length≤sizeLine):wpAny (model prog w) A (binaryOp .Add (.ref t) (.ref b)) Q E s:=by
 obtain⟨⟨cls,dd,data,sl⟩,ho,hc,n,hd⟩:=id ht;obtain⟨⟨cls2,dd2,data2,sl2⟩,ho2,hc2,n2,hd2⟩:=id hb;simp only at hc hd hc2 hd2;subst hc hd hc2 hd2;have e:vs.toArray++ws.toArray=(vs++ws).toArray:=by simp
 by_cases hw:ws=[]
 ·exact concat_meets ⟨_,ho,rfl⟩ ⟨_,ho2,rfl⟩ noFill_tuple_add seq_tuple_add PySem.F.slot_tuple_add PySem.F.entry_tuple_add (PySem.F.args_tuple_add_2 _ _)
   (tuple_addW1 t b vs.toArray ws.toArray n n2 dd dd2 sl sl2 (by simpa using hv) (by simp[hw])) ⟨ho,ho2,h1 hw⟩
 ·refine concat_meets ⟨_,ho,rfl⟩ ⟨_,ho2,rfl⟩ noFill_tuple_add seq_tuple_add PySem.F.slot_tuple_add PySem.F.entry_tuple_add (PySem.F.args_tuple_add_2 _ _)
   (tuple_addW2 t b vs.toArray ws.toArray n n2 dd dd2 sl sl2 (by simpa using hv) (by simpa using hw) (by rw[Zk,Zk];exact hsz)) ⟨ho,ho2,?_⟩
  rw[e];exact h2 hw
noncomputable def sIx(n d:Nat):Option Int→Nat
 |none=>d
 |some v=>if v<0 then(v+(n:Int)).toNat else min v.toNat n
theorem sIx_le(n d:Nat)(hd:d≤n)(o:Option Int):sIx n d o≤n:=by
 cases o with
 |none=>exact hd
 |some v=>
  show(if v<0 then(v+(n:Int)).toNat else min v.toNat n)≤n;by_cases hv:v<0
  ·rw[if_pos hv];omega
  ·rw[if_neg hv];exact Nat.min_le_right _ _
theorem b3N'(v:Int)(n d:Nat):(if v<0 then max (v+(n:Int)) 0 else min v (n:Int))=((sIx n d (some v):Nat):Int):=by
 show(if v<0 then max (v+(n:Int)) 0 else min v (n:Int))=(((if v<0 then(v+(n:Int)).toNat else min v.toNat n):Nat):Int);by_cases hv:v<0
 ·simp only[if_pos hv];omega
 ·simp only[if_neg hv];omega
theorem b0p'(lo hi:Option Int)(n:Nat):Builtin.Slice.sliceAdjust lo hi 1 (n:Int)=(((sIx n 0 lo:Nat):Int),((sIx n n hi:Nat):Int)):=by
 have h1:¬((1:Int)<0):=by omega
 unfold Builtin.Slice.sliceAdjust;simp only[h1,if_false];refine Prod.ext ?_ ?_
 ·cases lo with
  |none=>rfl
  |some v=>exact b3N' v n 0
 ·cases hi with
  |none=>rfl
  |some v=>exact b3N' v n n
theorem b0q'(i j:Nat):Builtin.Slice.slicePlaces (i:Int) (j:Int) 1=j-i:=by
 unfold Builtin.Slice.slicePlaces;have h1:(1:Int)>0:=by omega
 simp only[h1,if_true,Int.ediv_one];split<;>omega
theorem a6B'{v:Value}{o:Option Int}{Q:Option Int→Shared→Prop}(p:IsPart v o)(h:Q o s):wpAny (model prog w) A (Builtin.Slice.slicePartIndex v) Q E s:=by
 cases p with
 |none=>exact slicePart_none h
 |int i t=>exact slicePart_int h
theorem a2l'{lo:Option Int}{Q:Int×Int×Nat→Shared→Prop}(hs:s.heap.IsSliceOf sl vl vu .none)(pl:IsPart vl lo)(pu:IsPart vu hi)
  (h:Q (((sIx n 0 lo:Nat):Int),1,sIx n n hi-sIx n 0 lo) s):wpAny (model prog w) A (Builtin.Slice.sliceApplied (.ref sl) (pure (n:Int))) Q E s:=by
 obtain⟨os,hos,hcs,hds⟩:=id hs;unfold Builtin.Slice.sliceApplied Builtin.Slice.sliceFields;refine Za (Za (wpAny_field hos hds (x:=vl) rfl (Za (wpAny_field hos hds (x:=vu) rfl (Za (wpAny_field hos hds (x:=.none) rfl (Zf ?_)))))));refine Za (slicePart_none ?_);show wpAny _ _ (if((1:Int)==0)=true then _ else _) _ _ s;rw[if_neg (by decide)];refine Za (a6B' pl (Za (a6B' pu (Za (Zf ?_)))));show wpAny _ _ (match Builtin.Slice.sliceAdjust lo hi 1 (n:Int)with| (lo,hi)=>pure (lo,(1:Int),Builtin.Slice.slicePlaces lo hi 1)) _ _ s;rw[b0p' lo hi n];show wpAny _ _ (pure (((sIx n 0 lo:Nat):Int),(1:Int),Builtin.Slice.slicePlaces ((sIx n 0 lo:Nat):Int) ((sIx n n hi:Nat):Int) 1)) _ _ s;rw[b0q'];exact Zf h
theorem b4N'(xs:Av)(i k:Nat):((List.range k).filterMap λ(m:Nat)=>xs[((i:Int)+(m:Int)*1).toNat]?).toArray=((xs.toList.drop i).take k).toArray:=by
 have e:(λ(m:Nat)=>xs[((i:Int)+(m:Int)*1).toNat]?)=λm=>xs[i+m]? :=by
  funext m;have:((i:Int)+(m:Int)*1).toNat=i+m:=by omega
  rw[this]
 rw[e];have:=pick_run xs i k;rw[List.filterMap_map]at this;have e2:((λx=>xs[x]?)∘λx=>i+x)=λm=>xs[i+m]? :=rfl;rw[e2]at this;rw[this]
theorem a4l'{lo:Option Int}(ht:IsTup s.heap t items)(hs:s.heap.IsSliceOf sl vl vu .none)(pl:IsPart vl lo)(pu:IsPart vu hi)
  (hw:¬(sIx items.size 0 lo=0∧sIx items.size items.size hi=items.size))
  (h:Q (.ref s.heap.objs.size) {s with heap:=s.heap.push {cls:=.type "tuple",data:=.seq ((items.toList.drop (sIx items.size 0 lo)).take (sIx items.size items.size hi-sIx items.size 0 lo)).toArray}})
  (hsz:items.size≤sizeLine):wpAny (model prog w) A (getItem (.ref t) (.ref sl)) Q E s:=by
 have htake:sizeOk (.seq ((items.toList.drop (sIx items.size 0 lo)).take (sIx items.size items.size hi-sIx items.size 0 lo)).toArray):=by show((items.toList.drop (sIx items.size 0 lo)).take (sIx items.size items.size hi-sIx items.size 0 lo)).toArray.size≤sizeLine;rw[Zk,Yf,List.length_drop,Zt];omega
 have hj:sIx items.size items.size hi≤items.size:=sIx_le _ _ (Zi _) hi;obtain⟨os,hos,hcs,hds⟩:=id hs;have hTs:s.TypeIs (.ref sl) "slice":=⟨os,hos,hcs⟩;unfold getItem
 try with_reducible refine wpAny_holding ?_
 first|refine Za (Zf ?_)|skip
 refine Za (wpAny_sequenceKey ht.typeIs (by decide) ?_)
 refine Za (Yj (name:=Str.ofString "__getitem__") ht.typeIs PyProof.Rows.slot_tuple_getitem
  (Ye PyProof.Rows.slot_tuple_getitem ht.typeIs entry_tuple_getitem ?_ (args_tuple_getitem _ _)))
 show wpAny _ _ (Builtin.Tuple.tupleItemsOf (.ref t)>>=_) _ _ s;refine Za (tupleItemsOf_ ht ?_);refine Za (wpAny_typeOf hTs ?_);rw[if_pos (by decide)];refine Za (a2l' hs pl pu ?_);have hno:¬((((sIx items.size 0 lo:Nat):Int)==0&&(1:Int)==1&&(sIx items.size items.size hi-sIx items.size 0 lo)==items.size)=true):=by intro q;rw[ZA,ZA]at q;have q1:((sIx items.size 0 lo:Nat):Int)=0:=eq_of_beq q.1.1;have q2:sIx items.size items.size hi-sIx items.size 0 lo=items.size:=eq_of_beq q.2;exact hw ⟨by omega,by omega⟩
 show wpAny _ _ (if(((sIx items.size 0 lo:Nat):Int)==0&&(1:Int)==1&&(sIx items.size items.size hi-sIx items.size 0 lo)==items.size)=true then _ else _) _ _ s;rw[if_neg hno,b4N']
 first
  |exact Za (m:=Builtin.Tuple.tupleExact _) (Yh (Zf ⟨_,rfl,Zf h⟩) htake)
  |exact Za (m:=Builtin.Tuple.tupleExact _) (Yh (Za (Zf (Zf ⟨_,rfl,Zf h⟩))) htake)
  |exact Za (Za (m:=Builtin.Tuple.tupleExact _) (Yh (Zf (Zf ⟨_,rfl,Zf h⟩)) htake))
  |exact Za (Za (m:=Builtin.Tuple.tupleExact _) (Yh (Zf ⟨_,rfl,Zf h⟩) htake))
end HT
namespace L2
abbrev TO:=St→Hp→(Option Int→Hp→Prop)→Prop
def PO(X:Cx)(e:Option Expr)(t:TO):Prop:=
 ∀(pq:Lp) (s:Shared) (σ:St) (H:Hp) (Q:Option Int→Hp→Prop),Inv X pq σ H s→t σ H Q→
  wpAny (model X.prog X.w) X.A (evalPart e X.env) (λu s'=>∃o H',Inv X pq σ H' s'∧IsPart u o∧Q o H') X.xe s
def tNoPart:TO:=λ_ H Q=>Q none H
def tPart(t:TE):TO:=λσ H Q=>t σ H λx H1=>∃i,x=.int i∧Q (some i) H1
theorem b0r':∀{us:Lv},Vals (ns.map V.int) us→IntsAre us ns:=by
 induction ns with
 |nil=>intro us r;rw[List.map_nil]at r;cases r;exact .nil
 |cons n ns ih=>
  intro us r;rw[ZE]at r;cases r with
  |cons r1 r2=>obtain⟨t,e⟩:=r1;subst e;exact .cons n t (ih r2)
section
variable {X:Cx}{te:TE}{lo hi:Option Expr}{tl th:TO}{pos:Pos}
theorem po_none:PO X none tNoPart:=by intro pq s σ H Q I h;rw[evalPart_none];exact Zf ⟨none,H,I,.none,h⟩
theorem po_some(h:PE X e te):PO X (some e) (tPart te):=by intro pq s σ H Q I hw;rw[evalPart_some];refine thn (h pq s σ H _ I hw) λu s1 ⟨x,H1,I1,r1,q1⟩=>?_;obtain⟨i,rfl,q⟩:=q1;obtain⟨t,rfl⟩:=r1;exact⟨some i,H1,I1,.int i t,q⟩
def SlR(X:Cx)(r:V→Option Int→Option Int→Hp→VK→Prop):Prop:=
 ∀(pq:Lp) (s:Shared) (σ:St) (H:Hp) (x:V) (v vl vu:Value) (lo hi:Option Int) (sl:Addr) (Q:VK),Inv X pq σ H s→RelV x v→s.heap.IsSliceOf sl vl vu .none→IsPart vl lo→IsPart vu hi→r x lo hi H Q→
  ∃T id,typeLookup (.type T) "__getitem__"=pure (some (.builtin id))∧s.TypeIs v T∧wpAny (model X.prog X.w) X.A (getItem v (.ref sl)) (EP X pq σ Q) X.xe s
def tSl(r:V→Option Int→Option Int→Hp→VK→Prop)(te:TE)(tl th:TO):TE:=λσ H Q=>te σ H λx H1=>tl σ H1 λl H2=>th σ H2 λu H3=>r x l u H3 Q
theorem b4O'{r:V→Option Int→Option Int→Hp→VK→Prop}(hr:SlR X r)(he:PE X e te)(hl:PO X lo tl)(hu:PO X hi th):PE X (.Subscript e (.Slice lo hi none p2) pos) (tSl r te tl th):=by intro pq s σ H Q I h;refine Subscript_ (thn (he pq s σ H _ I h) λv s1 ⟨x,H1,I1,r1,q1⟩=>?_);refine wpAny_Slice (thn (hl pq s1 σ H1 _ I1 q1) λvl s2 ⟨l,H2,I2,pl,q2⟩=>thn (hu pq s2 σ H2 _ I2 q2) λvu s3 ⟨u,H3,I3,pu,q3⟩=>?_);rw[evalPart_none];refine Zf ?_;have I4:Inv X pq σ H3 {s3 with heap:=s3.heap.push {cls:=.type "slice",data:=.fields #[vl,vu,.none]}}:=I3.kept (t':=s3.toks) λb ob q=>Zd _ q;obtain⟨T,id,hT,ht,hg⟩:=hr pq {s3 with heap:=s3.heap.push {cls:=.type "slice",data:=.fields #[vl,vu,.none]}} σ H3 x v vl vu l u s3.heap.objs.size Q I4 r1 (Heap.IsSliceOf.new ..) pl pu q3;show wpAny (model X.prog X.w) X.A (subscriptTail e (.Slice lo hi none p2) v (.ref s3.heap.objs.size)) (EP X pq σ Q) X.xe {s3 with heap:=s3.heap.push {cls:=.type "slice",data:=.fields #[vl,vu,.none]}};exact tail_any (ops:=[.ref s3.heap.objs.size,v]) ht hT hg (by with_unfolding_all rfl)
noncomputable def cutV(xs:List V)(lo hi:Option Int):List V:=(xs.drop (HT.sIx xs.length 0 lo)).take (HT.sIx xs.length xs.length hi-HT.sIx xs.length 0 lo)
theorem a5v'(xs:List V)(lo hi:Option Int):(cutV xs lo hi).length≤xs.length:=by unfold cutV;rw[Yf,List.length_drop];omega
def rSlT(K:Fg):V→Option Int→Option Int→Hp→VK→Prop:=λx lo hi H Q=>∃a xs,x=.ref a∧SqT K H a xs∧
 ¬(HT.sIx xs.length 0 lo=0∧HT.sIx xs.length xs.length hi=xs.length)∧∀p,H p=none→Q (.ref p) (upd H p (.tup (cutV xs lo hi)))
theorem sl_tup:SlR X (rSlT X.K):=by
 intro pq s σ H x v vl vu lo hi sl Q I rx hs pl pu h;obtain⟨a,xs,rfl,hx,hw,q⟩:=h;cases rx;obtain⟨its,r,ht,hz⟩:=I.tuple hx;have hlen:its.toArray.size=xs.length:=by rw[Zk];exact r.length.symm
 refine⟨"tuple",_,PyProof.Rows.slot_tuple_getitem.lookup,ht.typeIs,?_⟩;refine HT.a4l' ht hs pl pu (by rw[hlen];exact hw) ?_ (by rw[hlen];exact hz);rw[hlen];refine⟨.ref s.heap.objs.size,_,I.laid (t':=s.toks) (o:=.tup (cutV xs lo hi)) (λb ob q=>Zd _ q) (Zi _) ?_,rfl,q _ (I.hok.fresh (Zi _))⟩;exact⟨ZP (a5v' xs lo hi) hz,_,(r.drop (HT.sIx xs.length 0 lo)).take (HT.sIx xs.length xs.length hi-HT.sIx xs.length 0 lo),IsTup.new _ _,NoD.new _ _⟩
def rCatT(K:Fg):R2:=λx y H Q=>∃a b xs ys,x=.ref a∧y=.ref b∧SqT K H a xs∧SqT K H b ys∧xs≠[]∧xs.length+ys.length≤sizeLine∧
 (ys=[]→Q (.ref a) H)∧(ys≠[]→∀p,H p=none→Q (.ref p) (upd H p (.tup (xs++ys))))
theorem Vals.nil_iff{xs:List V}(r:Vals xs us):us=[]↔xs=[]:=by
 cases r with
 |nil=>simp
 |cons _ _=>simp
theorem op_catT:OpR X (binaryOp .Add) (rCatT X.K):=by intro pq s σ H x y v u Q I rx ry h;obtain⟨a,b,xs,ys,rfl,rfl,ha,hb,hx,hz,q1,q2⟩:=h;cases rx;cases ry;obtain⟨its,r1,p1,_⟩:=I.tuple ha;obtain⟨its2,r2,p2,_⟩:=I.tuple hb;refine HT.cat_tup p1 p2 (λz=>hx (r1.nil_iff.mp z)) (λz=>⟨.ref a,H,I,rfl,q1 (r2.nil_iff.mp z)⟩) (λz=>?_) (by rw[←r1.length,←r2.length];exact hz);refine⟨.ref s.heap.objs.size,_,I.laid (t':=s.toks) (o:=.tup (xs++ys)) (λb ob q=>Zd _ q) (Zi _) ?_,rfl,q2 (λw=>z (r2.nil_iff.mpr w)) _ (I.hok.fresh (Zi _))⟩;exact⟨by rw[Zp];exact hz,_,r1.append r2,IsTup.new _ _,NoD.new _ _⟩
end
noncomputable def ixN(n:Nat)(i:Int):Option Nat:=if 0≤i then(if i<n then some i.toNat else none)else if-(n:Int)≤i then some (i+n).toNat else none
noncomputable def atI{α:Type}(xs:List α)(i:Int):Option α:=(ixN xs.length i).bind λj=>xs[j]?
theorem b3O'{i:Int}{j:Nat}(h:ixN n i=some j):seqIndex? i n=some j∧j<n∧-(n:Int)≤i∧i<n:=by
 unfold ixN at h;by_cases h0:0≤i
 ·rw[if_pos h0]at h;by_cases h1:i<n
  ·rw[if_pos h1]at h;have e:i.toNat=j:=Z6 h;exact⟨by rw[seqIndex_of h0 h1,e],by omega,by omega,h1⟩
  ·rw[if_neg h1]at h;cases h
 ·rw[if_neg h0]at h;by_cases h1: -(n:Int)≤i
  ·rw[if_pos h1]at h;have e:(i+n).toNat=j:=Z6 h;exact⟨by rw[seqIndex_neg (by omega) h1,e],by omega,h1,by omega⟩
  ·rw[if_neg h1]at h;cases h
theorem b3P'{xs:List α}{i:Int}{v:α}(h:atI xs i=some v):∃j,seqIndex? i xs.length=some j∧xs[j]?=some v∧j<xs.length∧-(xs.length:Int)≤i∧i<xs.length:=by
 unfold atI at h;cases e:ixN xs.length i with
 |none=>rw[e]at h;cases h
 |some j=>rw[e]at h;obtain⟨h1,h2,h3,h4⟩:=b3O' e;exact⟨j,h1,h,h2,h3,h4⟩
def b3Q'(b:Expr):Prop:=∀o i,subscripted b false o i=operate [o,i] (getItem o i)
def IxR(X:Cx)(r:R2):Prop:=
 ∀(value slice:Expr) (pq:Lp) (s:Shared) (σ:St) (H:Hp) (x y:V) (v u:Value) (Q:VK),Inv X pq σ H s→RelV x v→RelV y u→r x y H Q→
  subscripted slice false v u=operate [v,u] (getItem v u)→wpAny (model X.prog X.w) X.A (subscriptTail value slice v u) (EP X pq σ Q) X.xe s
def MtR(X:Cx)(id:String)(r:V→List V→Hp→VK→Prop):Prop:=
 ∀(pq:Lp) (s:Shared) (σ:St) (H:Hp) (x:V) (xs:List V) (v:Value) (us:Lv) (Q:VK),Inv X pq σ H s→RelV x v→Vals xs us→r x xs H Q→
  wpAny (model X.prog X.w) X.A (call (.builtin id) (v::us)) (EP X pq σ Q) X.xe s
section
variable {X:Cx}{a b:Expr}{ta tb:TE}{pos:Pos}
theorem pe_ix{r:R2}(hr:IxR X r)(ha:PE X a ta)(hb:PE X b tb)(hs:b3Q' b):PE X (.Subscript a b pos) (tOp r ta tb):=by intro pq s σ H Q I h;exact Subscript_ (binT ha hb I h λv u s2 x y H2 I2 rx ry q=>hr a b pq s2 σ H2 x y v u Q I2 rx ry q (hs _ _))
def rIxL(K:Fg):R2:=λx y H Q=>∃p xs i v,x=.ref p∧y=.int i∧SqL K H p xs∧atI xs i=some v∧Q v H
def rIxT(K:Fg):R2:=λx y H Q=>∃p xs i v,x=.ref p∧y=.int i∧SqT K H p xs∧atI xs i=some v∧Q v H
theorem ix_list:IxR X (rIxL X.K):=by
 intro value slice pq s σ H x y v u Q I rx ry h hs;obtain⟨p,xs,i,z,rfl,rfl,hq,he,q⟩:=h;cases rx;obtain⟨t,rfl⟩:=ry;obtain⟨its,r,pl,hz⟩:=I.list hq;obtain⟨j,h1,h2,h3,h4,h5⟩:=b3P' he;obtain⟨w,ew,rw'⟩:=r.get h2;have hl:=r.length;have hn:=b0m';have fin:EP X pq σ Q w s:=⟨z,H,I,rw',q⟩;by_cases h0:0≤i
 ·have hj:i.toNat=j:=by
   rw[seqIndex_of h0 h5]at h1;exact Z6 h1
  exact item_listR pl.isList h0 (by omega) (by rw[hj];simpa using ew) fin hs
 ·have hj:(i+(its.toArray.size:Int)).toNat=j:=by
   rw[seqIndex_neg (by omega) h4]at h1;rw[Zk,←hl];exact Z6 h1
  exact subscriptTail_builtinR (x:=w) pl.isList.typeIs slot_list_getitem.lookup
   (wpAny_getItem_list_neg (Q:=λr s'=>r=w∧EP X pq σ Q r s') pl.isList (by omega) (by rw[Zk]<;>omega) (by omega) (by rw[hj];simpa using ew) ⟨rfl,fin⟩) hs
theorem ix_tup:IxR X (rIxT X.K):=by
 intro value slice pq s σ H x y v u Q I rx ry h hs;obtain⟨p,xs,i,z,rfl,rfl,hq,he,q⟩:=h;cases rx;obtain⟨t,rfl⟩:=ry;obtain⟨its,r,pl,hz⟩:=I.tuple hq;obtain⟨j,h1,h2,h3,h4,h5⟩:=b3P' he;obtain⟨w,ew,rw'⟩:=r.get h2;have hl:=r.length;have hn:=b0m';have fin:EP X pq σ Q w s:=⟨z,H,I,rw',q⟩
 exact subscriptTail_builtinR (x:=w) pl.typeIs slot_tuple_getitem.lookup
  (getItem_tuple (j:=j) (Q:=λr s'=>r=w∧EP X pq σ Q r s') pl (by omega) (by omega) (by rw[Zk,←hl];exact h1) (by simpa using ew) ⟨rfl,fin⟩) hs
theorem a7C'(lo hi:Option Int)(n:Nat):(sliceBounds lo hi none n).1=((HT.sIx n 0 lo:Nat):Int)∧(sliceBounds lo hi none n).2.1=((HT.sIx n n hi:Nat):Int)∧(sliceBounds lo hi none n).2.2=1:=by
 refine⟨?_,?_,rfl⟩
 ·cases lo with
  |none=>simp[sliceBounds,HT.sIx]
  |some i=>
   simp only[sliceBounds,HT.sIx,Option.getD_none,show(1:Int)>0 by decide,if_true];by_cases h:i<0
   ·simp only[h,if_true]<;>omega
   ·simp only[h,if_false]<;>omega
 ·cases hi with
  |none=>simp[sliceBounds,HT.sIx]
  |some i=>
   simp only[sliceBounds,HT.sIx,Option.getD_none,show(1:Int)>0 by decide,if_true];by_cases h:i<0
   ·simp only[h,if_true]<;>omega
   ·simp only[h,if_false]<;>omega
theorem a6C'(its:Lv)(lo hi:Option Int):slicePick its.toArray lo hi none=((its.drop (HT.sIx its.length 0 lo)).take (HT.sIx its.length its.length hi-HT.sIx its.length 0 lo)).toArray:=by obtain⟨h1,h2,h3⟩:=a7C' lo hi its.toArray.size;unfold slicePick;rw[h1,h2,h3];simp only[sliceRange_one,pick_run,Zk]<;>rfl
def rSlL(K:Fg):V→Option Int→Option Int→Hp→VK→Prop:=λx lo hi H Q=>∃a xs,x=.ref a∧SqL K H a xs∧∀p,H p=none→Q (.ref p) (upd H p (.lst (cutV xs lo hi)))
theorem sl_list:SlR X (rSlL X.K):=by intro pq s σ H x v vl vu lo hi sl Q I rx hs pl pu h;obtain⟨a,xs,rfl,hx,q⟩:=h;cases rx;obtain⟨its,r,ht,hz⟩:=I.list hx;have hlen:=r.length;refine⟨"list",_,slot_list_getitem.lookup,ht.isList.typeIs,?_⟩;refine wpAny_getItem_list_slice ht.isList hs pl pu .none (by simp) ?_ (by rw[Zk]<;>omega);rw[a6C',←hlen];refine⟨.ref s.heap.objs.size,_,I.laid (t':=s.toks) (o:=.lst (cutV xs lo hi)) (λb ob q=>Zd _ q) (Zi _) ?_,rfl,q _ (I.hok.fresh (Zi _))⟩;exact⟨ZP (a5v' xs lo hi) hz,_,0,(r.drop (HT.sIx xs.length 0 lo)).take (HT.sIx xs.length xs.length hi-HT.sIx xs.length 0 lo),Zo _ rfl⟩
theorem a7D':CallR X (.builtin "len") (λxs H Q=>∃p ys,xs=[.ref p]∧(SqL X.K H p ys∨SqT X.K H p ys)∧Q (.int ys.length) H):=by
 intro pq s σ H xs us Q I r h;obtain⟨p,ys,rfl,hq,q⟩:=h;obtain⟨u,rfl,rx⟩:=vals1 r;cases rx;have hn:=b0m';rcases hq with hq|hq
 ·obtain⟨its,r',pl,hz⟩:=I.list hq;have hlen:=r'.length;exact Calls.call_len_list pl.isList (by simp only[Zk]<;>omega) ⟨.int ys.length,H,I.tok _,⟨s.toks+1,by rw[Zk,hlen]⟩,q⟩
 ·obtain⟨its,r',pl,hz⟩:=I.tuple hq;have hlen:=r'.length;exact len_tuple pl (by simp only[Zk]<;>omega) ⟨.int ys.length,H,I.tok _,⟨s.toks+1,by rw[Zk,hlen]⟩,q⟩
theorem a7E':CallR X (.builtin "len") (λxs H Q=>∃z,xs=[.str z]∧z.length≤sizeLine∧Q (.int z.length) H):=by intro pq s σ H xs us Q I r h;obtain⟨z,rfl,hz,q⟩:=h;obtain⟨u,rfl,t,rfl⟩:=vals1 r;have hn:=b0m';exact len_str (by omega) ⟨.int z.length,H,I.tok _,⟨_,rfl⟩,q⟩
theorem a7F':CallR X (.type "list") (λxs H Q=>∃p ys,xs=[.ref p]∧(SqL X.K H p ys∨SqT X.K H p ys)∧∀l,H l=none→Q (.ref l) (upd H l (.lst ys))):=by
 intro pq s σ H xs us Q I r h;obtain⟨p,ys,rfl,hq,q⟩:=h;obtain⟨u,rfl,rx⟩:=vals1 r;cases rx
 have fin:∀(its:Lv),Vals ys its→ys.length≤sizeLine→∀(h':Heap) (c':Nat),(∀b o',s.heap.get? b=some o'→h'.get? b=some o')→
   h'.get? s.heap.objs.size=some {cls:=.type "list",dict:=none,data:=.seq its.toArray c',slots:= #[]}→EP X pq σ Q (.ref s.heap.objs.size) {s with heap:=h'}:=λits r' hz h' c' kp e=>
  ⟨.ref s.heap.objs.size,_,I.laid (t':=s.toks) kp (Zi _) (show ObjOk X.prog X.w _ h' _ (.lst ys)from⟨hz,its,c',r',e⟩),rfl,q _ (I.hok.fresh (Zi _))⟩
 rcases hq with hq|hq
 ·obtain⟨its,r',pl,hz⟩:=I.list hq;have hlen:=r'.length;obtain⟨o,ho,hc,n,hd⟩:=pl.isList;exact call_list_seq p (.inl rfl) ho hc hd (λh' c' kp e=>fin its r' hz h' c' kp e) (by simp only[Zk]<;>omega)
 ·obtain⟨its,r',pl,hz⟩:=I.tuple hq;have hlen:=r'.length;obtain⟨o,ho,hc,n,hd⟩:=pl;exact call_list_seq p (.inr rfl) ho hc hd (λh' c' kp e=>fin its r' hz h' c' kp e) (by simp only[Zk]<;>omega)
theorem a3X':CallR X (.type "tuple") (λxs H Q=>∃p ys,xs=[.ref p]∧((SqL X.K H p ys∧∀l,H l=none→Q (.ref l) (upd H l (.tup ys)))∨(SqT X.K H p ys∧Q (.ref p) H))):=by
 intro pq s σ H xs us Q I r h;obtain⟨p,ys,rfl,h⟩:=h;obtain⟨u,rfl,rx⟩:=vals1 r;cases rx;rcases h with⟨hq,q⟩| ⟨hq,q⟩
 ·obtain⟨its,r',pl,hz⟩:=I.list hq;have hlen:=r'.length;refine call_tuple_list pl.isList (λh' kp=>?_) (by simp only[Zk]<;>omega);have I1:Inv X pq σ H {s with heap:=h'}:=I.kept (t':=s.toks) kp
  have I2:Inv X pq σ (upd H h'.objs.size (.tup ys)) {s with heap:=h'.push {cls:=.type "tuple",data:=.seq its.toArray}}:=
   I1.laid (t':=s.toks) (λb o e=>Zd _ e) (Zi _) (show ObjOk X.prog X.w _ _ _ (.tup ys)from⟨hz,its,r',IsTup.new _ _,NoD.new _ _⟩)
  exact⟨.ref h'.objs.size,_,I2,rfl,q _ (I1.hok.fresh (Zi _))⟩
 ·obtain⟨its,r',pl,hz⟩:=I.tuple hq;exact call_tuple_same pl ⟨.ref p,H,I,rfl,q⟩
def tyV(K:Fg)(T:String)(x:V)(H:Hp):Prop:=match x with
 | .str _=>T="str"
 | .int _=>T="int"
 | .ref p=>(T="list"∧∃xs,SqL K H p xs)∨(T="tuple"∧∃o,K.lookup p=some o∧o.cls=.type "tuple"∧o.dict=none)∨
   (T="dict"∧((∃kvs,H p=some (.dK kvs))∨∃kvs,H p=some (.dT kvs)))∨(T="set"∧∃S n,H p=some (.set S n))
 |_=>False
theorem tyV_is{σ:St}{H:Hp}{T:String}{x:V}{v:Value}(I:Inv X pq σ H s)(r:RelV x v)(ty:tyV X.K T x H):
  s.TypeIs v T∧∀a,v=.ref a→∃ob,s.heap.get? a=some ob∧ob.dict=none:=by
 cases x with
 |str z=>obtain⟨t,rfl⟩:=r;cases(show T="str" from ty);exact⟨typeIs_str s z t,λ_ e=>nomatch e⟩
 |int i=>obtain⟨t,rfl⟩:=r;cases(show T="int" from ty);exact⟨typeIs_int s i t,λ_ e=>nomatch e⟩
 |ref p=>
  cases r;rcases ty with⟨rfl,xs,hq⟩| ⟨rfl,o,hk,hc,hd⟩| ⟨rfl,hk⟩| ⟨rfl,S,n,hk⟩
  ·obtain⟨its,_,pl,_⟩:=I.list hq;refine⟨pl.isList.typeIs,λa e=>?_⟩;cases e;obtain⟨o,n,e,c,hd,_⟩:=pl;exact⟨o,e,hd⟩
  ·refine⟨⟨o,I.kIn p o hk,hc⟩,λa e=>?_⟩;cases e;exact⟨o,I.kIn _ o hk,hd⟩
  ·have z:∃o,s.heap.get? p=some o∧o.ExactDict:=by
    rcases hk with⟨kvs,hk⟩| ⟨kvs,hk⟩
    ·obtain⟨_,_,_,_,o,_,_,e,ex,_⟩:=I.hok p _ hk;exact⟨o,e,ex⟩
    ·obtain⟨_,_,_,_,o,_,_,e,ex,_⟩:=I.hok p _ hk;exact⟨o,e,ex⟩
   obtain⟨o,e,ex⟩:=z;refine⟨⟨o,e,ex.1⟩,λa e2=>?_⟩;cases e2;exact⟨o,e,ex.2.1⟩
  ·obtain⟨o,_,_,_,e,ex,_⟩:=I.hok p _ hk;refine⟨⟨o,e,ex.1⟩,λa e2=>?_⟩;cases e2;exact⟨o,e,ex.2.1⟩
 |_=>exact False.elim ty
def tBM0(K:Fg)(T:String)(r:V→List V→Hp→VK→Prop)(to:TE):TE:=λσ H Q=>to σ H λx H1=>tyV K T x H1∧r x [] H1 Q
def tBM(K:Fg)(T:String)(r:V→List V→Hp→VK→Prop)(to:TE)(t:TA):TE:=λσ H Q=>to σ H λx H1=>tyV K T x H1∧t σ H1 λxs H2=>r x xs H2 Q
variable {o:Expr}{es:Lx}{to:TE}{t:TA}{cpos:Pos}{T id:String}{r:V→List V→Hp→VK→Prop}
theorem pe_bm0(pa:PlainAttrs T)(slot:Slot T name id)(hty:typeOf (.builtin id)=pure (.type "method_descriptor"))(hm:MtR X id r)(ho:PE X o to)
  (hbase:attributeBase o name X.env (eval o X.env)=eval o X.env:=by rfl) (hline:(apos.endLine==cpos.line)=true:=by rfl):PE X (.Call (.Attribute o name apos) [] [] cpos) (tBM0 X.K T r to):=by
 intro pq s σ H Q I h;refine wpAny_Call_method0_late hbase hline (thn (ho pq s σ H _ I h) λv s1 ⟨x,H1,I1,r1,ty,q1⟩=>?_);obtain⟨h1,h2⟩:=tyV_is I1 r1 ty;exact⟨T,id,pa,slot,hty,h1,h2,Calls.callWith_builtin rfl (PySem.evalArgs_none (hm pq s1 σ H1 x [] v [] Q I1 r1 .nil q1))⟩
theorem pe_bm(pa:PlainAttrs T)(slot:Slot T name id)(hty:typeOf (.builtin id)=pure (.type "method_descriptor"))(hm:MtR X id r)(ho:PE X o to)(ha:PA X (e::es) t)
  (hbase:attributeBase o name X.env (eval o X.env)=eval o X.env:=by rfl)
  (hfew:((backTo cpos (starEach (e::es) X.env)).all (λx=> !x.1)&&(backToKw cpos (keywordEach [] X.env)).all (λx=>x.1.isSome)
   &&decide ((e::es).length+([]:List Keyword).length+(if([]:List Keyword).isEmpty then 0 else 1)<30))=true:=by rfl)
  (hline:(apos.endLine==cpos.line)=true:=by rfl) (hs:starEach (e::es) X.env=(false,eval e X.env)::starEach es X.env:=by rfl) (hplain:(backTo cpos (starEach es X.env)).any (·.1)=false:=by rfl):
  PE X (.Call (.Attribute o name apos) (e::es) [] cpos) (tBM X.K T r to t):=by
 intro pq s σ H Q I h;refine wpAny_Call_method_late hbase hfew hline rfl (thn (ho pq s σ H _ I h) λv s1 ⟨x,H1,I1,r1,ty,q1⟩=>?_);obtain⟨h1,h2⟩:=tyV_is I1 r1 ty;refine⟨T,id,pa,slot,hty,h1,h2,?_⟩;have hA:=ha cpos pq s1 σ H1 _ I1 q1;rw[hs]at hA⊢;refine Calls.callWith_builtin (by show(false||(backTo cpos (starEach es X.env)).any (·.1))=false;rw[hplain]<;>rfl) (Calls.evalArgs_plain ?_);exact thn hA λus s2 ⟨vs,H2,I2,r2,q2⟩=>hm pq s2 σ H2 x vs v us Q I2 r1 r2 q2
end
def MtM(X:Cx)(id:String)(r:V→List V→Hp→VK→Prop):Prop:=
 ∀(pq:Lp) (s:Shared) (σ:St) (H:Hp) (x:V) (xs:List V) (v:Value) (us:Lv) (Q:VK),Inv X pq σ H s→RelV x v→Vals xs us→r x xs H Q→
  wpAny (model X.prog X.w) X.A (call (.builtin id) (v::us)) (EP X pq σ Q) X.xe s
theorem Vals.un{x:V}{xs:List V}(h:Vals (x::xs) us):∃u r,us=u::r∧RelV x u∧Vals xs r:=by
 cases h with
 |cons r t=>exact⟨_,_,rfl,r,t⟩
theorem Vals.nul(h:Vals [] us):us=[]:=by cases h;rfl
theorem Vals.one{x:V}(h:Vals [x] us):∃u,us=[u]∧RelV x u:=by obtain⟨u,r,rfl,h1,h2⟩:=h.un;cases h2.nul;exact⟨u,rfl,h1⟩
theorem Vals.two{x y:V}(h:Vals [x,y] us):∃u v,us=[u,v]∧RelV x u∧RelV y v:=by obtain⟨u,r,rfl,h1,h2⟩:=h.un;obtain⟨v,rfl,h3⟩:=h2.one;exact⟨u,v,rfl,h1,h3⟩
theorem Vals.zero:∀{us:Lv},Vals [] us→us=[]
 |_,.nil=>rfl
theorem Vals.dropLast{xs:List V}(h:Vals xs us):Vals xs.dropLast us.dropLast:=by
 induction h with
 |nil=>exact .nil
 |cons r t ih=>
  cases t with
  |nil=>exact .nil
  |cons q t'=>exact .cons r ih
theorem Vals.eraseIdx:∀{xs:List V} {us:Lv} (i:Nat),Vals xs us→Vals (xs.eraseIdx i) (us.eraseIdx i)
 |_,_,_,.nil=>.nil
 |_,_,0,.cons _ t=>t
 |_,_,i+1,.cons r t=>.cons r (Vals.eraseIdx i t)
theorem Vals.rep{xs:List V}(h:Vals xs us):∀k:Nat,Vals (List.replicate k xs).flatten (List.replicate k us).flatten
 |0=>.nil
 |k+1=>by rw[List.replicate_succ,List.replicate_succ,List.flatten_cons,List.flatten_cons];exact Vals.append h (Vals.rep h k)
theorem b0s'(l:List α):l.eraseIdx (l.length-1)=l.dropLast:=by
 induction l with
 |nil=>rfl
 |cons a r ih=>
  cases r with
  |nil=>rfl
  |cons b r=>
   have e:(a::b::r).length-1=((b::r).length-1)+1:=by have h1:(a::b::r).length=r.length+2:=rfl;have h2:(b::r).length=r.length+1:=rfl;omega
   rw[e,List.eraseIdx_cons_succ,ih]
   all_goals rfl
theorem a8s'{α:Type}:∀(l:List α) (i:Nat),(l.eraseIdx i).length≤l.length
 | [],_=>Zi _
 |_::_,0=>Nat.le_succ _
 |_::r,i+1=>Nat.succ_le_succ (a8s' r i)
theorem a8t'(its:Lv):∀(k:Nat) (acc:Lv),
  List.foldl (λx1 x2=>x1++x2) acc.toArray (List.replicate k its.toArray)=(acc++(List.replicate k its).flatten).toArray
 |0,acc=>by simp
 |k+1,acc=>by
  have e:acc.toArray++its.toArray=(acc++its).toArray:=by simp
  have e2:(acc++its)++(List.replicate k its).flatten=acc++(List.replicate (k+1) its).flatten:=by rw[List.replicate_succ,List.flatten_cons,Zu]
  rw[←e2,←a8t' its k (acc++its),←e,List.replicate_succ,List.foldl_cons]
section
variable {X:Cx}{σ:St}{H:Hp}{l b:Addr}{xs ys zs:List V}
theorem Inv.lset{its its':Lv}{n:Nat}{f:Av→Av}{t':Nat}(I:Inv X pq σ H s)(hH:H l=some (.lst xs))
  (e:s.heap.get? l=some {cls:=.type "list",data:=.seq its.toArray n}) (hf:f its.toArray=its'.toArray) (hv:Vals ys its') (hz:ys.length≤sizeLine):
  Inv X pq σ (upd H l (.lst ys)) {s with heap:=s.heap.update l (Obj.mapSeq f),toks:=t'}:=by
 have q:=PySem.IsL.update e f;rw[hf]at q;refine I.write (x:=l) (e:=l) (by rw[hH];exact trivial) (.inl rfl) (λb' u hb hu=>(Heap.get?_update_other s.heap (Obj.mapSeq f) (Ne.symm hb)).trans hu) ⟨_,q⟩ ?_;exact⟨hz,its',_,hv,q⟩
theorem Inv.lnew{t':Nat}(I:Inv X pq σ H s)(hv:Vals ys its)(hz:ys.length≤sizeLine):
  Inv X pq σ (upd H s.heap.objs.size (.lst ys)) {s with heap:=s.heap.push {cls:=.type "list",data:=.seq its.toArray},toks:=t'}:=
 I.laid (λ_ _ q=>Zd _ q) (Zi _) ⟨hz,its,0,hv,Zo _ rfl⟩
theorem Inv.fresh(I:Inv X pq σ H s):H s.heap.objs.size=none:=I.hok.fresh (Zi _)
theorem Inv.lstM(I:Inv X pq σ H s)(hH:H l=some (.lst xs)):xs.length≤sizeLine∧∃(its:Lv) (n:Nat),Vals xs its∧xs.length=its.length∧s.heap.get? l=some {cls:=.type "list",data:=.seq its.toArray n}:=by obtain⟨z,its,n,r,e⟩:=I.hok l _ hH;exact⟨z,its,n,r,r.length,e⟩
theorem b0t'(h:n≤sizeLine):Builtin.List.listTooLong n=false:=by unfold Builtin.List.listTooLong;exact ZO (by omega)
end
section
variable {X:Cx}
def rAppend:V→List V→Hp→VK→Prop:=λx vs H Q=>∃l xs y,x=.ref l∧vs=[y]∧H l=some (.lst xs)∧xs.length<sizeLine∧Q .non (upd H l (.lst (xs++[y])))
theorem a8u':MtM X "list.append" rAppend:=by intro pq s σ H x vs v us Q I rx rv h;obtain⟨l,xs,y,rfl,rfl,hH,hz,q⟩:=h;cases rx;obtain⟨u,rfl,ru⟩:=rv.one;obtain⟨z,its,n,r,hl,e⟩:=I.lstM hH;refine call_meets F.slot_list_append ⟨_,e,rfl⟩ F.entry_list_append (F.args_list_append_2 _ _) (PySem.list_append l its.toArray n u (by rw[Zk];omega)) ⟨e,?_⟩;refine⟨.non,_,I.lset (its':=its++[u]) hH e (by simp) (r.append (.cons ru .nil)) ?_,rfl,q⟩;rw[Zp,List.length_singleton];omega
def rExtend:V→List V→Hp→VK→Prop:=λx vs H Q=>∃l b xs zs,x=.ref l∧vs=[.ref b]∧H l=some (.lst xs)∧H b=some (.lst zs)∧xs.length+zs.length≤sizeLine∧Q .non (upd H l (.lst (xs++zs)))
theorem b2K':MtM X "list.extend" rExtend:=by
 intro pq s σ H x vs v us Q I rx rv h;obtain⟨l,b,xs,zs,rfl,rfl,hH,hB,hz,q⟩:=h;cases rx;obtain⟨u,rfl,ru⟩:=rv.one;cases ru;obtain⟨z,its,n,r,hl,e⟩:=I.lstM hH;obtain⟨z2,its2,n2,r2,hl2,e2⟩:=I.lstM hB;have hsz:its.toArray.size+its2.toArray.size≤sizeLine:=by rw[Zk,Zk];omega
 have hlong:¬(!its.toArray.isEmpty&&Builtin.List.listTooLong (its.toArray.size+its2.toArray.size))=true:=by rw[b0t' hsz,Bool.and_false];exact Ya
 refine call_meets F.slot_list_extend ⟨_,e,rfl⟩ F.entry_list_extend (F.args_list_extend_2 _ _)
  (AutoSeq1.list_extend_list_list_0 l its.toArray n b its2.toArray n2 hlong (by rw[Zk];omega) (by omega)) ⟨e,e2,?_⟩
 refine⟨.non,_,I.lset (its':=its++its2) hH e (by simp) (r.append r2) ?_,rfl,q⟩;rw[Zp];omega
def rPop:V→List V→Hp→VK→Prop:=λx vs H Q=>∃l xs y,x=.ref l∧vs=[]∧H l=some (.lst xs)∧xs[xs.length-1]?=some y∧Q y (upd H l (.lst xs.dropLast))
theorem mt_pop:MtM X "list.pop" rPop:=by
 intro pq s σ H x vs v us Q I rx rv h;obtain⟨l,xs,y,rfl,rfl,hH,hy,q⟩:=h;cases rx;have hus:=rv.zero;subst hus;obtain⟨z,its,n,r,hl,e⟩:=I.lstM hH;obtain⟨u,hu,ru⟩:=r.get hy
 have hy':its.toArray[its.toArray.size-1]?=some u:=by show its.toArray[its.length-1]?=some u;rw[←ZS,←hl];exact hu
 refine call_meets F.slot_list_pop ⟨_,e,rfl⟩ F.entry_list_pop (F.args_list_pop_1 _) (MeetsSeq.list_pop_last l its.toArray n u hy' (by rw[Zk];omega)) ⟨e,?_⟩;refine⟨y,_,I.lset (its':=its.dropLast) hH e ?_ r.dropLast ?_,ru,q⟩
 ·show its.toArray.eraseIdxIfInBounds (its.toArray.size-1)=its.dropLast.toArray;rw[Zk,List.eraseIdxIfInBounds_toArray,b0s']
 ·rw[List.length_dropLast];omega
def rPopAt:V→List V→Hp→VK→Prop:=λx vs H Q=>∃l xs i k y,x=.ref l∧vs=[.int i]∧H l=some (.lst xs)∧-(2^63)≤i∧i<2^63∧seqIndex? i xs.length=some k∧xs[k]?=some y∧Q y (upd H l (.lst (xs.eraseIdx k)))
theorem b4P':MtM X "list.pop" rPopAt:=by
 intro pq s σ H x vs v us Q I rx rv h;obtain⟨l,xs,i,k,y,rfl,rfl,hH,h1,h2,hk,hy,q⟩:=h;cases rx;obtain⟨u,rfl,ru⟩:=rv.one;obtain⟨t,rfl⟩:=ru;obtain⟨z,its,n,r,hl,e⟩:=I.lstM hH;obtain⟨w,hw,rw'⟩:=r.get hy
 refine call_meets F.slot_list_pop ⟨_,e,rfl⟩ F.entry_list_pop (F.args_list_pop_2 _ _)
  (MeetsSeq.list_pop_at l its.toArray n i t k w (fitsIndex_both h1 h2) (by rw[Zk,←hl];exact hk) (by rw[←ZS];exact hw) (by rw[Zk];omega)) ⟨e,?_⟩
 refine⟨y,_,I.lset (its':=its.eraseIdx k) hH e ?_ (r.eraseIdx k) ?_,rw',q⟩
 ·show its.toArray.eraseIdxIfInBounds k=(its.eraseIdx k).toArray;rw[List.eraseIdxIfInBounds_toArray]
 ·have:=a8s' xs k;omega
def rCat:R2:=λx y H Q=>∃l b xs zs,x=.ref l∧y=.ref b∧H l=some (.lst xs)∧H b=some (.lst zs)∧xs.length+zs.length≤sizeLine∧∀p,H p=none→Q (.ref p) (upd H p (.lst (xs++zs)))
theorem op_cat:OpR X (binaryOp .Add) rCat:=by
 intro pq s σ H x y v u Q I rx ry h;obtain⟨l,b,xs,zs,rfl,rfl,hH,hB,hz,q⟩:=h;cases rx;cases ry;obtain⟨z,its,n,r,hl,e⟩:=I.lstM hH;obtain⟨z2,its2,n2,r2,hl2,e2⟩:=I.lstM hB;refine PySem.P.add_list e e2 ?_ (by rw[Zk,Zk];omega);have ea:its.toArray++its2.toArray=(its++its2).toArray:=by simp
 rw[ea];exact⟨.ref _,_,I.lnew (t':=s.toks) (r.append r2) (by rw[Zp];omega),rfl,q _ I.fresh⟩
def rRep:R2:=λx y H Q=>∃l k xs,x=.ref l∧y=.int k∧H l=some (.lst xs)∧-(2^63)≤k∧k<2^63∧xs.length*k.toNat≤sizeLine∧
 ∀p,H p=none→Q (.ref p) (upd H p (.lst (List.replicate k.toNat xs).flatten))
theorem len_rep(xs:List α)(k:Nat):(List.replicate k xs).flatten.length=k*xs.length:=by
 induction k with
 |zero=>simp
 |succ k ih=>rw[List.replicate_succ,List.flatten_cons,Zp,ih,Nat.succ_mul,Nat.add_comm]
theorem op_rep:OpR X (binaryOp .Mult) rRep:=by
 intro pq s σ H x y v u Q I rx ry h;obtain⟨l,k,xs,rfl,rfl,hH,h1,h2,hz,q⟩:=h;cases rx;obtain⟨t,rfl⟩:=ry;obtain⟨z,its,n,r,hl,e⟩:=I.lstM hH;have hlen:its.toArray.size*k.toNat≤sizeLine:=by rw[Zk,←hl];exact hz
 have hcap:¬its.toArray.size*k.toNat>(2^63-1)/8:=by
  have:(sizeLine:Nat)≤(2^63-1)/8:=by decide
  omega
 have hfit:¬(!Builtin.List.listFitsIndex k)=true:=by rw[fitsIndex_both h1 h2];exact Ya
 have hlong:¬Builtin.List.listTooLong (its.toArray.size*k.toNat)=true:=by rw[b0t' hlen];exact Ya
 have hnew:List.foldl (λx1 x2=>x1++x2) #[] (List.replicate (if its.toArray.isEmpty=true then 0 else k.toNat) its.toArray)=(List.replicate k.toNat its).flatten.toArray:=by
  have f0:∀m:Nat,List.foldl (λx1 x2=>x1++x2) #[] (List.replicate m its.toArray)=(List.replicate m its).flatten.toArray:=λm=>by have:=a8t' its m [];rw[Z9]at this;exact this
  rw[f0];cases its with
  |nil=>simp
  |cons a r'=>rw[if_neg (by simp)]
 refine wpAny_binaryOp_repeat_ref (T:="list") (U:="int") (by decide) ⟨_,e,rfl⟩ (λs'=>typeIs_int s' k t) noFill_list_mul F.fills_int_mul F.slot_int_rmul repeat_list F.slot_int_index.lookup
  (call_meets F.slot_int_rmul (typeIs_int s k t) F.entry_int_rmul (F.args_int_rmul_2 _ _) (int___rmul___int_list k t l its.toArray n)
   ⟨e,rfl,⟨_,e,rfl⟩,call_meets F.slot_list_mul ⟨_,e,rfl⟩ F.entry_list_mul (F.args_list_mul_2 _ _) (AutoListH.list___mul___list_int_3 l its.toArray n k t hfit hcap hlong) ⟨e,?_⟩⟩)
 rw[hnew];exact⟨.ref _,_,I.lnew (t':=s.toks) (r.rep k.toNat) (by rw[len_rep,Nat.mul_comm];exact hz),rfl,q _ I.fresh⟩
end
set_option maxRecDepth 100000 in
section
variable {X:Cx}
end
end L2
namespace Att
open PySem PySem.W PySem.Calls PyProof.Rows
theorem a5k'{P:Params}:∀(ns:Li) (vs:Lv),WellAll P h vs (ns.map WData.int)→IntsAre vs ns:=by
 intro ns
 induction ns with
 |nil=>intro vs w;rw[List.map_nil]at w;cases w;exact .nil
 |cons n ns ih=>
  intro vs w;rw[ZE]at w;cases w with
  |cons a b=>cases a;exact .cons _ _ (ih _ b)
theorem b2L'{l:OpenLaw}(hn:l.most=some n){P:Params}{args:List WData}{vals:Lv}
  (hpre:l.row.toRowW.claim.pre args=true) (hwl:WellAll P h vals args):
  ∃a vs ns,vals=[Value.ref a]∧args=[WData.list (ns.map WData.int)]∧h.get? a=some {cls:=.type "list",data:=.seq vs.toArray}∧IntsAre vs ns∧ns.length≤n:=by
 have hsh:WShape.hasAll [] args [.list .int]=true:=(pre_splitW hpre).1;have hc:l.pre.holds [] {args:=args}=true:=(pre_splitW hpre).2;obtain⟨d,r,rfl,h1,h2⟩:=hasAllW_cons hsh;obtain rfl:=hasAllW_nil h2;obtain⟨xs,rfl,h3⟩:=hasW_list h1;obtain⟨ns,rfl⟩:=items_int h3
 have hlen:ns.length≤n:=by
  unfold OpenLaw.pre at hc;have h4:(WTm.not (.lt (.lit (.int (n:Int))) (.len (.arg 0)))).holds [] {args:=[.list (ns.map .int)]}=true:=by have h4:=(holds_andW hc).1;rw[hn]at h4;exact h4
  have h5:=condW_of h4 (w_not (w_lt w_lit (w_len_list (w_arg rfl))));rw[Zm]at h5;refine Nat.le_of_not_lt λq=>?_;have q':(n:Int)<((ns.length:Nat):Int):=by omega
  first
   | (rw[ZR q']at h5;exact absurd h5 (by decide))
   | (simp at h5;omega)
 cases hwl with
 |cons w1 w2=>
  cases w2;cases w1 with
  |list ho hall=>exact⟨_,_,ns,rfl,rfl,ho,a5k' ns _ hall,hlen⟩
theorem b2M'(l:OpenLaw)(args:List WData):l.row.toRowW.claim.post args (.bool true) args=true:=
 postW_of (r:=l.row.toRowW) (X:=(true==true))
  (show WShape.has [] (.bool true) .bool=true by first|rfl|decide|simp[WShape.has,WShape.arms,WShape.armsAll])
  (show(WTm.eq .res (.lit (.bool true))).value [] {args:=args,res:=some (.bool true),after:=args}=some (.bool (true==true))from w_eq_bool (w_res rfl) w_lit) rfl
theorem a9o'{l:OpenLaw}{q:Program}{d:DefRec}
  (hn:l.most=some n) (hdf:d.params.defaults=[])
  (call:∀(w:World) (s₀ s₁:Shared) (mg mb:Mg) (fa:Addr) (o:Obj) (pm cd doc:Value) (a:Addr) (vs:Lv) (ns:Li),
   Ground q loose [] XP w s₀ mg mb s₁.heap→YP w s₁.heap→
   s₁.heap.get? fa=some o→o.data=.func (docDef d.name d.params d.body d.scope pm cd doc)→s₁.heap.CodeRec cd d.name→mg d.name=some (.ref fa)→
   s₁.heap.get? a=some {cls:=.type "list",data:=.seq vs.toArray}→IntsAre vs ns→ns.length≤n→s₁.gens= #[]→
   codeAny (model l.prog w) callerA (.call (.ref fa) ⟨[.ref a],[]⟩) (λr s'=>r=.ok (.ret (.bool true))∧OldK s₁.heap s'.heap∧s'.os=s₁.os∧AllBare s'.gens) s₁):
  WalkO q loose XP YP l.row.toRowW d [] (λf vs=>PySem.call f vs):=by
 intro w s₀ s₁ mg mb G Y fa o pm cd doc dV kV ho hd hcd hD hmg hg args vals as hpre hlay hrd hwl hlo;obtain rfl:dV=.none:=Dflts.none hD hdf;obtain rfl:kV=.none:=Dflts.noKw hD;obtain⟨a,vs,ns,rfl,rfl,hobj,hints,hlen⟩:=b2L' hn hpre hwl;refine enter_call (codeAny_mono (call w s₀ s₁ mg mb fa o pm cd doc a vs ns G Y ho (fd_plain hd) hcd hmg hobj hints hlen hg) λr s' hq=>?_);obtain⟨rfl,h2,h3,h4⟩:=hq;exact⟨.inl ⟨.bool true,.bool true,[],rfl,λ_=>rfl,.bool true,b2M' l _,λ_=>⟨List.Pairwise.nil,λ_ hm=>(nomatch hm)⟩⟩,h2,h3,h4⟩
section
variable {K:Frag}
end
end Att
namespace L2
theorem a8v':∀{vs:Lv} {ns:Li},IntsAre vs ns→Vals (ns.map V.int) vs
 |_,_,.nil=>.nil
 |_,_,.cons n t h=>.cons ⟨t,rfl⟩ (a8v' h)
def Only(H:Hp):Prop:=∀b,H b=none∨∃o xs,H b=some (.frz o (.lst xs))
theorem b4Q'{P:Program}{w:World}{mb:Mg}{CX:CXT}{k:Nat}{fa:Addr}{fd:FuncData}{x:Str}{sp:Sp}{s₁:Shared}{vs:Lv}{ns:Li}
  (KX:K.In s₁.heap) (hns:s₁.heap.Ns mainGlobals mg) (hb:s₁.heap.Ns builtinsNs mb) (hbb:∀x:Str,x≠"__name__"→mb x=bootBuiltins x) (hlim:s₁.heap.NoLimit) (hg:s₁.gens= #[])
  (ha:s₁.heap.get? a=some {cls:=.type "list",data:=.seq vs.toArray}) (hi:IntsAre vs ns) (hl:ns.length≤sizeLine) (hr:Room k callerA)
  (F:∀base:Heap,K.In base→base.Ns mainGlobals mg→FnOk P w K mg base CX k fa fd [x] sp) (hbind:∀(s:Shared) (u:Value),BindsTo s fd ⟨[u],[]⟩ [(x,u)])
  (hsp:∀H:Hp,Only H→SqL K H a (ns.map V.int)→sp [.ref a] H (λv _=>v=.bl true) λ_ _ _=>False)
  (hCX:∀H e s',CX [] H s₁ (λ_ _ _=>False) e s'→False):
  codeAny (model P w) callerA (.call (.ref fa) ⟨[.ref a],[]⟩) (λr s'=>r=.ok (.ret (.bool true))∧OldK s₁.heap s'.heap∧s'.os=s₁.os∧AllBare s'.gens) s₁:=by
 have rv:=a8v' hi;have lenV:=hi.length
 have core:∀H:Hp,Only H→SqL K H a (ns.map V.int)→HOk P w H s₁.heap→(∀b,H b≠none→b=a)→(H a≠none→K.lookup a=none)→
   codeAny (model P w) callerA (.call (.ref fa) ⟨[.ref a],[]⟩) (λr s'=>r=.ok (.ret (.bool true))∧OldK s₁.heap s'.heap∧s'.os=s₁.os∧AllBare s'.gens) s₁:=by
  intro H hO hS hok hA hK;have base_of:∀{b:Addr} {o:Obj},s₁.heap.get? b=some o→H b=none→(hidT s₁.heap H).get? b=some o:=λe n=>b4C' e n
  have noA:∀{b:Addr} {o:Obj} {es:Array DictEntry} {ep:Nat},s₁.heap.get? b=some o→o.data=.dict es ep→H b=none:=λ{b o es ep} e d=>by
   cases q:H b with
   |none=>rfl
   |some u=>have e':b=a:=hA b (by rw[q];simp);subst e';rw[ha]at e;cases e;have d':Data.seq vs.toArray _=Data.dict es ep:=d;cases d'
  have nsK:∀{b:Addr} {m:Mg},s₁.heap.Ns b m→(hidT s₁.heap H).Ns b m:=λ{b m} ⟨o,es,ep,e,d,r⟩=>⟨o,es,ep,base_of e (noA e d),d,r⟩
  have hKb:K.In (hidT s₁.heap H):=λb o e=>base_of (KX b o e) (by
   cases q:H b with
   |none=>rfl
   |some u=>have e':b=a:=hA b (by rw[q];simp);subst e';rw[hK (by rw[q];simp)]at e;cases e)
  have hM:Mod K mg (hidT s₁.heap H):=⟨hKb,nsK hns,⟨mb,nsK hb,hbb⟩,let⟨mc,h1,h2⟩:=hlim;⟨mc,nsK h1,h2⟩⟩;have e0:Env0 P w K mg (hidT s₁.heap H) callerA [] s₁ H:=⟨rfl,hM,λb o e=>of_hidT e,Nat.le_of_eq (b2B' _ _),trivial,λb hb=>absurd (show b∈([]:La)from hb) (by simp),hok,.of_eq hg⟩;refine codeAny_mono ((F _ hKb (nsK hns)).run callerA [] s₁ H ⟨[.ref a],[]⟩ [.ref a] [.ref a] _ _ hr e0 (hbind s₁ (.ref a)) (.cons rfl .nil) (hsp H hO hS)) λr s' h=>?_;cases r with
  |error e=>exact(hCX H e s' h).elim
  |ok fl=>
   cases fl with
   |next=>exact False.elim h
   |brk=>exact False.elim h
   |cont=>exact False.elim h
   |ret u=>
    obtain⟨v,H',os,bare,un,hok',r',q⟩:=h;have q':v=.bl true:=q;subst q';obtain rfl:u=Value.bool true:=r';refine⟨rfl,OldK.of_keep λb o e=>?_,os,bare⟩;cases q:H b with
    |none=>exact un.keep b o e q (by intro z;exact absurd (show b∈([]:La)from z) (by simp)) (by simp)
    |some u=>
     rcases hO b with z| ⟨ob,xs,z⟩
     ·rw[q]at z;cases z
     ·have z2:=un.frzs b ob _ z;obtain⟨e1,_⟩:=hok b _ z;obtain⟨e2,_⟩:=hok' b _ z2;rw[e]at e1;cases e1;exact e2
 cases hk:K.lookup a with
 |some o=>have e:=KX a o hk;rw[ha]at e;cases e;refine core (λ_=>none) (λ_=>.inl rfl) (.inr ⟨_,vs.toArray,_,hk,rfl,rfl,rfl,by rw[Zk,lenV];exact hl,by simpa using rv⟩) (λb u z=>by have z':(none:Option HO)=some u:=z;cases z') (λb z=>absurd rfl z) λz=>absurd rfl z
 |none=>
  refine core (λb=>if b=a then some (.frz {cls:=.type "list",data:=.seq vs.toArray} (.lst (ns.map V.int)))else none) (λb=>?_) (.inl (.inr ⟨{cls:=.type "list",data:=.seq vs.toArray},if_pos rfl⟩)) (λb u z=>?_) (λb z=>?_) λ_=>hk
  ·by_cases hb:b=a
   ·exact .inr ⟨_,_,if_pos hb⟩
   ·exact .inl (if_neg hb)
  ·by_cases hb:b=a
   ·have z':=(if_pos hb).symm.trans z;cases z';subst hb;exact⟨ha,by rw[Zm];exact hl,vs,_,rv,ha⟩
   ·have z':=(if_neg hb).symm.trans z;cases z'
  ·by_cases hb:b=a
   ·exact hb
   ·exact absurd (if_neg hb) z
theorem walk_of{l:PySem.W.OpenLaw}{q:Program}{d:DefRec}{K:Params→Fg}{CX:World→CXT}{sp:World→Sp}{x:Str}
  (hn:l.most=some n) (hn2:n≤sizeLine) (hdf:d.params.defaults=[]) (hr:Room k callerA)
  (hY:∀(w:World) (h:Heap),YP w h→(K w.params).In h)
  (F:∀(w:World) (mg:Mg) (fa:Addr) (h:Heap),(K w.params).In h→h.Ns mainGlobals mg→mg d.name=some (.ref fa)→
   ∃fd:FuncData,(∀(s:Shared) (u:Value),BindsTo s fd ⟨[u],[]⟩ [(x,u)])∧
    ∀base:Heap,(K w.params).In base→base.Ns mainGlobals mg→FnOk l.prog w (K w.params) mg base (CX w) k fa fd [x] (sp w))
  (hsp:∀(w:World) (H:Hp) (a:Addr) (ns:Li),ns.length≤n→Only H→SqL (K w.params) H a (ns.map V.int)→sp w [.ref a] H (λv _=>v=.bl true) λ_ _ _=>False)
  (hCX:∀(w:World) (H:Hp) (s:Shared) (e:Value) (s':Shared),CX w [] H s (λ_ _ _=>False) e s'→False):
  PySem.W.WalkO q loose XP YP l.row.toRowW d [] (λf vs=>PySem.call f vs):=by
 refine Att.a9o' hn hdf λw s₀ s₁ mg mb fa o pm cd doc a vs ns G Y ho hd hcd hmg hobj hints hlen hg=>?_;have KX:=hY w _ Y;obtain⟨fd,hb,hF⟩:=F w mg fa _ KX G.T.g hmg;exact b4Q' KX G.T.g G.T.b G.T.builtins G.T.nolimit hg hobj hints (ZP hlen hn2) hr hF hb (λH hO hS=>hsp w H a ns hlen hO hS) λH e s'=>hCX w H s₁ e s'
noncomputable def a4D'(s:Stmt):Arguments:=match s with
 | .FunctionDef _ a _ _ _ _ _ _ _ _=>a
 |_=>{posonlyargs:=[],args:=[],vararg:=none,kwonlyargs:=[],kw_defaults:=[],kwarg:=none,defaults:=[]}
noncomputable def a1a'(s:Stmt):List Stmt:=match s with
 | .FunctionDef _ _ b _ _ _ _ _ _ _=>b
 |_=>[]
noncomputable def a0p'(s:Stmt):Scope:=match s with
 | .FunctionDef _ _ _ _ _ _ sc _ _ _=>sc
 |_=>{kind:=.function,names:=[],isGenerator:=false,isCoroutine:=false}
abbrev CX0:CXT:=λ_ _ _ _ _ _=>False
abbrev E0:XK:=λ_ _ _=>False
structure Fun (K:Fg)(x qual:Str)(st:Stmt)(f:Addr)(fd:FuncData):Prop where
 ex:∃(oc:Value) (od:Option Addr) (kV doc pm:Value) (an:Option Addr) (cdv ct:Value) (osl:Array (Ov)),
  fd=PySem.W.fnOf x qual (a4D' st) (a1a' st) (a0p' st) .none kV doc pm an cdv ct∧K.lookup f=some ⟨oc,od,.func fd,osl⟩∧PySem.W.codeIn K cdv qual=true
 kp:PySem.W.keepIn K (.ref f)=true
theorem Fun.ok{x:Str}{fd:FuncData}{sp:Sp}(F:Fun K x qual st f fd)(S:FnScope N ps (a0p' st))(len:∀vs H Q E,sp vs H Q E→vs.length=ps.length)
  (hbody:∀(cdv:Value) (A:Around) (outer:List Env) (s:Shared) (H:Hp) (vs:List V) (Q:VK) (E:XK),Room k (A.deeper (envOfC qual (a0p' st) s.heap.objs.size f cdv))→sp vs H Q E→
   ∃t,PSs (cxOf CX0 P w K mg base N qual (a0p' st) f cdv A outer s H E).nox (a1a' st) t∧t {nx:=λ_ H'=>Q .non H',rt:=Q} (start N vs) H):FnOk P w K mg base CX0 (k+1) f fd ps sp:=by
 obtain⟨oc,od,kV,doc,pm,an,cdv,ct,osl,rfl,lk,hcd⟩:=F.ex;refine fn_of lk hcd S len λA outer s H vs Q E hr hsp=>?_;obtain⟨t,h,q⟩:=hbody cdv A outer s H vs Q E hr hsp;exact⟨t,h.nox,q⟩
theorem Fun.binds{x:Str}{fd:FuncData}(F:Fun K x qual st f fd)
  (h:∀(kV doc pm:Value) (an:Option Addr) (cdv ct:Value) (us:Lv),us.length=ps.length→bindArgs (PySem.W.fnOf x qual (a4D' st) (a1a' st) (a0p' st) .none kV doc pm an cdv ct) ⟨us,[]⟩=pure (ps.zip us)):Binds K fd ps []:=by
 obtain⟨oc,od,kV,doc,pm,an,cdv,ct,osl,rfl,lk,hcd⟩:=F.ex;exact .all (h kV doc pm an cdv ct)
theorem fun_mk{x:Str}{an:Option Addr}{kV:Value}(l:K.lookup f=some ⟨oc,od,.func (PySem.W.fnOf x qual (a4D' st) (a1a' st) (a0p' st) .none kV doc pm an cdv ct),osl⟩)
  (c:PySem.W.codeIn K cdv qual=true) (k:PySem.W.keepIn K (.ref f)=true):Fun K x qual st f (PySem.W.fnOf x qual (a4D' st) (a1a' st) (a0p' st) .none kV doc pm an cdv ct):=⟨⟨oc,od,kV,doc,pm,an,cdv,ct,osl,rfl,l,c⟩,k⟩
section
variable {X:Cx}
end
end L2
variable {H H' H1 H0:L2.Hp}{o:L2.HO}{X:L2.Cx}{σ σ':L2.St}{v v':L2.V}{ta te:L2.TE}{tb:L2.St→L2.Hp→(L2.St→L2.Hp→Prop)→Prop}{tc:L2.TT}{wi:L2.TI}{CX:L2.CXT}{sp:L2.Sp}{J:L2.It}{B:La→L2.Hp→Prop}
namespace Py
theorem ex43{C:Prop}{a b c d:Sort _}{p q r:a→b→c→d→Prop}(h:∃x y z w,p x y z w∧q x y z w∧r x y z w)(k:∀x y z w,p x y z w→q x y z w→r x y z w→C):C:=by obtain⟨x,y,z,w,h1,h2,h3⟩:=h;exact k x y z w h1 h2 h3
theorem ex93{C:Prop}{a b c d e f g h i:Sort _}{p q r:a→b→c→d→e→f→g→h→i→Prop}(z:∃x1 x2 x3 x4 x5 x6 x7 x8 x9,p x1 x2 x3 x4 x5 x6 x7 x8 x9∧q x1 x2 x3 x4 x5 x6 x7 x8 x9∧r x1 x2 x3 x4 x5 x6 x7 x8 x9)(k:∀x1 x2 x3 x4 x5 x6 x7 x8 x9,p x1 x2 x3 x4 x5 x6 x7 x8 x9→q x1 x2 x3 x4 x5 x6 x7 x8 x9→r x1 x2 x3 x4 x5 x6 x7 x8 x9→C):C:=by obtain⟨x1,x2,x3,x4,x5,x6,x7,x8,x9,h1,h2,h3⟩:=z;exact k x1 x2 x3 x4 x5 x6 x7 x8 x9 h1 h2 h3
theorem ex34{C:Prop}{a b c:Sort _}{p q r t:a→b→c→Prop}(h:∃x y z,p x y z∧q x y z∧r x y z∧t x y z)(k:∀x y z,p x y z→q x y z→r x y z→t x y z→C):C:=by obtain⟨x,y,z,h1,h2,h3,h4⟩:=h;exact k x y z h1 h2 h3 h4
inductive D where
 |non|bl (b:Bool)|int (i:Int)|str (x:Str)
 |tup (xs:List D)|lst (xs:List D)|ref (n:Nat)|scr (xs:List D)
 |fn (x:Str)|dct|ty (n:String)
 deriving Inhabited
abbrev Store:=List (List D)
structure GS where
 mg:Mg
 F:La
noncomputable def Frz(K:Fg)(H:Hp)(a:Addr)(vs:List V):Prop:=(∃o,H a=some (.frz o (.lst vs)))∨
 ∃(o:Obj) (its:Av) (n:Nat),K.lookup a=some o∧o.cls=.type "list"∧o.dict=none∧o.data=.seq its n∧its.size≤sizeLine∧Vals vs its.toList
theorem Frz.sq{vs:List V}(h:Frz K H a vs):SqL K H a vs:=by
 rcases h with⟨o,h⟩|h
 ·exact .inl (.inr ⟨o,h⟩)
 ·exact .inr h
section
variable (K:Fg)(mg:GS)(μ:La)(H:Hp)
mutual
def Rep:D→V→Prop
 | .non,v=>v=.non
 | .bl b,v=>v=.bl b
 | .int i,v=>v=.int i
 | .str x,v=>v=.str x
 | .tup ds,v=>∃a vs,v=.ref a∧SqT K H a vs∧RepL ds vs
 | .lst ds,v=>∃a vs,v=.ref a∧H a=some (.lst vs)∧(a∉μ∧a∉mg.F)∧RepL ds vs
 | .scr ds,v=>∃a vs,v=.ref a∧Frz K H a vs∧RepL ds vs
 | .ref n,v=>∃a,v=.ref a∧μ[n]?=some a
 | .fn x,v=>∃a,v=.ref a∧mg.mg x=some (.ref a)
 | .dct,v=>∃a,v=.ref a∧H a=some (.dK [])
 | .ty n,v=>v=.ty n
def RepL:List D→List V→Prop
 | [],vs=>vs=[]
 |d::ds,vs=>∃w ws,vs=w::ws∧Rep d w∧RepL ds ws
end
end
structure SOk (K:Fg)(mg:GS)(μ:La)(S:Store)(H:Hp):Prop where
 live:∀a∈mg.F,∃o,H a=some o
 len:μ.length=S.length
 nd:μ.Nodup
 at_:∀(n:Nat) (a:Addr) (ds:List D),μ[n]?=some a→S[n]?=some ds→∃vs,H a=some (.lst vs)∧RepL K mg μ H ds vs
structure Ext (μ:La)(H:Hp)(μ':La)(H':Hp):Prop where
 pre:∃r,μ'=μ++r
 keep:∀a o,H a=some o→((∀xs,o≠.lst xs)∨a∉μ)→H' a=some o
 there:∀a o,H a=some o→∃o',H' a=some o'
 fresh:∀a∈μ',a∈μ∨H a=none
section
variable {mg:GS}{μ'':La}{H'':Hp}
theorem Ext.refl:Ext μ H μ H:=⟨⟨[],by simp⟩,λ_ _ h _=>h,λ_ o h=>⟨o,h⟩,λ_ h=>.inl h⟩
theorem Ext.trans(a:Ext μ H μ' H')(b:Ext μ' H' μ'' H''):Ext μ H μ'' H'':=by
 obtain⟨r,e⟩:=a.pre;obtain⟨r',e'⟩:=b.pre;refine⟨⟨r++r',by rw[e',e,Zu]⟩,λx o h c=>?_,λx o h=>?_,λx h=>?_⟩
 ·have h1:=a.keep x o h c;refine b.keep x o h1 ?_;rcases c with c|c
  ·exact .inl c
  ·refine .inr λz=>?_;rcases a.fresh x z with z|z
   ·exact c z
   ·rw[h]at z;cases z
 ·obtain⟨o1,h1⟩:=a.there x o h;exact b.there x o1 h1
 ·rcases b.fresh x h with h|h
  ·exact a.fresh x h
  ·refine .inr ?_;cases e:H x with
   |none=>rfl
   |some o=>obtain⟨o1,h1⟩:=a.there x o e;rw[h1]at h;cases h
theorem Ext.sqT{vs:List V}(x:Ext μ H μ' H')(h:SqT K H a vs):SqT K H' a vs:=by
 rcases h with(h| ⟨o,h⟩)|h
 ·exact .inl (.inl (x.keep _ _ h (.inl λ_ z=>by cases z)))
 ·exact .inl (.inr ⟨o,x.keep _ _ h (.inl λ_ z=>by cases z)⟩)
 ·exact .inr h
theorem Ext.frz{vs:List V}(x:Ext μ H μ' H')(h:Frz K H a vs):Frz K H' a vs:=by
 rcases h with⟨o,h⟩|h
 ·exact .inl ⟨o,x.keep _ _ h (.inl λ_ z=>by cases z)⟩
 ·exact .inr h
theorem Ext.lst{vs:List V}(x:Ext μ H μ' H')(h:H a=some (.lst vs))(ha:a∉μ):H' a=some (.lst vs)∧a∉μ':=by
 refine⟨x.keep _ _ h (.inr ha),λz=>?_⟩;rcases x.fresh a z with z|z
 ·exact ha z
 ·rw[h]at z;cases z
theorem Ext.get(x:Ext μ H μ' H')(h:μ[n]?=some a):μ'[n]?=some a:=by obtain⟨r,rfl⟩:=x.pre;rw[ZB (Zl.mp h).1];exact h
mutual
theorem Rep.mono(x:Ext μ H μ' H'):∀(d:D) (v:V),Rep K mg μ H d v→Rep K mg μ' H' d v
 | .non,_,h=>h
 | .bl _,_,h=>h
 | .int _,_,h=>h
 | .str _,_,h=>h
 | .tup ds,v,h=>by unfold Rep at h⊢;obtain⟨a,vs,e,q,r⟩:=h;exact⟨a,vs,e,x.sqT q,RepL.mono x ds vs r⟩
 | .lst ds,v,h=>by unfold Rep at h⊢;obtain⟨a,vs,e,q,n,r⟩:=h;exact⟨a,vs,e,(x.lst q n.1).1,⟨(x.lst q n.1).2,n.2⟩,RepL.mono x ds vs r⟩
 | .scr ds,v,h=>by unfold Rep at h⊢;obtain⟨a,vs,e,q,r⟩:=h;exact⟨a,vs,e,x.frz q,RepL.mono x ds vs r⟩
 | .ref n,v,h=>by unfold Rep at h⊢;obtain⟨a,e,q⟩:=h;exact⟨a,e,x.get q⟩
 | .fn y,v,h=>h
 | .ty y,v,h=>h
 | .dct,v,h=>by unfold Rep at h⊢;obtain⟨a,e,q⟩:=h;exact⟨a,e,x.keep _ _ q (.inl λ_ z=>by cases z)⟩
theorem RepL.mono(x:Ext μ H μ' H'):∀(ds:List D) (vs:List V),RepL K mg μ H ds vs→RepL K mg μ' H' ds vs
 | [],vs,h=>h
 |d::ds,vs,h=>by unfold RepL at h⊢;obtain⟨w,ws,e,r,q⟩:=h;exact⟨w,ws,e,Rep.mono x d w r,RepL.mono x ds ws q⟩
end
theorem RepL.length:∀{ds:List D} {vs:List V},RepL K mg μ H ds vs→ds.length=vs.length
 | [],vs,h=>by unfold RepL at h;subst h;rfl
 |d::ds,vs,h=>by unfold RepL at h;obtain⟨w,ws,rfl,r,q⟩:=h;simp[RepL.length q]
theorem RepL.get:∀{ds:List D} {vs:List V} {i:Nat} {d:D},RepL K mg μ H ds vs→ds[i]?=some d→∃v,vs[i]?=some v∧Rep K mg μ H d v
 | [],vs,i,d,h,e=>by simp at e
 |c::ds,vs,i,d,h,e=>by
  unfold RepL at h;obtain⟨w,ws,rfl,r,q⟩:=h;cases i with
  |zero=>simp at e;subst e;exact⟨w,rfl,r⟩
  |succ i=>simpa using RepL.get q (by simpa using e)
theorem RepL.of:∀{ds:List D} {vs:List V},ds.length=vs.length→(∀(i:Nat) d v,ds[i]?=some d→vs[i]?=some v→Rep K mg μ H d v)→RepL K mg μ H ds vs
 | [],[],_,_=>by unfold RepL;rfl
 | [],_::_,h,_=>by simp at h
 |_::_,[],h,_=>by simp at h
 |d::ds,v::vs,h,k=>by unfold RepL;exact⟨v,vs,rfl,k 0 d v rfl rfl,RepL.of (by simpa using h) λi d' v' h1 h2=>k (i+1) d' v' (by simpa using h1) (by simpa using h2)⟩
theorem RepL.nil:RepL K mg μ H [] []:=by unfold RepL;rfl
theorem RepL.cons{d:D}{ds:List D}{vs:List V}(h:Rep K mg μ H d v)(t:RepL K mg μ H ds vs):RepL K mg μ H (d::ds) (v::vs):=by unfold RepL;exact⟨v,vs,rfl,h,t⟩
theorem RepL.uncons{d:D}{ds:List D}{vs:List V}(h:RepL K mg μ H (d::ds) vs):∃v ws,vs=v::ws∧Rep K mg μ H d v∧RepL K mg μ H ds ws:=by unfold RepL at h;exact h
theorem RepL.append:∀{ds es:List D} {vs ws:List V},RepL K mg μ H ds vs→RepL K mg μ H es ws→RepL K mg μ H (ds++es) (vs++ws)
 | [],es,vs,ws,h,k=>by unfold RepL at h;subst h;exact k
 |d::ds,es,vs,ws,h,k=>by obtain⟨v,us,rfl,r,q⟩:=h.uncons;exact .cons r (RepL.append q k)
theorem RepL.take:∀{ds:List D} {vs:List V} (n:Nat),RepL K mg μ H ds vs→RepL K mg μ H (ds.take n) (vs.take n)
 | [],vs,n,h=>by unfold RepL at h;subst h;simpa using RepL.nil
 |d::ds,vs,0,h=>by simpa using RepL.nil
 |d::ds,vs,n+1,h=>by obtain⟨v,us,rfl,r,q⟩:=h.uncons;exact .cons r (RepL.take n q)
theorem RepL.drop:∀{ds:List D} {vs:List V} (n:Nat),RepL K mg μ H ds vs→RepL K mg μ H (ds.drop n) (vs.drop n)
 | [],vs,n,h=>by unfold RepL at h;subst h;simpa using RepL.nil
 |d::ds,vs,0,h=>h
 |d::ds,vs,n+1,h=>by obtain⟨v,us,rfl,r,q⟩:=h.uncons;exact RepL.drop n q
theorem Ext.laid{p:Addr}(hp:H p=none):Ext μ H μ (upd H p o):=
 ⟨⟨[],by simp⟩,λa u h _=>by rw[a0A' (a0o' h hp)];exact h,λa u h=>⟨u,by rw[a0A' (a0o' h hp)];exact h⟩,λ_ h=>.inl h⟩
theorem SOk.notin{S:Store}{p:Addr}(s:SOk K mg μ S H)(hp:H p=none):p∉μ:=λz=>by
 obtain⟨n,hn,e⟩:=ZX.mp z;have e1:μ[n]?=some p:=by rw[Ze hn,e]
 have e2:S[n]?=some (S[n]'(by rw[←s.len];exact hn)):=Ze _;obtain⟨vs,h,_⟩:=s.at_ n p _ e1 e2;rw[hp]at h;cases h
theorem SOk.notF{S:Store}{p:Addr}(s:SOk K mg μ S H)(hp:H p=none):p∉mg.F:=λz=>by obtain⟨o,h⟩:=s.live p z;rw[hp]at h;cases h
theorem SOk.laid{S:Store}{p:Addr}(s:SOk K mg μ S H)(hp:H p=none):SOk K mg μ S (upd H p o):=by refine⟨λa h=>(Ext.laid (μ:=μ) hp).there a _ (s.live a h).choose_spec,s.len,s.nd,λn a ds h1 h2=>?_⟩;obtain⟨vs,h,r⟩:=s.at_ n a ds h1 h2;exact⟨vs,by rw[a0A' (a0o' h hp)];exact h,RepL.mono (Ext.laid hp) _ _ r⟩
theorem Ext.boxed{p:Addr}(hp:H p=none):Ext μ H (μ++[p]) (upd H p o):=
 ⟨⟨[p],rfl⟩,λa u h _=>by rw[a0A' (a0o' h hp)];exact h,λa u h=>⟨u,by rw[a0A' (a0o' h hp)];exact h⟩,λa h=>by
  rcases Zs.mp h with h|h
  ·exact .inl h
  ·have:a=p:=by simpa using h
   subst this;exact .inr hp⟩
theorem SOk.boxed{S:Store}{p:Addr}{ds:List D}{vs:List V}(s:SOk K mg μ S H)(hp:H p=none)(r:RepL K mg μ H ds vs):
  SOk K mg (μ++[p]) (S++[ds]) (upd H p (.lst vs)):=by
 have np:=s.notin hp;refine⟨λa h=>(Ext.laid (μ:=μ) hp).there a _ (s.live a h).choose_spec,by simp[s.len],?_,λn a es h1 h2=>?_⟩
 ·rw[Z2]
  exact⟨s.nd,by simp,λa ha b hb=>by
   have:b=p:=by simpa using hb
   subst this;intro z;subst z;exact np ha⟩
 ·by_cases hn:n<μ.length
  ·rw[ZB hn]at h1;rw[ZB (by rw[←s.len];exact hn)]at h2;obtain⟨ws,h,q⟩:=s.at_ n a es h1 h2;exact⟨ws,by rw[a0A' (a0o' h hp)];exact h,RepL.mono (Ext.boxed hp) _ _ q⟩
  ·have hl:=s.len;have e1:n=μ.length:=by have:=(Zl.mp h1).1;simp at this;omega
   subst e1;rw[Zv (Zi _)]at h1;rw[Zv (by omega)]at h2;simp[hl]at h1 h2;subst h1;subst h2;exact⟨vs,a0U',RepL.mono (Ext.boxed hp) _ _ r⟩
theorem Ext.wrote{xs:List V}{ys:List V}(ha:a∈μ)(h:H a=some (.lst xs)):Ext μ H μ (upd H a (.lst ys)):=by
 refine⟨⟨[],by simp⟩,λb o e c=>?_,λb o e=>?_,λ_ h=>.inl h⟩
 ·have:b≠a:=by
   rintro rfl;rw[h]at e;cases e;rcases c with c|c
   ·exact c _ rfl
   ·exact c ha
  rw[a0A' this];exact e
 ·by_cases z:b=a
  ·subst z;exact⟨_,a0U'⟩
  ·exact⟨o,by rw[a0A' z];exact e⟩
theorem SOk.wrote{S:Store}{ds:List D}{xs vs:List V}(s:SOk K mg μ S H)(hn:μ[n]?=some a)(h:H a=some (.lst xs))(r:RepL K mg μ H ds vs):
  SOk K mg μ (S.set n ds) (upd H a (.lst vs)):=by
 have ha:a∈μ:=ZI hn;have hl:=s.len;have hnl:n<S.length:=by have:=(Zl.mp hn).1;omega
 refine⟨λb hb=>(Ext.wrote (μ:=μ) (ys:=vs) ha h).there b _ (s.live b hb).choose_spec,by simp[hl],s.nd,λm b es h1 h2=>?_⟩;by_cases e:m=n
 ·subst e;rw[hn]at h1;cases h1;rw[Ym hnl]at h2;cases h2;exact⟨vs,a0U',RepL.mono (Ext.wrote ha h) _ _ r⟩
 ·rw[List.getElem?_set_ne (Ne.symm e)]at h2;obtain⟨ws,q,r'⟩:=s.at_ m b es h1 h2;have:b≠a:=by rintro rfl;exact e (L2_nodup s.nd h1 hn)
  exact⟨ws,by rw[a0A' this];exact q,RepL.mono (Ext.wrote ha h) _ _ r'⟩
where
 L2_nodup {l:La} (nd:l.Nodup) {i j:Nat} {x:Addr} (a:l[i]?=some x) (b:l[j]?=some x):i=j:=by obtain⟨h1,e1⟩:=Zl.mp a;obtain⟨h2,e2⟩:=Zl.mp b;exact(List.getElem_inj nd).mp (e1.trans e2.symm)
end
end Py
variable {xs ys ds:List Py.D}{T S S1 S' S2:Py.Store}{d W v8:Py.D}{Γ:Str→Option Py.D}{x5 x6 x3:Option Py.D}
namespace Py
open PySem.Sem (wp)
open PySem.Builtin
end Py
namespace Py
structure Exc where
 cls:Str
 fs:List D
inductive Res (α:Type) where
 |ok (a:α) (S:Store)
 |err (x:Exc) (S:Store)
 |fail
abbrev big:Nat:=16777216
theorem a9p':sizeLine=big:=sizeLine_eq
def Want(K:Fg)(mg:GS)(μ:La)(H:Hp)(Q:VK):Res D→Prop
 | .ok d S'=>∀μ' H' v,Ext μ H μ' H'→SOk K mg μ' S' H'→Rep K mg μ' H' d v→Q v H'
 |_=>False
section
variable {mg:GS}{Q:VK}
theorem Want.now(w:Want K mg μ H Q (.ok d S))(s:SOk K mg μ S H)(r:Rep K mg μ H d v):Q v H:=w μ H v .refl s r
theorem Want.tup{vs:List V}(w:Want K mg μ H Q (.ok (.tup ds) S))(s:SOk K mg μ S H)(r:RepL K mg μ H ds vs)(p:Addr)(hp:H p=none):Q (.ref p) (upd H p (.tup vs)):=
 w μ _ _ (.laid hp) (s.laid hp) (by unfold Rep;exact⟨p,vs,rfl,SqT.of a0U',RepL.mono (.laid hp) _ _ r⟩)
theorem Want.lst{vs:List V}(w:Want K mg μ H Q (.ok (.lst ds) S))(s:SOk K mg μ S H)(r:RepL K mg μ H ds vs)(p:Addr)(hp:H p=none):Q (.ref p) (upd H p (.lst vs)):=
 w μ _ _ (.laid hp) (s.laid hp) (by unfold Rep;exact⟨p,vs,rfl,a0U',⟨s.notin hp,s.notF hp⟩,RepL.mono (.laid hp) _ _ r⟩)
theorem Want.box{vs:List V}(w:Want K mg μ H Q (.ok (.ref S.length) (S++[ds])))(s:SOk K mg μ S H)(r:RepL K mg μ H ds vs)(p:Addr)(hp:H p=none):Q (.ref p) (upd H p (.lst vs)):=
 w (μ++[p]) _ _ (.boxed hp) (s.boxed hp r) (by unfold Rep;exact⟨p,rfl,by rw[Zv (by rw[s.len];exact Zi _),s.len];simp⟩)
theorem Want.wrote{xs vs:List V}(w:Want K mg μ H Q (.ok d (S.set n ds)))(s:SOk K mg μ S H)(hn:μ[n]?=some a)(h:H a=some (.lst xs))(r:RepL K mg μ H ds vs)
  (rd:Rep K mg μ H d v):Q v (upd H a (.lst vs)):=
 w μ _ _ (.wrote (ZI hn) h) (s.wrote hn h r) (Rep.mono (.wrote (ZI hn) h) _ _ rd)
noncomputable def a3i'(S:Store):D→Option (List D)
 | .lst xs=>some xs
 | .ref n=>S[n]?
 |_=>none
noncomputable def seqOf(S:Store):D→Option (List D)
 | .lst xs=>some xs
 | .ref n=>S[n]?
 | .tup xs=>some xs
 | .scr xs=>some xs
 |_=>none
theorem a0V'(s:SOk K mg μ S H)(r:Rep K mg μ H d v)(e:a3i' S d=some xs):∃a vs,v=.ref a∧H a=some (.lst vs)∧RepL K mg μ H xs vs:=by
 cases d with
 |lst ys=>unfold a3i' at e;cases e;unfold Rep at r;obtain⟨a,vs,e,h,_,q⟩:=r;exact⟨a,vs,e,h,q⟩
 |ref n=>unfold a3i' at e;unfold Rep at r;obtain⟨a,e1,h⟩:=r;obtain⟨vs,h1,q⟩:=s.at_ n a xs h e;exact⟨a,vs,e1,h1,q⟩
 |_=>cases e
theorem a3Y'(s:SOk K mg μ S H)(r:Rep K mg μ H d v)(e:seqOf S d=some xs):∃a vs,v=.ref a∧(SqL K H a vs∨SqT K H a vs)∧RepL K mg μ H xs vs:=by
 cases d with
 |lst ys=>obtain⟨a,vs,e1,h,q⟩:=a0V' s r (show a3i' S (.lst ys)=some xs from e);exact⟨a,vs,e1,.inl (.of h),q⟩
 |ref n=>obtain⟨a,vs,e1,h,q⟩:=a0V' s r (show a3i' S (.ref n)=some xs from e);exact⟨a,vs,e1,.inl (.of h),q⟩
 |tup ys=>unfold seqOf at e;cases e;unfold Rep at r;obtain⟨a,vs,e,h,q⟩:=r;exact⟨a,vs,e,.inr h,q⟩
 |scr ys=>unfold seqOf at e;cases e;unfold Rep at r;obtain⟨a,vs,e,h,q⟩:=r;exact⟨a,vs,e,.inl h.sq,q⟩
 |_=>cases e
theorem a0b'{i:Int}(r:Rep K mg μ H (.int i) v):v=.int i:=by unfold Rep at r;exact r
theorem a6D'{i:Bool}(r:Rep K mg μ H (.bl i) v):v=.bl i:=by unfold Rep at r;exact r
theorem a3Z'{i:Str}(r:Rep K mg μ H (.str i) v):v=.str i:=by unfold Rep at r;exact r
theorem a4E'(r:Rep K mg μ H .non v):v=.non:=by unfold Rep at r;exact r
theorem a0I'(r:Rep K mg μ H (.tup ds) v):∃a vs,v=.ref a∧SqT K H a vs∧RepL K mg μ H ds vs:=by unfold Rep at r;exact r
theorem a1l'{i:Int}:Rep K mg μ H (.int i) (.int i):=by unfold Rep;rfl
theorem repBl{i:Bool}:Rep K mg μ H (.bl i) (.bl i):=by unfold Rep;rfl
theorem repStr{i:Str}:Rep K mg μ H (.str i) (.str i):=by unfold Rep;rfl
theorem b0u':Rep K mg μ H .non .non:=by unfold Rep;rfl
end
def rD(K:Fg)(mg:Mg)(g:D→D→Store→Res D):R2:=λx y H Q=>∃F μ S d e,SOk K ⟨mg,F⟩ μ S H∧Rep K ⟨mg,F⟩ μ H d x∧Rep K ⟨mg,F⟩ μ H e y∧Want K ⟨mg,F⟩ μ H Q (g d e S)
noncomputable def addD(d e:D)(S:Store):Res D:=match d,e with
 | .int i,.int j=>.ok (.int (i+j)) S
 | .str x,.str y=>if x.length+y.length≤big then .ok (.str (x++y)) S else .fail
 | .tup a,.tup b=>if a.length+b.length≤big then .ok (.tup (a++b)) S else .fail
 |d,e=>match a3i' S d,a3i' S e with
  |some a,some b=>if a.length+b.length≤big then .ok (.lst (a++b)) S else .fail
  |_,_=>.fail
noncomputable def subD(d e:D)(S:Store):Res D:=match d,e with
 | .int i,.int j=>.ok (.int (i-j)) S
 |_,_=>.fail
noncomputable def mulD(d e:D)(S:Store):Res D:=match d,e with
 | .int i,.int j=>if(-(2^64)<i∧i<2^64)∨(-(2^64)<j∧j<2^64)then .ok (.int (i*j)) S else if Builtin.Int.intBits i≤100000∧Builtin.Int.intBits j≤100000 then .ok (.int (i*j)) S else .fail
 | .lst a,.int k=>if-(2^63)≤k∧k<2^63∧a.length*k.toNat≤big then .ok (.lst (List.replicate k.toNat a).flatten) S else .fail
 |_,_=>.fail
noncomputable def fdivD(d e:D)(S:Store):Res D:=match d,e with
 | .int i,.int j=>if 0<j∧j<1073741824 then .ok (.int (i/j)) S else .fail
 |_,_=>.fail
noncomputable def modD(d e:D)(S:Store):Res D:=match d,e with
 | .int i,.int j=>if 0<j then .ok (.int (i%j)) S else .fail
 |_,_=>.fail
noncomputable def shrD(d e:D)(S:Store):Res D:=match d,e with
 | .int i,.int j=>if 0≤j then .ok (.int (i/2^j.toNat)) S else .fail
 |_,_=>.fail
noncomputable def andD(d e:D)(S:Store):Res D:=match d,e with
 | .int i,.int j=>.ok (.int (Builtin.bitAnd i j)) S
 |_,_=>.fail
noncomputable def orD(d e:D)(S:Store):Res D:=match d,e with
 | .int i,.int j=>.ok (.int (Builtin.bitOr i j)) S
 |_,_=>.fail
noncomputable def opD:Operator→D→D→Store→Res D
 | .Add=>addD| .Sub=>subD| .Mult=>mulD| .FloorDiv=>fdivD| .Mod=>modD| .Pow=>λ_ _ _=>.fail | .RShift=>shrD| .LShift=>λ_ _ _=>.fail | .BitAnd=>andD| .BitOr=>orD
 |_=>λ_ _ _=>.fail
theorem b4R'{b:Addr}{ws:Lv}(ht:IsTup s.heap t #[])(hb:IsTup s.heap b ws.toArray)
  (h1:Q (.ref b) s):wpAny (model prog w) A (binaryOp .Add (.ref t) (.ref b)) Q E s:=by
 obtain⟨⟨cls,dd,data,sl⟩,ho,hc,n,hd⟩:=id ht;obtain⟨⟨cls2,dd2,data2,sl2⟩,ho2,hc2,n2,hd2⟩:=id hb;simp only at hc hd hc2 hd2;subst hc hd hc2 hd2
 exact concat_meets ⟨_,ho,rfl⟩ ⟨_,ho2,rfl⟩ noFill_tuple_add seq_tuple_add PySem.F.slot_tuple_add PySem.F.entry_tuple_add (PySem.F.args_tuple_add_2 _ _)
   (tuple_addW0 t b #[] ws.toArray n n2 dd dd2 sl sl2 rfl) ⟨ho,ho2,h1⟩
theorem b4S':OpR X (binaryOp .Add) (λx y H Q=>∃a b ys,x=.ref a∧y=.ref b∧SqT X.K H a []∧SqT X.K H b ys∧Q (.ref b) H):=by intro pq s σ H x y v u Q I rx ry h;obtain⟨a,b,ys,rfl,rfl,ha,hb,q⟩:=h;cases rx;cases ry;obtain⟨its,r,pa,_⟩:=I.tuple ha;obtain⟨its2,r2,pb,_⟩:=I.tuple hb;have e:=r.zero;subst e;exact b4R' pa pb ⟨.ref b,H,I,rfl,q⟩
theorem op_mulG:OpR X (binaryOp .Mult) (rI (λi j=>Builtin.Int.intBits i≤100000∧Builtin.Int.intBits j≤100000) λi j=>.int (i*j)):=opI λ_ _ _ _ _ _ _ hc q=>PyProof.Rows.mul_int q (PySem.IntMulOk.of_le hc.1 hc.2 (by decide))
theorem op_D(op:Operator):OpR X (binaryOp op) (rD X.K X.mg (opD op)):=by
 intro pq s σ H x y v u Q I rx ry h;obtain⟨F,μ,S,d,e,sk,rd,re,w⟩:=h;have hb:=a9p';cases op with
 |Add=>
  replace w:Want X.K ⟨X.mg,F⟩ μ H Q (addD d e S):=w;unfold addD at w;split at w
  ·have:=a0b' rd;have:=a0b' re;subst x y
   exact op_add pq s σ H _ _ v u Q I rx ry ⟨_,_,rfl,rfl,w.now sk a1l'⟩
  ·have:=a3Z' rd;have:=a3Z' re;subst x y
   split at w
   ·exact b0n' pq s σ H _ _ v u Q I rx ry ⟨_,_,rfl,rfl,by omega,w.now sk repStr⟩
   ·exact w.elim
  ·split at w
   ·obtain⟨a,vs,rfl,ha,qa⟩:=a0I' rd;obtain⟨b,ws,rfl,hb',qb⟩:=a0I' re;have l1:=qa.length;have l2:=qb.length;cases vs with
    |nil=>refine b4S' pq s σ H _ _ v u Q I rx ry ⟨a,b,ws,rfl,rfl,ha,hb',?_⟩;rename_i as bs _;have:as=[]:=ZL (by simpa using l1);subst this;exact w.now sk re
    |cons v0 vs=>
     refine op_catT pq s σ H _ _ v u Q I rx ry ⟨a,b,v0::vs,ws,rfl,rfl,ha,hb',by simp,by omega,?_,?_⟩
     ·intro hw;subst hw;rename_i as bs _;have:bs=[]:=ZL (by simpa using l2);subst this;rw[Yd]at w;exact w.now sk rd
     ·intro _ p hp;exact w.tup sk (qa.append qb) p hp
   ·exact w.elim
  ·split at w
   ·rename_i as bs e1 e2;split at w
    ·obtain⟨a,vs,rfl,ha,qa⟩:=a0V' sk rd e1;obtain⟨b,ws,rfl,hb',qb⟩:=a0V' sk re e2;have l1:=qa.length;have l2:=qb.length;exact op_cat pq s σ H _ _ v u Q I rx ry ⟨a,b,vs,ws,rfl,rfl,ha,hb',by omega,λp hp=>w.lst sk (qa.append qb) p hp⟩
    ·exact w.elim
   ·exact w.elim
 |Sub=>
  replace w:Want X.K ⟨X.mg,F⟩ μ H Q (subD d e S):=w;unfold subD at w;split at w
  ·have:=a0b' rd;have:=a0b' re;subst x y
   exact op_sub pq s σ H _ _ v u Q I rx ry ⟨_,_,rfl,rfl,w.now sk a1l'⟩
  ·exact w.elim
 |Mult=>
  replace w:Want X.K ⟨X.mg,F⟩ μ H Q (mulD d e S):=w;unfold mulD at w;split at w
  ·have:=a0b' rd;have:=a0b' re;subst x y
   split at w
   ·rename_i hc;exact op_mul pq s σ H _ _ v u Q I rx ry ⟨_,_,rfl,rfl,hc,w.now sk a1l'⟩
   ·split at w
    ·rename_i hc;exact op_mulG pq s σ H _ _ v u Q I rx ry ⟨_,_,rfl,rfl,hc,w.now sk a1l'⟩
    ·exact w.elim
  ·split at w
   ·rename_i as k hc;obtain⟨a,vs,rfl,ha,qa⟩:=a0V' sk rd rfl;have:=a0b' re;subst y;have l1:=qa.length;refine op_rep pq s σ H _ _ v u Q I rx ry ⟨a,k,vs,rfl,rfl,ha,hc.1,hc.2.1,by rw[←l1];omega,λp hp=>w.lst sk ?_ p hp⟩;generalize k.toNat=m;clear hc w
    induction m with
    |zero=>simpa using RepL.nil
    |succ m ih=>rw[List.replicate_succ,List.replicate_succ,List.flatten_cons,List.flatten_cons];exact qa.append ih
   ·exact w.elim
  ·exact w.elim
 |FloorDiv=>
  replace w:Want X.K ⟨X.mg,F⟩ μ H Q (fdivD d e S):=w;unfold fdivD at w;split at w
  ·have:=a0b' rd;have:=a0b' re;subst x y
   split at w
   ·rename_i hc;exact op_fdiv pq s σ H _ _ v u Q I rx ry ⟨_,_,rfl,rfl,hc,w.now sk a1l'⟩
   ·exact w.elim
  ·exact w.elim
 |Mod=>
  replace w:Want X.K ⟨X.mg,F⟩ μ H Q (modD d e S):=w;unfold modD at w;split at w
  ·have:=a0b' rd;have:=a0b' re;subst x y
   split at w
   ·rename_i hc;exact op_mod pq s σ H _ _ v u Q I rx ry ⟨_,_,rfl,rfl,hc,w.now sk a1l'⟩
   ·exact w.elim
  ·exact w.elim
 |Pow=>exact w.elim
 |RShift=>
  replace w:Want X.K ⟨X.mg,F⟩ μ H Q (shrD d e S):=w;unfold shrD at w;split at w
  ·have:=a0b' rd;have:=a0b' re;subst x y
   split at w
   ·rename_i hc;exact op_shr pq s σ H _ _ v u Q I rx ry ⟨_,_,rfl,rfl,hc,w.now sk a1l'⟩
   ·exact w.elim
  ·exact w.elim
 |LShift=>exact w.elim
 |BitAnd=>
  replace w:Want X.K ⟨X.mg,F⟩ μ H Q (andD d e S):=w;unfold andD at w;split at w
  ·have:=a0b' rd;have:=a0b' re;subst x y
   exact op_and pq s σ H _ _ v u Q I rx ry ⟨_,_,rfl,rfl,w.now sk a1l'⟩
  ·exact w.elim
 |BitOr=>
  replace w:Want X.K ⟨X.mg,F⟩ μ H Q (orD d e S):=w;unfold orD at w;split at w
  ·have:=a0b' rd;have:=a0b' re;subst x y
   exact op_or pq s σ H _ _ v u Q I rx ry ⟨_,_,rfl,rfl,w.now sk a1l'⟩
  ·exact w.elim
 |_=>exact w.elim
end Py
variable {φ:List Py.D→Py.Store→Py.Res Py.D}
namespace Py
inductive Sh where
 |non|bl (b:Bool)|int (i:Int)|str (x:Str)|tup (xs:List D)|lst (xs:List D)
noncomputable def sh(S:Store):D→Option Sh
 | .non=>some .non
 | .bl b=>some (.bl b)
 | .int i=>some (.int i)
 | .str x=>some (.str x)
 | .tup xs=>some (.tup xs)
 | .lst xs=>some (.lst xs)
 | .ref n=>(S[n]?).map .lst
 |_=>none
noncomputable def allO:List (Option Bool)→Option Bool
 | []=>some true
 |o::r=>match o,allO r with
  |some b,some c=>some (b&&c)
  |_,_=>none
noncomputable def eqS(f:D→D→Option Bool):Sh→Sh→Option Bool
 | .non,.non=>some true
 | .bl a,.bl b=>some (a==b)
 | .int a,.int b=>some (a==b)
 | .str a,.str b=>some (a==b)
 | .bl a,.int b=>some ((if a then 1 else 0)==b)
 | .int a,.bl b=>some (a==(if b then 1 else 0))
 | .tup a,.tup b=>(allO (List.zipWith f a b)).map (· &&a.length==b.length)
 | .lst a,.lst b=>if a.length=b.length then allO (List.zipWith f a b)else some false
 |_,_=>some false
noncomputable def eqF(S:Store):Nat→D→D→Option Bool
 |0,_,_=>none
 |n+1,d,e=>match sh S d,sh S e with
  |some x,some y=>eqS (eqF S n) x y
  |_,_=>none
noncomputable def eJ(l:List (Option Bool))(j:Nat):Bool:=match l[j]? with
 |some (some b)=>b
 |_=>true
theorem a4t':∀(l:List (Option Bool)) (k:Bool),allO l=some k→(∀(j:Nat) o,l[j]?=some o→o=some (eJ l j))∧k=(List.range l.length).all (eJ l)
 | [],k,h=>by unfold allO at h;cases h;exact⟨λj o e=>by simp at e,by simp⟩
 |o::r,k,h=>by
  unfold allO at h;split at h
  ·rename_i b c e2;cases h;obtain⟨h1,h2⟩:=a4t' r c e2;refine⟨λj o e=>?_,?_⟩
   ·cases j with
    |zero=>simp at e;subst e;simp[eJ]
    |succ j=>
     have e':r[j]?=some o:=by simpa using e
     rw[h1 j o e'];simp[eJ]
   ·rw[Zw,List.range_succ_eq_map,List.all_cons,List.all_map,h2];rfl
  ·cases h
section
def ShIs(K:Fg)(mg:GS)(μ:La)(H:Hp)(s:Shared)(u:Value):Sh→Prop
 | .non=>u=.none
 | .bl b=>u=.bool b
 | .int i=>∃t,u=.int i t
 | .str x=>∃t,u=.str x t
 | .tup ds=>∃a its vs,u=.ref a∧s.heap.IsTuple a its.toArray∧Vals vs its∧RepL K mg μ H ds vs
 | .lst ds=>∃a its vs,u=.ref a∧s.heap.IsList a its.toArray∧Vals vs its∧RepL K mg μ H ds vs
theorem shIs(I:Inv X pq σ H s)(sk:SOk X.K ⟨X.mg,F⟩ μ S H){x:Sh}(r:Rep X.K ⟨X.mg,F⟩ μ H d v)(q:RelV v u)(e:sh S d=some x):ShIs X.K ⟨X.mg,F⟩ μ H s u x:=by
 cases d with
 |non=>cases e;cases a4E' r;exact q
 |bl b=>cases e;cases a6D' r;exact q
 |int b=>cases e;cases a0b' r;exact q
 |str b=>cases e;cases a3Z' r;exact q
 |tup xs=>cases e;obtain⟨a,vs,rfl,h,k⟩:=a0I' r;cases q;obtain⟨its,rv,p,_⟩:=I.tuple h;exact⟨a,its,vs,rfl,p,rv,k⟩
 |lst xs=>cases e;obtain⟨a,vs,rfl,h,k⟩:=a0V' sk r rfl;cases q;obtain⟨its,rv,p,_⟩:=I.list (.of h);exact⟨a,its,vs,rfl,p.isList,rv,k⟩
 |ref n=>
  replace e:(S[n]?).map Sh.lst=some x:=e;cases e2:S[n]? with
  |none=>rw[e2]at e;cases e
  |some xs=>rw[e2]at e;cases e;obtain⟨a,vs,rfl,h,k⟩:=a0V' sk r e2;cases q;obtain⟨its,rv,p,_⟩:=I.list (.of h);exact⟨a,its,vs,rfl,p.isList,rv,k⟩
 |_=>cases e
def Items(A:Around)(s:Shared)(f:D→D→Option Bool)(K:Fg)(mg:GS)(μ:La)(H:Hp):Prop:=
 ∀d e v w u z k,Rep K mg μ H d v→RelV v u→Rep K mg μ H e w→RelV w z→f d e=some k→SeqAt.EqAt A s u z k
theorem b0v'{f:D→D→Option Bool}{mg:GS}(F:Items A s f K mg μ H){es:List D}{vs ws:List V}{zs:Lv}(r1:RepL K mg μ H ds vs)(q1:Vals vs us)(r2:RepL K mg μ H es ws)(q2:Vals ws zs){k:Bool}
  (h:allO (List.zipWith f ds es)=some k):∀j (h1:j<us.toArray.size) (h2:j<zs.toArray.size),SeqAt.EqAt A s us.toArray[j] zs.toArray[j] (eJ (List.zipWith f ds es) j):=by
 intro j h1 h2;have l1:=r1.length;have l2:=r2.length;have l3:=q1.length;have l4:=q2.length
 have h1':j<us.length:=by simpa using h1
 have h2':j<zs.length:=by simpa using h2
 have a1:ds[j]?=some (ds[j]'(by omega)):=Ze _;have a2:es[j]?=some (es[j]'(by omega)):=Ze _;obtain⟨v,b1,c1⟩:=r1.get a1;obtain⟨w,b2,c2⟩:=r2.get a2;obtain⟨u,b3,c3⟩:=q1.get b1;obtain⟨z,b4,c4⟩:=q2.get b2
 have e1:us.toArray[j]=u:=by have:=Zl.mp b3;obtain⟨_,e⟩:=this;simpa using e
 have e2:zs.toArray[j]=z:=by have:=Zl.mp b4;obtain⟨_,e⟩:=this;simpa using e
 rw[e1,e2];have hz:(List.zipWith f ds es)[j]?=some (f (ds[j]'(by omega)) (es[j]'(by omega))):=by rw[List.getElem?_zipWith,a1,a2]
 exact F _ _ v w u z _ c1 c3 c2 c4 ((a4t' _ _ h).1 j _ hz)
theorem b0w'{f:D→D→Option Bool}{es:List D}{k:Bool}(h:allO (List.zipWith f ds es)=some k)(m:Nat)(hm:m=min ds.length es.length):(List.range m).all (eJ (List.zipWith f ds es))=k:=by have:=(a4t' _ _ h).2;rw[this,List.length_zipWith,hm]
open PySem.SeqAt
theorem rcS{mg:GS}{f:D→D→Option Bool}(F:Items A.in1 s f K mg μ H)(hu:A.units<cLine):∀{x y:Sh} {k:Bool},ShIs K mg μ H s u x→ShIs K mg μ H s z y→eqS f x y=some k→
  RcAt A s u z k∧RcNeAt A s u z (!k):=by
 intro x y k hx hy h;cases x with
 |non=>
  cases hx;cases y with
  |non=>cases hy;cases h;exact⟨RcAt.none_none,RcNeAt.none_none⟩
  |bl b=>cases hy;cases h;exact⟨RcAt.none_bool b,RcNeAt.none_bool b⟩
  |int b=>obtain⟨t,rfl⟩:=hy;cases h;exact⟨RcAt.none_int b t,RcNeAt.none_int b t⟩
  |str b=>obtain⟨t,rfl⟩:=hy;cases h;exact⟨RcAt.none_str b t,RcNeAt.none_str b t⟩
  |tup b=>obtain⟨a,its,vs,rfl,p,_⟩:=hy;cases h;exact⟨RcAt.none_tuple p hu,RcNeAt.none_tuple p hu⟩
  |lst b=>obtain⟨a,its,vs,rfl,p,_⟩:=hy;cases h;exact⟨RcAt.none_list p hu,RcNeAt.none_list p hu⟩
 |bl a=>
  cases hx;cases y with
  |non=>cases hy;cases h;exact⟨RcAt.bool_none a,RcNeAt.bool_none a⟩
  |bl b=>cases hy;cases h;exact⟨RcAt.bool_bool a b,RcNeAt.bool_bool a b⟩
  |int b=>obtain⟨t,rfl⟩:=hy;cases h;exact⟨RcAt.bool_int a b t,RcNeAt.bool_int a b t⟩
  |str b=>obtain⟨t,rfl⟩:=hy;cases h;exact⟨RcAt.bool_str a b t,RcNeAt.bool_str a b t⟩
  |tup b=>obtain⟨_,its,vs,rfl,p,_⟩:=hy;cases h;exact⟨RcAt.bool_tuple a p hu,RcNeAt.bool_tuple a p hu⟩
  |lst b=>obtain⟨_,its,vs,rfl,p,_⟩:=hy;cases h;exact⟨RcAt.bool_list a p hu,RcNeAt.bool_list a p hu⟩
 |int a=>
  obtain⟨t',rfl⟩:=hx;cases y with
  |non=>cases hy;cases h;exact⟨RcAt.int_none a t',RcNeAt.int_none a t'⟩
  |bl b=>cases hy;cases h;exact⟨RcAt.int_bool a t' b,RcNeAt.int_bool a t' b⟩
  |int b=>obtain⟨t,rfl⟩:=hy;cases h;exact⟨RcAt.int_int a t' b t,RcNeAt.int_int a t' b t⟩
  |str b=>obtain⟨t,rfl⟩:=hy;cases h;exact⟨RcAt.int_str a t' b t,RcNeAt.int_str a t' b t⟩
  |tup b=>obtain⟨_,its,vs,rfl,p,_⟩:=hy;cases h;exact⟨RcAt.int_tuple a t' p hu,RcNeAt.int_tuple a t' p hu⟩
  |lst b=>obtain⟨_,its,vs,rfl,p,_⟩:=hy;cases h;exact⟨RcAt.int_list a t' p hu,RcNeAt.int_list a t' p hu⟩
 |str a=>
  obtain⟨t',rfl⟩:=hx;cases y with
  |non=>cases hy;cases h;exact⟨RcAt.str_none a t',RcNeAt.str_none a t'⟩
  |bl b=>cases hy;cases h;exact⟨RcAt.str_bool a t' b,RcNeAt.str_bool a t' b⟩
  |int b=>obtain⟨t,rfl⟩:=hy;cases h;exact⟨RcAt.str_int a t' b t,RcNeAt.str_int a t' b t⟩
  |str b=>obtain⟨t,rfl⟩:=hy;cases h;exact⟨RcAt.str_str a t' b t,RcNeAt.str_str a t' b t⟩
  |tup b=>obtain⟨_,its,vs,rfl,p,_⟩:=hy;cases h;exact⟨RcAt.str_tuple a t' p hu,RcNeAt.str_tuple a t' p hu⟩
  |lst b=>obtain⟨_,its,vs,rfl,p,_⟩:=hy;cases h;exact⟨RcAt.str_list a t' p hu,RcNeAt.str_list a t' p hu⟩
 |tup a=>
  obtain⟨a1,its1,vs1,rfl,p1,q1,r1⟩:=hx;cases y with
  |non=>cases hy;cases h;exact⟨RcAt.tuple_none p1 hu,RcNeAt.tuple_none p1 hu⟩
  |bl b=>cases hy;cases h;exact⟨RcAt.tuple_bool b p1 hu,RcNeAt.tuple_bool b p1 hu⟩
  |int b=>obtain⟨t,rfl⟩:=hy;cases h;exact⟨RcAt.tuple_int b t p1 hu,RcNeAt.tuple_int b t p1 hu⟩
  |str b=>obtain⟨t,rfl⟩:=hy;cases h;exact⟨RcAt.tuple_str b t p1 hu,RcNeAt.tuple_str b t p1 hu⟩
  |tup b=>
   obtain⟨a2,its2,vs2,rfl,p2,q2,r2⟩:=hy;replace h:(allO (List.zipWith f a b)).map (· &&a.length==b.length)=some k:=h;obtain⟨k1,e1,e2⟩:=Yl.mp h;have hz:=b0v' F r1 q1 r2 q2 e1;have l1:=r1.length;have l2:=r2.length;have l3:=q1.length;have l4:=q2.length
   have e3:k=((List.range (min its1.toArray.size its2.toArray.size)).all (eJ (List.zipWith f a b))&&its1.toArray.size==its2.toArray.size):=by rw[←e2,b0w' e1 _ (by rw[Zk,Zk,←l3,←l4,←l1,←l2]),Zk,Zk,←l3,←l4,←l1,←l2]
   rw[e3];exact⟨RcAt.tuples p1 p2 hu hz,RcNeAt.tuples p1 p2 hu hz⟩
  |lst b=>obtain⟨a2,its2,vs2,rfl,p2,_⟩:=hy;cases h;exact⟨RcAt.tuple_list p1 p2 hu,RcNeAt.tuple_list p1 p2 hu⟩
 |lst a=>
  obtain⟨a1,its1,vs1,rfl,p1,q1,r1⟩:=hx;cases y with
  |non=>cases hy;cases h;exact⟨RcAt.list_none p1 hu,RcNeAt.list_none p1 hu⟩
  |bl b=>cases hy;cases h;exact⟨RcAt.list_bool b p1 hu,RcNeAt.list_bool b p1 hu⟩
  |int b=>obtain⟨t,rfl⟩:=hy;cases h;exact⟨RcAt.list_int b t p1 hu,RcNeAt.list_int b t p1 hu⟩
  |str b=>obtain⟨t,rfl⟩:=hy;cases h;exact⟨RcAt.list_str b t p1 hu,RcNeAt.list_str b t p1 hu⟩
  |tup b=>obtain⟨a2,its2,vs2,rfl,p2,_⟩:=hy;cases h;exact⟨RcAt.list_tuple p1 p2 hu,RcNeAt.list_tuple p1 p2 hu⟩
  |lst b=>
   obtain⟨a2,its2,vs2,rfl,p2,q2,r2⟩:=hy;have l1:=r1.length;have l2:=r2.length;have l3:=q1.length;have l4:=q2.length
   replace h:(if a.length=b.length then allO (List.zipWith f a b)else some false)=some k:=h;split at h
   ·rename_i hl;have hz:=b0v' F r1 q1 r2 q2 h
    have e3:k=(List.range its1.toArray.size).all (eJ (List.zipWith f a b)):=by rw[b0w' h _ (by rw[Zk,←l3,←l1];omega)]
    rw[e3];have hs:its1.toArray.size=its2.toArray.size:=by rw[Zk,Zk];omega
    exact⟨RcAt.lists p1 p2 hs hu hz,RcNeAt.lists p1 p2 hs hu hz⟩
   ·rename_i hl;cases h;have hs:(its1.toArray.size !=its2.toArray.size)=true:=by rw[Zk,Zk];simp;omega
    exact⟨RcAt.lists_lengths p1 p2 hs hu,RcNeAt.lists_lengths p1 p2 hs hu⟩
theorem b3R'(I:Inv X pq σ H s)(sk:SOk X.K ⟨X.mg,F⟩ μ S H):∀(n:Nat) (d e:D) (v:V) (k:Bool),Rep X.K ⟨X.mg,F⟩ μ H d v→Rep X.K ⟨X.mg,F⟩ μ H e v→eqF S n d e=some k→k=true:=by
 intro n
 induction n with
 |zero=>intro d e v k _ _ h;cases h
 |succ n ih=>
  intro d e v k rd re h
  have lists:∀(ds es:List D) (vs:List V) (k:Bool),RepL X.K ⟨X.mg,F⟩ μ H ds vs→RepL X.K ⟨X.mg,F⟩ μ H es vs→allO (List.zipWith (eqF S n) ds es)=some k→k=true:=by
   intro ds
   induction ds with
   |nil=>intro es vs k _ _ h;cases h;rfl
   |cons d ds ihl=>
    intro es vs k r1 r2 h;obtain⟨v,ws,rfl,a1,b1⟩:=r1.uncons;cases es with
    |nil=>cases h;rfl
    |cons e es=>
     obtain⟨v',ws',e1,a2,b2⟩:=r2.uncons;cases e1;rw[List.zipWith_cons_cons]at h;unfold allO at h;split at h
     ·rename_i x y e1 e2;cases h;rw[ih d e v x a1 a2 e1,ihl es ws y b1 b2 e2];rfl
     ·cases h
  unfold eqF at h;cases e1:sh S d with
  |none=>rw[e1]at h;cases h
  |some x=>
   cases e2:sh S e with
   |none=>rw[e1,e2]at h;cases h
   |some y=>
    rw[e1,e2]at h;replace h:eqS (eqF S n) x y=some k:=h
    obtain⟨u,ru⟩:∃u,RelV v u:=by
     cases v with
     |non=>exact⟨_,rfl⟩
     |bl b=>exact⟨_,rfl⟩
     |int i=>exact⟨.int i 0,0,rfl⟩
     |str x=>exact⟨.str x 0,0,rfl⟩
     |byt x=>exact⟨.bytes x 0,0,rfl⟩
     |flt x=>exact⟨.float x 0,0,rfl⟩
     |ref a=>exact⟨_,rfl⟩
     |ty n=>exact⟨_,rfl⟩
    have s1:=shIs I sk rd ru e1;have s2:=shIs I sk re ru e2
    have len:∀{ds es:List D} {vs ws:List V} {us:Lv},RepL X.K ⟨X.mg,F⟩ μ H ds vs→Vals vs us→RepL X.K ⟨X.mg,F⟩ μ H es ws→Vals ws us→vs=ws∧ds.length=es.length:=λr1 q1 r2 q2=>by have:=q1.inj q2;subst this;exact⟨rfl,r1.length.trans r2.length.symm⟩
    cases x with
    |non=>
     cases s1;cases y with
     |non=>cases h;rfl
     |bl b=>cases s2
     |int b=>obtain⟨t,z⟩:=s2;cases z
     |str b=>obtain⟨t,z⟩:=s2;cases z
     |tup b=>obtain⟨_,_,_,z,_⟩:=s2;cases z
     |lst b=>obtain⟨_,_,_,z,_⟩:=s2;cases z
    |bl a=>
     cases s1;cases y with
     |non=>cases s2
     |bl b=>cases s2;cases h;simp
     |int b=>obtain⟨t,z⟩:=s2;cases z
     |str b=>obtain⟨t,z⟩:=s2;cases z
     |tup b=>obtain⟨_,_,_,z,_⟩:=s2;cases z
     |lst b=>obtain⟨_,_,_,z,_⟩:=s2;cases z
    |int a=>
     obtain⟨t',rfl⟩:=s1;cases y with
     |non=>cases s2
     |bl b=>cases s2
     |int b=>obtain⟨t,z⟩:=s2;cases z;cases h;simp
     |str b=>obtain⟨t,z⟩:=s2;cases z
     |tup b=>obtain⟨_,_,_,z,_⟩:=s2;cases z
     |lst b=>obtain⟨_,_,_,z,_⟩:=s2;cases z
    |str a=>
     obtain⟨t',rfl⟩:=s1;cases y with
     |non=>cases s2
     |bl b=>cases s2
     |int b=>obtain⟨t,z⟩:=s2;cases z
     |str b=>obtain⟨t,z⟩:=s2;cases z;cases h;simp
     |tup b=>obtain⟨_,_,_,z,_⟩:=s2;cases z
     |lst b=>obtain⟨_,_,_,z,_⟩:=s2;cases z
    |tup a=>
     obtain⟨a1,its1,vs1,rfl,p1,q1,r1⟩:=s1;cases y with
     |non=>cases s2
     |bl b=>cases s2
     |int b=>obtain⟨t,z⟩:=s2;cases z
     |str b=>obtain⟨t,z⟩:=s2;cases z
     |tup b=>
      obtain⟨a2,its2,vs2,z,p2,q2,r2⟩:=s2;cases z
      have hi:its1=its2:=by
       obtain⟨o,ho,_,n,hd⟩:=p1;obtain⟨o',ho',_,n',hd'⟩:=p2;rw[ho]at ho';cases ho';rw[hd]at hd';injection hd' with z _
       simpa using congrArg Array.toList z
      subst hi;obtain⟨rfl,hl⟩:=len r1 q1 r2 q2;replace h:(allO (List.zipWith (eqF S n) a b)).map (· &&a.length==b.length)=some k:=h;obtain⟨k1,e3,e4⟩:=Yl.mp h;rw[←e4,lists a b vs1 k1 r1 r2 e3,hl];simp
     |lst b=>obtain⟨a2,its2,vs2,z,p2,q2,r2⟩:=s2;cases z;obtain⟨o,ho,c,n,hd⟩:=p1;obtain⟨o',ho',c',n',hd'⟩:=p2;rw[ho]at ho';cases ho';rw[c]at c';exact absurd c' (by decide)
    |lst a=>
     obtain⟨a1,its1,vs1,rfl,p1,q1,r1⟩:=s1;cases y with
     |non=>cases s2
     |bl b=>cases s2
     |int b=>obtain⟨t,z⟩:=s2;cases z
     |str b=>obtain⟨t,z⟩:=s2;cases z
     |tup b=>obtain⟨a2,its2,vs2,z,p2,q2,r2⟩:=s2;cases z;obtain⟨o,ho,c,n,hd⟩:=p1;obtain⟨o',ho',c',n',hd'⟩:=p2;rw[ho]at ho';cases ho';rw[c]at c';exact absurd c' (by decide)
     |lst b=>
      obtain⟨a2,its2,vs2,z,p2,q2,r2⟩:=s2;cases z
      have hi:its1=its2:=by
       obtain⟨o,ho,_,n,hd⟩:=p1;obtain⟨o',ho',_,n',hd'⟩:=p2;rw[ho]at ho';cases ho';rw[hd]at hd';injection hd' with z _
       simpa using congrArg Array.toList z
      subst hi;obtain⟨rfl,hl⟩:=len r1 q1 r2 q2;replace h:(if a.length=b.length then allO (List.zipWith (eqF S n) a b)else some false)=some k:=h;rw[if_pos hl]at h;exact lists a b vs1 k r1 r2 h
theorem rcF(I:Inv X pq σ H s)(sk:SOk X.K ⟨X.mg,F⟩ μ S H):∀(n:Nat) (A:Around),A.units+n<cLine→∀d e v w u z k,Rep X.K ⟨X.mg,F⟩ μ H d v→RelV v u→Rep X.K ⟨X.mg,F⟩ μ H e w→RelV w z→eqF S n d e=some k→
  RcAt A s u z k∧RcNeAt A s u z (!k)∧EqAt A s u z k:=by
 intro n
 induction n with
 |zero=>intro A _ d e v w u z k _ _ _ _ h;cases h
 |succ n ih=>
  intro A hA d e v w u z k rd ru re rz h;have self:=λ(hv:v=w)=>b3R' I sk (n+1) d e v k rd (hv▸re) h;unfold eqF at h;cases e1:sh S d with
  |none=>rw[e1]at h;cases h
  |some x=>
   cases e2:sh S e with
   |none=>rw[e1,e2]at h;cases h
   |some y=>
    rw[e1,e2]at h;replace h:eqS (eqF S n) x y=some k:=h;have s1:=shIs I sk rd ru e1;have s2:=shIs I sk re rz e2;have hin:A.in1.units=A.units+1:=rfl;have F:Items A.in1 s (eqF S n) X.K ⟨X.mg,F⟩ μ H:=λd e v w u z k a b c d' h=>(ih A.in1 (by omega) d e v w u z k a b c d' h).2.2;obtain⟨c1,c2⟩:=rcS F (by omega) s1 s2 h;refine⟨c1,c2,?_⟩
    have refs:∀{l b:Addr},u=.ref l→z=.ref b→EqAt A s u z k:=λ{l b} eu ez=>by
     subst eu;subst ez;by_cases hl:l=b
     ·subst hl
      have hv:v=w:=by
       cases v<;>first| (cases ru;done)|skip
       all_goals first| (obtain⟨_,q⟩:=ru;cases q;done)|skip
       cases w<;>first| (cases rz;done)|skip
       all_goals first| (obtain⟨_,q⟩:=rz;cases q;done)|skip
       cases ru;cases rz;rfl
      rw[self hv];exact EqAt.same _
     ·exact .of_refs hl c1
    have hu:A.units<cLine:=by omega
    cases x with
    |non=>
     cases s1;cases y with
     |non=>cases s2;cases h;exact EqAt.same _
     |bl b=>cases s2;cases h;exact EqAt.none_bool b
     |int b=>obtain⟨t,rfl⟩:=s2;cases h;exact EqAt.none_int b t
     |str b=>obtain⟨t,rfl⟩:=s2;cases h;exact EqAt.none_str b t
     |tup b=>obtain⟨a,its,vs,rfl,p,_⟩:=s2;cases h;exact EqAt.none_tuple p hu
     |lst b=>obtain⟨a,its,vs,rfl,p,_⟩:=s2;cases h;exact EqAt.none_list p hu
    |bl a=>
     cases s1;cases y with
     |non=>cases s2;cases h;exact EqAt.bool_none a
     |bl b=>cases s2;cases h;exact EqAt.bool_bool a b
     |int b=>obtain⟨t,rfl⟩:=s2;cases h;exact EqAt.bool_int a b t
     |str b=>obtain⟨t,rfl⟩:=s2;cases h;exact EqAt.bool_str a b t
     |tup b=>obtain⟨_,its,vs,rfl,p,_⟩:=s2;cases h;exact EqAt.bool_tuple a p hu
     |lst b=>obtain⟨_,its,vs,rfl,p,_⟩:=s2;cases h;exact EqAt.bool_list a p hu
    |int a=>
     obtain⟨t',rfl⟩:=s1;cases y with
     |non=>cases s2;cases h;exact EqAt.int_none a t'
     |bl b=>cases s2;cases h;exact EqAt.int_bool a t' b
     |int b=>obtain⟨t,rfl⟩:=s2;cases h;exact EqAt.int_int a t' b t
     |str b=>obtain⟨t,rfl⟩:=s2;cases h;exact EqAt.int_str a t' b t
     |tup b=>obtain⟨_,its,vs,rfl,p,_⟩:=s2;cases h;exact EqAt.int_tuple a t' p hu
     |lst b=>obtain⟨_,its,vs,rfl,p,_⟩:=s2;cases h;exact EqAt.int_list a t' p hu
    |str a=>
     obtain⟨t',rfl⟩:=s1;cases y with
     |non=>cases s2;cases h;exact EqAt.str_none a t'
     |bl b=>cases s2;cases h;exact EqAt.str_bool a t' b
     |int b=>obtain⟨t,rfl⟩:=s2;cases h;exact EqAt.str_int a t' b t
     |str b=>obtain⟨t,rfl⟩:=s2;cases h;exact EqAt.str_str a t' b t
     |tup b=>obtain⟨_,its,vs,rfl,p,_⟩:=s2;cases h;exact EqAt.str_tuple a t' p hu
     |lst b=>obtain⟨_,its,vs,rfl,p,_⟩:=s2;cases h;exact EqAt.str_list a t' p hu
    |tup a=>
     obtain⟨a1,its1,vs1,rfl,p1,_⟩:=s1;cases y with
     |non=>cases s2;cases h;exact EqAt.tuple_none p1 hu
     |bl b=>cases s2;cases h;exact EqAt.tuple_bool b p1 hu
     |int b=>obtain⟨t,rfl⟩:=s2;cases h;exact EqAt.tuple_int b t p1 hu
     |str b=>obtain⟨t,rfl⟩:=s2;cases h;exact EqAt.tuple_str b t p1 hu
     |tup b=>obtain⟨_,its,vs,rfl,p,_⟩:=s2;exact refs rfl rfl
     |lst b=>obtain⟨_,its,vs,rfl,p,_⟩:=s2;exact refs rfl rfl
    |lst a=>
     obtain⟨a1,its1,vs1,rfl,p1,_⟩:=s1;cases y with
     |non=>cases s2;cases h;exact EqAt.list_none p1 hu
     |bl b=>cases s2;cases h;exact EqAt.list_bool b p1 hu
     |int b=>obtain⟨t,rfl⟩:=s2;cases h;exact EqAt.list_int b t p1 hu
     |str b=>obtain⟨t,rfl⟩:=s2;cases h;exact EqAt.list_str b t p1 hu
     |tup b=>obtain⟨_,its,vs,rfl,p,_⟩:=s2;exact refs rfl rfl
     |lst b=>obtain⟨_,its,vs,rfl,p,_⟩:=s2;exact refs rfl rfl
end
noncomputable def ltL(eq lt:D→D→Option Bool):List D→List D→Option Bool
 | [],[]=>some false
 | [],_::_=>some true
 |_::_,[]=>some false
 |a::as,b::bs=>match eq a b with
  |some true=>ltL eq lt as bs
  |some false=>lt a b
  |none=>none
noncomputable def ltF(S:Store):Nat→D→D→Option Bool
 |0,_,_=>none
 |n+1,.int a,.int b=>some (decide (a<b))
 |n+1,.tup a,.tup b=>ltL (eqF S n) (ltF S n) a b
 |_,_,_=>none
open PySem.SeqAt
def LtAt(A:Around)(s:Shared)(y x:Value)(b:Bool):Prop:=
 ∀(prog:Program) (w:World) (E:Vs) (Q:Vs),Q (.bool b) s→wpAny (model prog w) A (richCompare .Lt y x) Q E s
inductive LexAt (A:Around)(s:Shared):Lv→Lv→Bool→Prop where
 |nn:LexAt A s [] [] false
 |nc {w ws}:LexAt A s [] (w::ws) true
 |cn {v vs}:LexAt A s (v::vs) [] false
 |eq {v w vs ws k}:EqAt A s v w true→LexAt A s vs ws k→LexAt A s (v::vs) (w::ws) k
 |lt {v w vs ws k}:EqAt A s v w false→LtAt A s v w k→LexAt A s (v::vs) (w::ws) k
section
open PySem.AutoSeq1 (wpAny_loadPart')
open PySem.MeetsSeq PySem.MeetsSeq2 PySem.MeetsSeq3
theorem a6E'(l b:Addr)(items items2:Av)(n n2:Nat)(dd dd2:Option Addr)(sl sl2:Array (Ov))(k:Bool):
  Meets (Builtin.«tuple.__lt__» ⟨[.ref l,.ref b],[]⟩)
   (λA R s=>s.heap.get? l=some {cls:=.type "tuple",dict:=dd,data:=.seq items n,slots:=sl}∧s.heap.get? b=some {cls:=.type "tuple",dict:=dd2,data:=.seq items2 n2,slots:=sl2}∧
    LexAt A.in1 s items.toList items2.toList k∧R (.ok (.ret (.bool k))) s):=
 .of_wp λprog w A R s h=>by
  obtain⟨hp,g,d,tk,os⟩:=s;obtain⟨hl,hb,hx,h⟩:=h;have f2:=AutoSeq1.sub_tuple_tuple
  wp_walk using wpAny_loadPart' hl,wpAny_loadPart' hb,wpAny_forIn_list _ (λrest b s'=>b.1=none∧s'=⟨hp,g,d,tk,os⟩∧∃(vs ws:Lv),rest=vs.zip ws∧
   LexAt A.in1 ⟨hp,g,d,tk,os⟩ vs ws k∧vs.length+items2.size=ws.length+items.size∧R (.ok (.ret (.bool k))) ⟨hp,g,d,tk,os⟩) _
  case turn=>
   rintro⟨y,x⟩ rest b s' ⟨hb',rfl,vs,ws,hz,hvi,hlen,hR⟩;cases hvi with
   |nn=>rw[List.zip_nil_left]at hz;cases hz
   |nc=>rw[List.zip_nil_left]at hz;cases hz
   |cn=>rw[List.zip_nil_right]at hz;cases hz
   |eq he hr=>
    rw[List.zip_cons_cons]at hz;injection hz with hyx hrest
    injection hyx with hy hx
    subst hy hx;simp only[Zw]at hlen;refine Za (he prog w _ _ ?_)
    wp_walk
    exact⟨rfl,rfl,_,_,hrest,hr,by omega,hR⟩
   |lt he hr=>
    rw[List.zip_cons_cons]at hz;injection hz with hyx hrest
    injection hyx with hy hx
    subst hy hx;refine Za (he prog w _ _ ?_);have hri:=λ(E:Vs) (Q:Vs)=>hr prog w E Q
    wp_walk using hri
    exact⟨_,rfl,by simpa using hR⟩
  case fin=>
   rintro⟨b1,b2⟩ s' ⟨hb',rfl,vs,ws,hz,hvi,hlen,hR⟩;simp only at hb';subst hb'
   have hv:k=decide (items.size<items2.size):=by
    cases hvi with
    |nn=>simp only[List.length_nil]at hlen;exact(ZO (by omega)).symm
    |nc=>simp only[List.length_nil,Zw]at hlen;exact(ZR (by omega)).symm
    |cn=>simp only[List.length_nil,Zw]at hlen;exact(ZO (by omega)).symm
    |eq he hr=>rw[List.zip_cons_cons]at hz;cases hz
    |lt he hr=>rw[List.zip_cons_cons]at hz;cases hz
   rw[hv]at hR
   wp_walk
   exact⟨_,rfl,by simpa[Builtin.Tuple.tupleCompareSizes]using hR⟩
  case h=>exact⟨rfl,rfl,items.toList,items2.toList,rfl,hx,by simp;omega,h⟩
end
theorem LtAt.tuples{l b:Addr}{vs ws:Lv}{k:Bool}(hl:s.heap.IsTuple l vs.toArray)(hb:s.heap.IsTuple b ws.toArray)(hu:A.units<cLine)(hx:LexAt A.in1 s vs ws k):LtAt A s (.ref l) (.ref b) k:=λprog w E Q h=>by
 obtain⟨⟨cls,dd,data,sl⟩,ho,hc,n,hd⟩:=id hl;obtain⟨⟨cls2,dd2,data2,sl2⟩,ho2,hc2,n2,hd2⟩:=id hb;simp only at hc hd hc2 hd2;subst hc hd hc2 hd2
 exact richCompare_meets_room (op:=.Lt) ⟨_,ho,rfl⟩ ⟨_,ho2,rfl⟩ PySem.F.slot_tuple_lt PySem.F.entry_tuple_lt (PySem.F.args_tuple_lt_2 _ _) (a6E' l b vs.toArray ws.toArray n n2 dd dd2 sl sl2 k)
  ⟨ho,ho2,by simpa using hx,show Value.bool k≠Value.notImplemented∧Q (.bool k) s from⟨(λx=>nomatch x),h⟩⟩ hu
def LeAt(A:Around)(s:Shared)(y x:Value)(b:Bool):Prop:=
 ∀(prog:Program) (w:World) (E:Vs) (Q:Vs),Q (.bool b) s→wpAny (model prog w) A (richCompare .LtE y x) Q E s
inductive LexLe (A:Around)(s:Shared):Lv→Lv→Bool→Prop where
 |nl {ws}:LexLe A s [] ws true
 |cn {v vs}:LexLe A s (v::vs) [] false
 |eq {v w vs ws k}:EqAt A s v w true→LexLe A s vs ws k→LexLe A s (v::vs) (w::ws) k
 |le {v w vs ws k}:EqAt A s v w false→LeAt A s v w k→LexLe A s (v::vs) (w::ws) k
section
open PySem.AutoSeq1 (wpAny_loadPart')
open PySem.MeetsSeq PySem.MeetsSeq2 PySem.MeetsSeq3
theorem b0x'(l b:Addr)(xs ys:Av)(n n2:Nat)(dd dd2:Option Addr)(sl sl2:Array (Ov))(k:Bool):
  Meets (Builtin.«tuple.__le__» ⟨[.ref l,.ref b],[]⟩)
   (λA R s=>s.heap.get? l=some {cls:=.type "tuple",dict:=dd,data:=.seq xs n,slots:=sl}∧s.heap.get? b=some {cls:=.type "tuple",dict:=dd2,data:=.seq ys n2,slots:=sl2}∧
    LexLe A.in1 s xs.toList ys.toList k∧R (.ok (.ret (.bool k))) s):=
 .of_wp λprog w A R s h=>by
  obtain⟨hp,g,d,tk,os⟩:=s;obtain⟨hl,hb,hx,h⟩:=h;have f2:=AutoSeq1.sub_tuple_tuple
  wp_walk using wpAny_loadPart' hl,wpAny_loadPart' hb,wpAny_forIn_list _ (λrest b s'=>b.1=none∧s'=⟨hp,g,d,tk,os⟩∧∃(vs ws:Lv),rest=vs.zip ws∧
   LexLe A.in1 ⟨hp,g,d,tk,os⟩ vs ws k∧vs.length+ys.size=ws.length+xs.size∧R (.ok (.ret (.bool k))) ⟨hp,g,d,tk,os⟩) _
  case turn=>
   rintro⟨y,x⟩ rest b s' ⟨hb',rfl,vs,ws,hz,hvi,hlen,hR⟩;cases hvi with
   |nl=>rw[List.zip_nil_left]at hz;cases hz
   |cn=>rw[List.zip_nil_right]at hz;cases hz
   |eq he hr=>
    rw[List.zip_cons_cons]at hz;injection hz with hyx hrest
    injection hyx with hy hx
    subst hy hx;simp only[Zw]at hlen;refine Za (he prog w _ _ ?_)
    wp_walk
    exact⟨rfl,rfl,_,_,hrest,hr,by omega,hR⟩
   |le he hr=>
    rw[List.zip_cons_cons]at hz;injection hz with hyx hrest
    injection hyx with hy hx
    subst hy hx;refine Za (he prog w _ _ ?_);have hri:=λ(E:Vs) (Q:Vs)=>hr prog w E Q
    wp_walk using hri
    exact⟨_,rfl,by simpa using hR⟩
  case fin=>
   rintro⟨b1,b2⟩ s' ⟨hb',rfl,vs,ws,hz,hvi,hlen,hR⟩;simp only at hb';subst hb'
   have hv:k=decide (xs.size≤ys.size):=by
    cases hvi with
    |nl=>simp only[List.length_nil]at hlen;exact(ZR (by omega)).symm
    |cn=>simp only[List.length_nil,Zw]at hlen;exact(ZO (by omega)).symm
    |eq he hr=>rw[List.zip_cons_cons]at hz;cases hz
    |le he hr=>rw[List.zip_cons_cons]at hz;cases hz
   rw[hv]at hR
   wp_walk
   exact⟨_,rfl,by simpa[Builtin.Tuple.tupleCompareSizes]using hR⟩
  case h=>exact⟨rfl,rfl,xs.toList,ys.toList,rfl,hx,by simp;omega,h⟩
end
theorem b2N'{l b:Addr}{vs ws:Lv}{k:Bool}(hl:s.heap.IsTuple l vs.toArray)(hb:s.heap.IsTuple b ws.toArray)(hu:A.units<cLine)(hx:LexLe A.in1 s vs ws k):LeAt A s (.ref l) (.ref b) k:=λprog w E Q h=>by
 obtain⟨⟨cls,dd,data,sl⟩,ho,hc,n,hd⟩:=id hl;obtain⟨⟨cls2,dd2,data2,sl2⟩,ho2,hc2,n2,hd2⟩:=id hb;simp only at hc hd hc2 hd2;subst hc hd hc2 hd2
 exact richCompare_meets_room (op:=.LtE) ⟨_,ho,rfl⟩ ⟨_,ho2,rfl⟩ PySem.F.slot_tuple_le PySem.F.entry_tuple_le (PySem.F.args_tuple_le_2 _ _) (b0x' l b vs.toArray ws.toArray n n2 dd dd2 sl sl2 k)
  ⟨ho,ho2,by simpa using hx,show Value.bool k≠Value.notImplemented∧Q (.bool k) s from⟨(λx=>nomatch x),h⟩⟩ hu
noncomputable def leI:List D→List D→Option Bool
 | [],_=>some true
 |_::_,[]=>some false
 | .int a::as,.int b::bs=>if a=b then leI as bs else some (decide (a≤b))
 |_::_,_::_=>none
theorem leI_at{K:Fg}{mg:GS}{μ:La}{H:Hp}{A:Around}{s:Shared}:∀(ds es:List D) (vs ws:List V) (us zs:Lv) (k:Bool),RepL K mg μ H ds vs→Vals vs us→RepL K mg μ H es ws→Vals ws zs→leI ds es=some k→LexLe A s us zs k
 | [],es,vs,ws,us,zs,k,r1,q1,r2,q2,h=>by
  unfold RepL at r1;subst r1;have:=q1.zero;subst this
  cases h;exact .nl
 |d::ds,[],vs,ws,us,zs,k,r1,q1,r2,q2,h=>by
  obtain⟨v,vs,rfl,a1,b1⟩:=r1.uncons;unfold RepL at r2;subst r2;have:=q2.zero;subst this
  cases q1;have h':some false=some k:=by cases d<;>exact h
  cases h';exact .cn
 |d::ds,e::es,vs,ws,us,zs,k,r1,q1,r2,q2,h=>by
  obtain⟨v,vs,rfl,a1,b1⟩:=r1.uncons;obtain⟨w,ws,rfl,a2,b2⟩:=r2.uncons;cases d with
  |int a=>cases e with
   |int b=>
    have:=a0b' a1;have:=a0b' a2;subst v w
    cases q1 with
    |cons c1 d1=>cases q2 with
     |cons c2 d2=>
      obtain⟨t,rfl⟩:=c1;obtain⟨t',rfl⟩:=c2;have h':(if a=b then leI ds es else some (decide (a≤b)))=some k:=h;have he:=EqAt.int_int (A:=A) (s:=s) a t b t';by_cases hab:a=b
      ·rw[if_pos hab]at h';have e1:(a==b)=true:=by simpa using hab
       rw[e1]at he;exact .eq he (leI_at ds es vs ws _ _ k b1 d1 b2 d2 h')
      ·rw[if_neg hab]at h';have e1:(a==b)=false:=by simpa using hab
       rw[e1]at he;cases h';exact .le he λprog w E Q hq=>(PyProof.Rows.le_int hq:wpAny (model prog w) A (compareOp .LtE (.int _ t) (.int _ t')) Q E s)
   |_=>cases h
  |_=>
   have h':(none:Option Bool)=some k:=by cases e<;>exact h
   cases h'
theorem ltF_at(I:Inv X pq σ H s)(sk:SOk X.K ⟨X.mg,F⟩ μ S H):∀(n:Nat) (A:Around),A.units+n<cLine→∀d e v w u z k,Rep X.K ⟨X.mg,F⟩ μ H d v→RelV v u→Rep X.K ⟨X.mg,F⟩ μ H e w→RelV w z→ltF S n d e=some k→LtAt A s u z k:=by
 intro n
 induction n with
 |zero=>intro A _ d e v w u z k _ _ _ _ h;cases h
 |succ n ih=>
  intro A hA d e v w u z k rd ru re rz h;have hin:A.in1.units=A.units+1:=rfl
  have lex:∀(ds es:List D) (vs ws:List V) (us zs:Lv),RepL X.K ⟨X.mg,F⟩ μ H ds vs→Vals vs us→RepL X.K ⟨X.mg,F⟩ μ H es ws→Vals ws zs→ltL (eqF S n) (ltF S n) ds es=some k→LexAt A.in1 s us zs k:=by
   intro ds
   induction ds with
   |nil=>
    intro es vs ws us zs r1 q1 r2 q2 h;unfold RepL at r1;subst r1;have:=q1.zero;subst this
    cases es with
    |nil=>unfold RepL at r2;subst r2;have:=q2.zero;subst this;cases h;exact .nn
    |cons e es=>obtain⟨w,ws,rfl,_,_⟩:=r2.uncons;cases q2;cases h;exact .nc
   |cons d ds ihl=>
    intro es vs ws us zs r1 q1 r2 q2 h;obtain⟨v,vs,rfl,a1,b1⟩:=r1.uncons;cases q1 with
    |cons c1 d1=>
     cases es with
     |nil=>unfold RepL at r2;subst r2;have:=q2.zero;subst this;cases h;exact .cn
     |cons e es=>
      obtain⟨w,ws,rfl,a2,b2⟩:=r2.uncons;cases q2 with
      |cons c2 d2=>
       unfold ltL at h;split at h
       ·rename_i he;exact .eq (rcF I sk n A.in1 (by omega) d e v w _ _ true a1 c1 a2 c2 he).2.2 (ihl es vs ws _ _ b1 d1 b2 d2 h)
       ·rename_i he;exact .lt (rcF I sk n A.in1 (by omega) d e v w _ _ false a1 c1 a2 c2 he).2.2 (ih A.in1 (by omega) d e v w _ _ k a1 c1 a2 c2 h)
       ·cases h
  unfold ltF at h;split at h
  ·rename_i h0;cases h0
  ·have:=a0b' rd;have:=a0b' re;subst v w
   obtain⟨t,rfl⟩:=ru;obtain⟨t',rfl⟩:=rz;cases h;exact λprog w E Q hq=>(PyProof.Rows.lt_int hq:wpAny (model prog w) A (compareOp .Lt (.int _ t) (.int _ t')) Q E s)
  ·rename_i n' ds es heq;cases heq;obtain⟨a,vs,rfl,h1,r1⟩:=a0I' rd;obtain⟨b,ws,rfl,h2,r2⟩:=a0I' re;cases ru;cases rz;obtain⟨us,q1,p1,_⟩:=I.tuple h1;obtain⟨zs,q2,p2,_⟩:=I.tuple h2;exact LtAt.tuples p1 p2 (by omega) (lex ds es vs ws us zs r1 q1 r2 q2 h)
  ·cases h
def deep:Nat:=40
def isNon:D→Bool
 | .non=>true
 |_=>false
noncomputable def boolR(o:Option Bool)(S:Store):Res D:=match o with
 |some k=>.ok (.bl k) S
 |none=>.fail
noncomputable def anyO(l:List (Option Bool)):Option Bool:=(allO (l.map λo=>o.map not)).map not
noncomputable def inD(d e:D)(S:Store):Option Bool:=match seqOf S e with
 |some xs=>anyO (xs.map λy=>eqF S deep y d)
 |none=>none
noncomputable def leD(d e:D)(S:Store):Res D:=match d,e with
 | .int i,.int j=>.ok (.bl (decide (i≤j))) S
 | .tup a,.tup b=>boolR (leI a b) S
 |_,_=>.fail
noncomputable def gtD(d e:D)(S:Store):Res D:=match d,e with
 | .int i,.int j=>.ok (.bl (decide (j<i))) S
 |_,_=>.fail
noncomputable def geD(d e:D)(S:Store):Res D:=match d,e with
 | .int i,.int j=>.ok (.bl (decide (j≤i))) S
 |_,_=>.fail
noncomputable def isD(d e:D)(S:Store):Res D:=match e with
 | .non=>.ok (.bl (isNon d)) S
 |_=>.fail
noncomputable def b4T'(d e:D)(S:Store):Res D:=match e with
 | .non=>.ok (.bl (!isNon d)) S
 |_=>.fail
noncomputable def cmpD(op:CmpOp)(d e:D)(S:Store):Res D:=match op with
 | .Eq=>boolR (eqF S deep d e) S
 | .NotEq=>boolR ((eqF S deep d e).map not) S
 | .Lt=>boolR (ltF S deep d e) S
 | .LtE=>leD d e S
 | .Gt=>gtD d e S
 | .GtE=>geD d e S
 | .In=>boolR (inD d e S) S
 | .NotIn=>boolR ((inD d e S).map not) S
 | .Is=>isD d e S
 | .IsNot=>b4T' d e S
theorem b3S'{mg:GS}(r:Rep K mg μ H d v):decide (v=.non)=isNon d:=by
 cases d with
 |non=>cases a4E' r;rfl
 |bl b=>cases a6D' r;rfl
 |int b=>cases a0b' r;rfl
 |str b=>cases a3Z' r;rfl
 |tup b=>obtain⟨a,vs,rfl,_⟩:=a0I' r;rfl
 |lst b=>unfold Rep at r;obtain⟨a,vs,rfl,_⟩:=r;rfl
 |ref b=>unfold Rep at r;obtain⟨a,rfl,_⟩:=r;rfl
 |scr b=>unfold Rep at r;obtain⟨a,vs,rfl,_⟩:=r;rfl
 |fn b=>unfold Rep at r;obtain⟨a,rfl,_⟩:=r;rfl
 |dct=>unfold Rep at r;obtain⟨a,rfl,_⟩:=r;rfl
 |ty n=>unfold Rep at r;cases r;rfl
theorem a1h'{mg:GS}{Q:VK}{o:Option Bool}(w:Want K mg μ H Q (boolR o S))(sk:SOk K mg μ S H):∃k,o=some k∧Q (.bl k) H:=by
 cases o with
 |none=>exact w.elim
 |some k=>exact⟨k,rfl,w.now sk repBl⟩
theorem a8w'{l:List (Option Bool)}{k:Bool}(h:anyO l=some k):(∀o∈l,o.isSome=true)∧k=l.any (λo=>o==some true):=by
 unfold anyO at h;obtain⟨k1,e1,e2⟩:=Yl.mp h;subst e2;clear h
 induction l generalizing k1 with
 |nil=>cases e1;exact⟨by simp,rfl⟩
 |cons o r ih=>
  rw[ZE]at e1;unfold allO at e1;split at e1
  ·rename_i b c e3 e4;cases e1;obtain⟨h1,h2⟩:=ih c e4;obtain⟨b',rfl,e5⟩:=Yl.mp e3;subst e5;refine⟨λo ho=>?_,?_⟩
   ·rcases Zj.mp ho with rfl|ho
    ·rfl
    ·exact h1 o ho
   ·rw[List.any_cons,←h2];cases b'<;>cases c<;>rfl
  ·cases e1
theorem in_at(I:Inv X pq σ H s)(sk:SOk X.K ⟨X.mg,F⟩ μ S H)(hu:A.units+64<cLine){e:D}{w:V}{k:Bool}(rd:Rep X.K ⟨X.mg,F⟩ μ H d v)(ru:RelV v u)(re:Rep X.K ⟨X.mg,F⟩ μ H e w)(rz:RelV w z)
  (h:inD d e S=some k):∃(a:Addr) (its:Lv) (f:Value→Bool),z=.ref a∧(s.heap.IsList a its.toArray∨s.heap.IsTuple a its.toArray)∧(∀y∈its.toArray,EqAt A.in1 s y u (f y))∧its.toArray.any f=k:=by
 unfold inD at h;split at h
 ·rename_i xs e1;obtain⟨a,vs,rfl,hq,r⟩:=a3Y' sk re e1;cases rz
  obtain⟨its,q,hp⟩:∃its,Vals vs its∧(s.heap.IsList a its.toArray∨s.heap.IsTuple a its.toArray):=by
   rcases hq with hq|hq
   ·obtain⟨its,q,p,_⟩:=I.list hq;exact⟨its,q,.inl p.isList⟩
   ·obtain⟨its,q,p,_⟩:=I.tuple hq;exact⟨its,q,.inr p⟩
  have hin:A.in1.units=A.units+1:=rfl;have hd:deep=40:=rfl;obtain⟨h1,h2⟩:=a8w' h
  classical
  have at_:∀(j:Nat) (x:D) (y:Value),xs[j]?=some x→its[j]?=some y→∀b,eqF S deep x d=some b→EqAt A.in1 s y u b:=λj x y hx hy b hb=>by obtain⟨v',h3,h4⟩:=r.get hx;obtain⟨y',h5,h6⟩:=q.get h3;rw[hy]at h5;cases h5;exact(rcF I sk deep A.in1 (by omega) x d v' v _ u b h4 h6 rd ru hb).2.2
  have len:xs.length=its.length:=r.length.trans q.length;refine⟨a,its,λy=>decide (∃(j:Nat) (x:D),its[j]?=some y∧xs[j]?=some x∧eqF S deep x d=some true),rfl,hp,λy hy=>?_,?_⟩
  ·obtain⟨j,hj,ej⟩:=ZX.mp (show y∈its by simpa using hy);have hy':its[j]?=some y:=by rw[Ze hj,ej]
   have hx':xs[j]?=some (xs[j]'(by omega)):=Ze _;by_cases hc:∃(j:Nat) (x:D),its[j]?=some y∧xs[j]?=some x∧eqF S deep x d=some true
   ·obtain⟨j',x',c1,c2,c3⟩:=id hc;show EqAt A.in1 s y u (decide (∃(j:Nat) (x:D),its[j]?=some y∧xs[j]?=some x∧eqF S deep x d=some true));rw[ZR hc];exact at_ j' x' y c2 c1 true c3
   ·show EqAt A.in1 s y u (decide (∃(j:Nat) (x:D),its[j]?=some y∧xs[j]?=some x∧eqF S deep x d=some true));rw[ZO hc];obtain⟨b,hb⟩:=Option.isSome_iff_exists.mp (h1 (eqF S deep (xs[j]'(by omega)) d) (Zy.mpr ⟨_,ZI hx',rfl⟩));cases b with
    |false=>exact at_ j _ y hx' hy' false hb
    |true=>exact absurd ⟨j,_,hy',hx',hb⟩ hc
  ·rw[h2];apply Bool.eq_iff_iff.mpr;rw[List.any_toArray,List.any_eq_true,List.any_eq_true];constructor
   ·rintro⟨y,hy,hd⟩;obtain⟨j,x,c1,c2,c3⟩:=of_decide_eq_true hd;exact⟨some true,Zy.mpr ⟨x,ZI c2,c3⟩,rfl⟩
   ·rintro⟨o,ho,hd⟩;obtain⟨x,hx,rfl⟩:=Zy.mp ho;obtain⟨j,hj,ej⟩:=ZX.mp hx;have hx':xs[j]?=some x:=by rw[Ze hj,ej]
    have hy':its[j]?=some (its[j]'(by omega)):=Ze _;exact⟨_,ZI hy',ZR ⟨j,x,hy',hx',by simpa using hd⟩⟩
 ·cases h
theorem cmp_D(op:CmpOp)(hu:X.A.units+64<cLine):OpR X (compareOp op) (rD X.K X.mg (cmpD op)):=by
 intro pq s σ H x y v u Q I rx ry h;obtain⟨F,μ,S,d,e,sk,rd,re,w⟩:=h;have hd:deep=40:=rfl;have fin:∀{k:Bool},Q (.bl k) H→EP X pq σ Q (.bool k) s:=λ{k} q=>⟨.bl k,H,I,rfl,q⟩;cases op with
 |Eq=>obtain⟨k,e1,q⟩:=a1h' (o:=eqF S deep d e) w sk;exact(rcF I sk deep X.A (by omega) d e x y v u k rd rx re ry e1).1 X.prog X.w _ _ (fin q)
 |NotEq=>obtain⟨k,e1,q⟩:=a1h' (o:=(eqF S deep d e).map not) w sk;obtain⟨k',e2,rfl⟩:=Yl.mp e1;exact(rcF I sk deep X.A (by omega) d e x y v u k' rd rx re ry e2).2.1 X.prog X.w _ _ (fin q)
 |Lt=>obtain⟨k,e1,q⟩:=a1h' (o:=ltF S deep d e) w sk;exact ltF_at I sk deep X.A (by omega) d e x y v u k rd rx re ry e1 X.prog X.w _ _ (fin q)
 |LtE=>
  replace w:Want X.K ⟨X.mg,F⟩ μ H Q (leD d e S):=w;unfold leD at w;split at w
  ·have:=a0b' rd;have:=a0b' re;subst x y
   exact op_le pq s σ H _ _ v u Q I rx ry ⟨_,_,rfl,rfl,w.now sk repBl⟩
  ·rename_i as bs;obtain⟨k,e1,q⟩:=a1h' (o:=leI as bs) w sk;obtain⟨a,vs,rfl,h1,r1⟩:=a0I' rd;obtain⟨b,ws,rfl,h2,r2⟩:=a0I' re;cases rx;cases ry;obtain⟨us,q1,p1,_⟩:=I.tuple h1;obtain⟨zs,q2,p2,_⟩:=I.tuple h2;exact b2N' p1 p2 (by omega) (leI_at as bs vs ws us zs k r1 q1 r2 q2 e1) X.prog X.w _ _ (fin q)
  ·exact w.elim
 |Gt=>
  replace w:Want X.K ⟨X.mg,F⟩ μ H Q (gtD d e S):=w;unfold gtD at w;split at w
  ·have:=a0b' rd;have:=a0b' re;subst x y
   exact op_gt pq s σ H _ _ v u Q I rx ry ⟨_,_,rfl,rfl,w.now sk repBl⟩
  ·exact w.elim
 |GtE=>
  replace w:Want X.K ⟨X.mg,F⟩ μ H Q (geD d e S):=w;unfold geD at w;split at w
  ·have:=a0b' rd;have:=a0b' re;subst x y
   exact op_ge pq s σ H _ _ v u Q I rx ry ⟨_,_,rfl,rfl,w.now sk repBl⟩
  ·exact w.elim
 |In=>
  obtain⟨k,e1,q⟩:=a1h' (o:=inD d e S) w sk;obtain⟨a,its,f,rfl,hp,hf,rfl⟩:=in_at I sk (A:=X.A) hu rd rx re ry e1;rcases hp with hp|hp
  ·exact in_listAt f hp hf (fin q)
  ·exact in_tupleAt f hp hf (fin q)
 |NotIn=>
  obtain⟨k,e1,q⟩:=a1h' (o:=(inD d e S).map not) w sk;obtain⟨k',e2,rfl⟩:=Yl.mp e1;obtain⟨a,its,f,rfl,hp,hf,rfl⟩:=in_at I sk (A:=X.A) hu rd rx re ry e2;rcases hp with hp|hp
  ·exact notIn_listAt f hp hf (fin q)
  ·exact notIn_tupleAt f hp hf (fin q)
 |Is=>
  replace w:Want X.K ⟨X.mg,F⟩ μ H Q (isD d e S):=w;unfold isD at w;split at w
  ·cases a4E' re;exact op_isN pq s σ H _ _ v u Q I rx ry ⟨rfl,by rw[b3S' rd];exact w.now sk repBl⟩
  ·exact w.elim
 |IsNot=>
  replace w:Want X.K ⟨X.mg,F⟩ μ H Q (b4T' d e S):=w;unfold b4T' at w;split at w
  ·cases a4E' re;exact op_notN pq s σ H _ _ v u Q I rx ry ⟨rfl,by rw[b3S' rd];exact w.now sk repBl⟩
  ·exact w.elim
end Py
namespace Py
def rC(K:Fg)(mg:Mg)(g:List D→Store→Res D):List V→Hp→VK→Prop:=λxs H Q=>∃F μ S ds,SOk K ⟨mg,F⟩ μ S H∧RepL K ⟨mg,F⟩ μ H ds xs∧Want K ⟨mg,F⟩ μ H Q (g ds S)
theorem RepL.one{mg:GS}{vs:List V}(r:RepL K mg μ H [d] vs):∃v,vs=[v]∧Rep K mg μ H d v:=by obtain⟨v,ws,rfl,h,t⟩:=r.uncons;unfold RepL at t;subst t;exact⟨v,rfl,h⟩
theorem RepL.two{mg:GS}{e:D}{vs:List V}(r:RepL K mg μ H [d,e] vs):∃v w,vs=[v,w]∧Rep K mg μ H d v∧Rep K mg μ H e w:=by obtain⟨v,ws,rfl,h,t⟩:=r.uncons;obtain⟨w,rfl,h2⟩:=t.one;exact⟨v,w,rfl,h,h2⟩
theorem atI_rep{mg:GS}{vs:List V}{i:Int}(r:RepL K mg μ H ds vs)(h:atI ds i=some d):∃v,atI vs i=some v∧Rep K mg μ H d v:=by
 unfold atI at h⊢;rw[←r.length];cases e:ixN ds.length i with
 |none=>rw[e]at h;cases h
 |some j=>rw[e]at h;exact r.get h
noncomputable def idxD(d e:D)(S:Store):Res D:=match seqOf S d,e with
 |some xs,.int i=>match atI xs i with
  |some y=>.ok y S
  |none=>.fail
 |_,_=>.fail
theorem ix_D:IxR X (rD X.K X.mg idxD):=by
 intro value slice pq s σ H x y v u Q I rx ry h hsub;obtain⟨F,μ,S,d,e,sk,rd,re,w⟩:=h;unfold idxD at w;split at w
 ·rename_i xs i e1;split at w
  ·rename_i y' e2;obtain⟨a,vs,rfl,hq,r⟩:=a3Y' sk rd e1;cases a0b' re;obtain⟨z,h1,h2⟩:=atI_rep r e2;rcases hq with hq|hq
   ·exact ix_list value slice pq s σ H _ _ v u Q I rx ry ⟨a,vs,i,z,rfl,rfl,hq,h1,w.now sk h2⟩ hsub
   ·exact ix_tup value slice pq s σ H _ _ v u Q I rx ry ⟨a,vs,i,z,rfl,rfl,hq,h1,w.now sk h2⟩ hsub
  ·exact w.elim
 ·exact w.elim
noncomputable def lenD(ds:List D)(S:Store):Res D:=match ds with
 | [.str x]=>if x.length≤big then .ok (.int x.length) S else .fail
 | [d]=>match seqOf S d with
  |some xs=>.ok (.int xs.length) S
  |none=>.fail
 |_=>.fail
theorem len_D:CallR X (.builtin "len") (rC X.K X.mg lenD):=by
 intro pq s σ H xs us Q I r h;obtain⟨F,μ,S,ds,sk,rd,w⟩:=h;have hb:=a9p';unfold lenD at w;split at w
 ·split at w
  ·obtain⟨v,rfl,hv⟩:=rd.one;cases a3Z' hv;exact a7E' pq s σ H _ us Q I r ⟨_,rfl,by omega,w.now sk a1l'⟩
  ·exact w.elim
 ·split at w
  ·rename_i xs' e;obtain⟨v,rfl,hv⟩:=rd.one;obtain⟨a,vs,rfl,hq,r2⟩:=a3Y' sk hv e;refine a7D' pq s σ H _ us Q I r ⟨a,vs,rfl,hq,?_⟩;rw[←r2.length];exact w.now sk a1l'
  ·exact w.elim
 ·exact w.elim
noncomputable def b0y'(ds:List D)(S:Store):Res D:=match ds with
 | [.tup xs]=>.ok (.tup xs) S
 | [d]=>match seqOf S d with
  |some xs=>.ok (.tup xs) S
  |none=>.fail
 |_=>.fail
theorem b0z'{mg:GS}(s:SOk K mg μ S H)(r:Rep K mg μ H d v)(e:seqOf S d=some xs)(hd:∀ys,d≠.tup ys):∃a vs,v=.ref a∧SqL K H a vs∧RepL K mg μ H xs vs:=by
 cases d with
 |lst ys=>obtain⟨a,vs,e1,h,q⟩:=a0V' s r (show a3i' S (.lst ys)=some xs from e);exact⟨a,vs,e1,.of h,q⟩
 |ref n=>obtain⟨a,vs,e1,h,q⟩:=a0V' s r (show a3i' S (.ref n)=some xs from e);exact⟨a,vs,e1,.of h,q⟩
 |tup ys=>exact absurd rfl (hd ys)
 |scr ys=>unfold seqOf at e;cases e;unfold Rep at r;obtain⟨a,vs,e,h,q⟩:=r;exact⟨a,vs,e,h.sq,q⟩
 |_=>cases e
theorem tuple_D:CallR X (.type "tuple") (rC X.K X.mg b0y'):=by
 intro pq s σ H xs us Q I r h;obtain⟨F,μ,S,ds,sk,rd,w⟩:=h;unfold b0y' at w;split at w
 ·obtain⟨v,rfl,hv⟩:=rd.one;obtain⟨a,vs,rfl,hq,r2⟩:=a0I' hv;exact a3X' pq s σ H _ us Q I r ⟨a,vs,rfl,.inr ⟨hq,w.now sk hv⟩⟩
 ·rename_i d hd;split at w
  ·rename_i xs' e;obtain⟨v,rfl,hv⟩:=rd.one;obtain⟨a,vs,rfl,hq,r2⟩:=b0z' sk hv e (λys z=>hd ys (by rw[z]));exact a3X' pq s σ H _ us Q I r ⟨a,vs,rfl,.inl ⟨hq,λp hp=>w.tup sk r2 p hp⟩⟩
  ·exact w.elim
 ·exact w.elim
noncomputable def listD(box:Bool)(ds:List D)(S:Store):Res D:=match ds with
 | [d]=>match seqOf S d with
  |some xs=>if box then .ok (.ref S.length) (S++[xs])else .ok (.lst xs) S
  |none=>.fail
 |_=>.fail
theorem list_D(box:Bool):CallR X (.type "list") (rC X.K X.mg (listD box)):=by
 intro pq s σ H xs us Q I r h;obtain⟨F,μ,S,ds,sk,rd,w⟩:=h;unfold listD at w;split at w
 ·split at w
  ·rename_i xs' e;obtain⟨v,rfl,hv⟩:=rd.one;obtain⟨a,vs,rfl,hq,r2⟩:=a3Y' sk hv e;refine a7F' pq s σ H _ us Q I r ⟨a,vs,rfl,hq,λp hp=>?_⟩;split at w
   ·exact w.box sk r2 p hp
   ·exact w.lst sk r2 p hp
  ·exact w.elim
 ·exact w.elim
noncomputable def intD(ds:List D)(S:Store):Res D:=match ds with
 | [.int i]=>.ok (.int i) S
 | [.bl b]=>.ok (.int (if b then 1 else 0)) S
 |_=>.fail
theorem int_D:CallR X (.type "int") (rC X.K X.mg intD):=by
 intro pq s σ H xs us Q I r h;obtain⟨F,μ,S,ds,sk,rd,w⟩:=h;unfold intD at w;split at w
 ·obtain⟨v,rfl,hv⟩:=rd.one;cases a0b' hv;exact a8n' pq s σ H _ us Q I r (.inl ⟨_,rfl,w.now sk a1l'⟩)
 ·obtain⟨v,rfl,hv⟩:=rd.one;cases a6D' hv;exact a8n' pq s σ H _ us Q I r (.inr ⟨_,rfl,w.now sk a1l'⟩)
 ·exact w.elim
noncomputable def minD(ds:List D)(S:Store):Res D:=match ds with
 | [.int i,.int j]=>.ok (.int (if j<i then j else i)) S
 |_=>.fail
noncomputable def maxD(ds:List D)(S:Store):Res D:=match ds with
 | [.int i,.int j]=>.ok (.int (if j>i then j else i)) S
 |_=>.fail
theorem min_D(hc:X.calm=true):CallR X (.builtin "min") (rC X.K X.mg minD):=by
 intro pq s σ H xs us Q I r h;obtain⟨F,μ,S,ds,sk,rd,w⟩:=h;unfold minD at w;split at w
 ·obtain⟨v,w',rfl,hv,hw⟩:=rd.two;cases a0b' hv;cases a0b' hw;exact b2I' hc pq s σ H _ us Q I r ⟨_,_,rfl,w.now sk a1l'⟩
 ·exact w.elim
theorem max_D(hc:X.calm=true):CallR X (.builtin "max") (rC X.K X.mg maxD):=by
 intro pq s σ H xs us Q I r h;obtain⟨F,μ,S,ds,sk,rd,w⟩:=h;unfold maxD at w;split at w
 ·obtain⟨v,w',rfl,hv,hw⟩:=rd.two;cases a0b' hv;cases a0b' hw;exact b2H' hc pq s σ H _ us Q I r ⟨_,_,rfl,w.now sk a1l'⟩
 ·exact w.elim
noncomputable def truD(S:Store):D→Option Bool
 | .non=>some false
 | .bl b=>some b
 | .int i=>some (i !=0)
 | .str x=>if x.length≤big then some ((x.length:Int) !=0)else none
 |d=>(seqOf S d).map λxs=> !xs.isEmpty
theorem tru_D{mg:GS}{k:Bool}(sk:SOk K mg μ S H)(r:Rep K mg μ H d v)(e:truD S d=some k):TruV K v H k:=by
 have hb:=a9p'
 have seq:∀(xs:List D),seqOf S d=some xs→k= !xs.isEmpty→TruV K v H k:=λxs e1 e2=>by
  obtain⟨a,vs,rfl,hq,q⟩:=a3Y' sk r e1;have hl:=q.length;have e3:xs.isEmpty=vs.isEmpty:=by cases xs<;>cases vs<;>simp at hl⊢
  rw[e3]at e2;rcases hq with hq|hq
  ·exact .inl ⟨vs,hq,e2⟩
  ·exact .inr (.inl ⟨vs,hq,e2⟩)
 have sq2:(seqOf S d).map (λxs=> !xs.isEmpty)=some k→TruV K v H k:=λh=>by obtain⟨xs,e1,e2⟩:=Yl.mp h;exact seq xs e1 e2.symm
 cases d with
 |non=>cases a4E' r;cases e;rfl
 |bl b=>cases a6D' r;cases e;rfl
 |int b=>cases a0b' r;cases e;rfl
 |str b=>
  cases a3Z' r;replace e:(if b.length≤big then some ((b.length:Int) !=0)else none)=some k:=e;split at e
  ·cases e;exact⟨by omega,rfl⟩
  ·cases e
 |tup b=>exact sq2 e
 |lst b=>exact sq2 e
 |ref b=>exact sq2 e
 |scr b=>exact sq2 e
 |fn b=>exact sq2 e
 |dct=>exact sq2 e
 |ty b=>exact sq2 e
noncomputable def cutL(xs:List D)(lo hi:Option Int):List D:=(xs.drop (HT.sIx xs.length 0 lo)).take (HT.sIx xs.length xs.length hi-HT.sIx xs.length 0 lo)
theorem b0A'{mg:GS}{vs:List V}{lo:Option Int}(r:RepL K mg μ H ds vs):RepL K mg μ H (cutL ds lo hi) (cutV vs lo hi):=by unfold cutL cutV;rw[r.length];exact(r.drop _).take _
noncomputable def slD(d:D)(lo hi:Option Int)(S:Store):Res D:=match d with
 | .tup xs=>.ok (.tup (cutL xs lo hi)) S
 |d=>match seqOf S d with
  |some xs=>.ok (.lst (cutL xs lo hi)) S
  |none=>.fail
def rSl(K:Fg)(mg:Mg):V→Option Int→Option Int→Hp→VK→Prop:=λx lo hi H Q=>∃F μ S d,SOk K ⟨mg,F⟩ μ S H∧Rep K ⟨mg,F⟩ μ H d x∧Want K ⟨mg,F⟩ μ H Q (slD d lo hi S)
theorem a3j'{lo:Option Int}(ht:IsTup s.heap t items)(hs:s.heap.IsSliceOf sl vl vu .none)(pl:IsPart vl lo)(pu:IsPart vu hi)
  (hw:HT.sIx items.size 0 lo=0∧HT.sIx items.size items.size hi=items.size) (h:Q (.ref t) s):wpAny (model prog w) A (getItem (.ref t) (.ref sl)) Q E s:=by
 obtain⟨os,hos,hcs,hds⟩:=id hs;have hTs:s.TypeIs (.ref sl) "slice":=⟨os,hos,hcs⟩;unfold getItem
 try with_reducible refine wpAny_holding ?_
 first|refine Za (Zf ?_)|skip
 refine Za (wpAny_sequenceKey ht.typeIs (by decide) ?_)
 refine Za (Yj (name:=Str.ofString "__getitem__") ht.typeIs PyProof.Rows.slot_tuple_getitem
  (Ye PyProof.Rows.slot_tuple_getitem ht.typeIs entry_tuple_getitem ?_ (args_tuple_getitem _ _)))
 show wpAny _ _ (Builtin.Tuple.tupleItemsOf (.ref t)>>=_) _ _ s;refine Za (tupleItemsOf_ ht ?_);refine Za (wpAny_typeOf hTs ?_);rw[if_pos (by decide)];refine Za (HT.a2l' hs pl pu ?_);have hyes:((((HT.sIx items.size 0 lo:Nat):Int)==0&&(1:Int)==1&&(HT.sIx items.size items.size hi-HT.sIx items.size 0 lo)==items.size)=true):=by rw[hw.1,hw.2];simp
 show wpAny _ _ (if(((HT.sIx items.size 0 lo:Nat):Int)==0&&(1:Int)==1&&(HT.sIx items.size items.size hi-HT.sIx items.size 0 lo)==items.size)=true then _ else _) _ _ s;rw[if_pos hyes];refine Za (m:=Builtin.Tuple.tupleIsExact (.ref t)) ?_;unfold Builtin.Tuple.tupleIsExact;refine Za (wpAny_typeOf ht.typeIs (Zf ?_));rw[if_pos (by decide)];exact Za (wpAny_rule (Zf ⟨_,rfl,Zf h⟩))
theorem sl_D:SlR X (rSl X.K X.mg):=by
 intro pq s σ H x v vl vu lo hi sl Q I rx hs pl pu h;obtain⟨F,μ,S,d,sk,rd,w⟩:=h;unfold slD at w;split at w
 ·rename_i xs;obtain⟨a,vs,rfl,hq,r⟩:=a0I' rd;have hl:=r.length;by_cases hc:HT.sIx vs.length 0 lo=0∧HT.sIx vs.length vs.length hi=vs.length
  ·cases rx;obtain⟨its,rv,ht,hz⟩:=I.tuple hq;have hlen:its.toArray.size=vs.length:=by rw[Zk];exact rv.length.symm
   refine⟨"tuple",_,PyProof.Rows.slot_tuple_getitem.lookup,ht.typeIs,?_⟩;refine a3j' ht hs pl pu (by rw[hlen];exact hc) ⟨.ref a,H,I,rfl,?_⟩;have e:cutL xs lo hi=xs:=by unfold cutL;rw[hl,hc.1,hc.2];simp[←hl]
   rw[e]at w;exact w.now sk rd
  ·exact sl_tup pq s σ H _ v vl vu lo hi sl Q I rx hs pl pu ⟨a,vs,rfl,hq,hc,λp hp=>w.tup sk (b0A' r) p hp⟩
 ·rename_i d hd;split at w
  ·rename_i xs e;obtain⟨a,vs,rfl,hq,r⟩:=b0z' sk rd e (λys z=>hd ys z);exact sl_list pq s σ H _ v vl vu lo hi sl Q I rx hs pl pu ⟨a,vs,rfl,hq,λp hp=>w.lst sk (b0A' r) p hp⟩
  ·exact w.elim
noncomputable def b2O'(S:Store):D→Option String
 | .non=>some "NoneType"
 | .bl _=>some "bool"
 | .int _=>some "int"
 | .str _=>some "str"
 | .tup _=>some "tuple"
 | .lst _=>some "list"
 | .ref n=>(S[n]?).map λ_=>"list"
 | .scr _=>some "list"
 | .dct=>some "dict"
 |_=>none
noncomputable def subTy(t c:String):Option Bool:=
 if ["NoneType","bool","int","str","tuple","list","dict"].contains t&&["bool","int","str","tuple","list","dict"].contains c then some (t==c||(t=="bool"&&c=="int"))else none
theorem kit_sub{t c:String}{b:Bool}(h:subTy t c=some b):PySem.W.kitOne K (.type t) (.type c)=some b:=by
 unfold subTy at h;split at h
 ·rename_i hc;rw[ZA]at hc;simp at hc;cases h;obtain⟨h1,h2⟩:=hc;rcases h1 with rfl|rfl|rfl|rfl|rfl|rfl|rfl<;>rcases h2 with rfl|rfl|rfl|rfl|rfl|rfl<;>first|rfl|decide+kernel
 ·cases h
noncomputable def a0M'(ds:List D)(S:Store):Res D:=match ds with
 | [d,.ty c]=>match b2O' S d with
  |some t=>boolR (subTy t c) S
  |none=>.fail
 |_=>.fail
theorem b4U':CallR X (.builtin "isinstance") (rC X.K X.mg a0M'):=by
 intro pq s σ H xs us Q I r h;obtain⟨F,μ,S,ds,sk,rd,w⟩:=h;unfold a0M' at w;split at w
 ·rename_i d c;split at w
  ·rename_i t et;obtain⟨b,eb,q⟩:=a1h' w sk;obtain⟨v,z,rfl,hv,hz⟩:=rd.two;have hz':z=.ty c:=by unfold Rep at hz;exact hz
   subst hz';obtain⟨u,y,rfl,ru,ry⟩:=r.two;cases ry;have e:=kit_sub (K:=X.K) eb;have fin:∀tk,EP X pq σ Q (.bool b) {s with toks:=tk}:=λtk=>⟨.bl b,H,I.tok _,rfl,q⟩
   have lst:∀a vs,v=.ref a→SqL X.K H a vs→t="list"→wpAny (model X.prog X.w) X.A (call (.builtin "isinstance") [u,.type c]) (EP X pq σ Q) X.xe s:=λa vs ev hq et=>by subst ev;subst et;cases ru;obtain⟨its,rv,pl,_⟩:=I.list hq;obtain⟨o,h1,h2,_⟩:=pl.isList;exact PySem.W.kia_one PySem.W.kitx_list I.kIn ⟨o,h1,h2⟩ e (λz=>nomatch z) fin
   cases d with
   |non=>cases a4E' hv;cases ru;cases et;exact PySem.W.kia_one PySem.W.kitx_none I.kIn True.intro e (λz=>nomatch z) fin
   |bl b=>cases a6D' hv;cases ru;cases et;exact PySem.W.kia_one PySem.W.kitx_bool I.kIn True.intro e (λz=>nomatch z) fin
   |int b=>cases a0b' hv;obtain⟨t,rfl⟩:=ru;cases et;exact PySem.W.kia_one PySem.W.kitx_int I.kIn True.intro e (λz=>nomatch z) fin
   |str b=>cases a3Z' hv;obtain⟨t,rfl⟩:=ru;cases et;exact PySem.W.kia_one PySem.W.kitx_str I.kIn True.intro e (λz=>nomatch z) fin
   |tup b=>obtain⟨a,vs,rfl,hq,_⟩:=a0I' hv;cases ru;cases et;obtain⟨its,rv,p,_⟩:=I.tuple hq;obtain⟨o,h1,h2,_⟩:=p;exact PySem.W.kia_one PySem.W.kitx_tuple I.kIn ⟨o,h1,h2⟩ e (λz=>nomatch z) fin
   |lst b=>obtain⟨a,vs,rfl,hq,_⟩:=a0V' sk hv rfl;cases et;exact lst a vs rfl (.of hq) rfl
   |ref n=>replace et:(S[n]?).map (λ_=>"list")=some t:=et;obtain⟨xs,e1,e2⟩:=Yl.mp et;obtain⟨a,vs,rfl,hq,_⟩:=a0V' sk hv e1;exact lst a vs rfl (.of hq) e2.symm
   |scr b=>unfold Rep at hv;obtain⟨a,vs,rfl,hq,_⟩:=hv;cases et;exact lst a vs rfl hq.sq rfl
   |dct=>unfold Rep at hv;obtain⟨a,rfl,ea⟩:=hv;cases ru;cases et;obtain⟨_,_,vs,_,p⟩:=(show ObjOk X.prog X.w H s.heap a (.dK [])from I.hok a _ ea);obtain⟨o,es,ep,h1,h2,_⟩:=p;exact PySem.W.kia_one PySem.W.kitx_dict I.kIn ⟨o,h1,h2.1⟩ e (λz=>nomatch z) fin
   |fn b=>cases et
   |ty b=>cases et
  ·exact w.elim
 ·exact w.elim
def asB:D→Option Bool
 | .bl b=>some b
 |_=>none
noncomputable def allD(ds:List D)(S:Store):Res D:=match ds with
 | [d]=>match seqOf S d with
  |some xs=>boolR (allO (xs.map asB)) S
  |none=>.fail
 |_=>.fail
noncomputable def anyD(ds:List D)(S:Store):Res D:=match ds with
 | [d]=>match seqOf S d with
  |some xs=>boolR (anyO (xs.map asB)) S
  |none=>.fail
 |_=>.fail
theorem b0B'{mg:GS}{vs:List V}(r:RepL K mg μ H xs vs)(q:Vals vs its)(h:∀(j:Nat) o,(xs.map asB)[j]?=some o→o=some (eJ (xs.map asB) j)):
  ∀(i:Nat) v,its.toArray[i]?=some v→v=.bool (eJ (xs.map asB) i):=λi v hv=>by
 have l1:=r.length;have l2:=q.length
 have hv':its[i]?=some v:=by simpa using hv
 have hi:i<its.length:=(Zl.mp hv').1;have hx:xs[i]?=some (xs[i]'(by omega)):=Ze _;obtain⟨w,h1,h2⟩:=r.get hx;obtain⟨u,h3,h4⟩:=q.get h1;rw[hv']at h3;cases h3;have h5:=h i (asB (xs[i]'(by omega))) (by rw[ZW,hx];rfl);revert h2 h5;generalize xs[i]'(by omega)=d;intro h2 h5;cases d with
 |bl b=>
  cases a6D' h2;have:b=eJ (xs.map asB) i:=by simpa[asB]using h5
  rw[←this];exact h4
 |_=>cases h5
theorem allany(hc:X.calm=true)(I:Inv X pq σ H s)(sk:SOk X.K ⟨X.mg,F⟩ μ S H)(rd:Rep X.K ⟨X.mg,F⟩ μ H d v)(ru:RelV v u)(e:seqOf S d=some xs)
  (h:∀(j:Nat) o,(xs.map asB)[j]?=some o→o=some (eJ (xs.map asB) j)) (b:Bool→Bool) {Q:VK} {fb:Nat→Bool} (q:Q (.bl (fb xs.length)) H):
  wpAny (model X.prog X.w) X.A.in1 (pyIter u) (λit s₂=>∃I fp wr n P St,it=.ref I∧Walks X.prog X.w X.A.in1 I fp wr n P St∧St 0 s₂.heap∧TruthOf X.prog X.w X.A.in1 P (eJ (xs.map asB))∧
   ∀h' tk,(∀b o,b∉wr→s₂.heap.get? b=some o→h'.get? b=some o)→EP X pq σ Q (.bool (fb n)) {s₂ with heap:=h',toks:=tk}) X.xe s:=by
 obtain⟨a,vs,rfl,hq,r⟩:=a3Y' sk rd e;cases ru;have hh:X.A.in1.handled=none:=I.ok.hd hc;rcases hq with hq|hq
 ·obtain⟨its,rv,p,hz⟩:=I.list hq;have ba:=b0B' r rv h;refine wpAny_pyIter_list p.isList ?_;have hne:a≠s.heap.objs.size:=by obtain⟨o,ho,_⟩:=p.isList;exact ZJ (Zr ho)
  refine⟨_,_,_,_,_,_,rfl,Walks.list hh s.heap.objs.size a hne its.toArray,⟨⟨_,Zo _ rfl,rfl,rfl⟩,Heap.IsList.push p.isList _⟩,?_,λh' tk kp=>?_⟩
  ·intro i v s' Q' E' hv hq';rw[ba i v hv];exact Yn hq'
  ·have hl:its.toArray.size=xs.length:=by rw[Zk,←rv.length,←r.length]
   rw[hl];refine⟨.bl _,H,I.kept (h':=h') (t':=tk) λb o ho=>kp b o ?_ (Zd _ ho),rfl,q⟩;intro z;have z':b=s.heap.objs.size:=by simpa using z
   exact absurd (Zr ho) (by rw[z'];exact Nat.lt_irrefl _)
 ·obtain⟨its,rv,p,hz⟩:=I.tuple hq;have ba:=b0B' r rv h;refine wpAny_pyIter_tuple (show s.heap.IsTuple a its.toArray from p) ?_;have hne:a≠s.heap.objs.size:=by obtain⟨o,ho,_⟩:=p;exact ZJ (Zr ho)
  refine⟨_,_,_,_,_,_,rfl,Walks.tuple hh s.heap.objs.size a hne its.toArray,⟨⟨_,Zo _ rfl,rfl,rfl⟩,by obtain⟨o,ho,r⟩:=p;exact⟨o,Zd _ ho,r⟩⟩,?_,λh' tk kp=>?_⟩
  ·intro i v s' Q' E' hv hq';rw[ba i v hv];exact Yn hq'
  ·have hl:its.toArray.size=xs.length:=by rw[Zk,←rv.length,←r.length]
   rw[hl];refine⟨.bl _,H,I.kept (h':=h') (t':=tk) λb o ho=>kp b o ?_ (Zd _ ho),rfl,q⟩;intro z;have z':b=s.heap.objs.size:=by simpa using z
   exact absurd (Zr ho) (by rw[z'];exact Nat.lt_irrefl _)
theorem all_D(hc:X.calm=true):CallR X (.builtin "all") (rC X.K X.mg allD):=by
 intro pq s σ H xs us Q I r h;obtain⟨F,μ,S,ds,sk,rd,w⟩:=h;unfold allD at w;split at w
 ·split at w
  ·rename_i d ys e;obtain⟨k,e1,q⟩:=a1h' w sk;obtain⟨v,rfl,hv⟩:=rd.one;obtain⟨u,rfl,ru⟩:=r.one;obtain⟨h1,h2⟩:=a4t' _ _ e1;have hw:=allany hc I sk hv ru e h1 id (Q:=Q) (fb:=λn=>(List.range n).all (eJ (ys.map asB))) (by rw[Zm]at h2;rw[←h2];exact q);exact call_all_walk (wpAny_mono hw (λit s₂ ⟨I0,fp,wr,n,P,Sx,a1,a2,a3,a4,a5⟩=>⟨I0,fp,wr,n,P,Sx,_,a1,a2,a3,a4,a5⟩) λ_ _ z=>z)
  ·exact w.elim
 ·exact w.elim
theorem any_D(hc:X.calm=true):CallR X (.builtin "any") (rC X.K X.mg anyD):=by
 intro pq s σ H xs us Q I r h;obtain⟨F,μ,S,ds,sk,rd,w⟩:=h;unfold anyD at w;split at w
 ·split at w
  ·rename_i d ys e;obtain⟨k,e1,q⟩:=a1h' w sk;obtain⟨v,rfl,hv⟩:=rd.one;obtain⟨u,rfl,ru⟩:=r.one;obtain⟨h1,h2⟩:=a8w' e1
   have h3:∀(j:Nat) o,(ys.map asB)[j]?=some o→o=some (eJ (ys.map asB) j):=λj o ho=>by
    have:=h1 o (ZI ho);cases o with
    |none=>cases this
    |some b=>simp[eJ,ho]
   have h4:k=(List.range ys.length).any (eJ (ys.map asB)):=by
    rw[h2];apply Bool.eq_iff_iff.mpr;rw[List.any_eq_true,List.any_eq_true];constructor
    ·rintro⟨o,ho,hd⟩;obtain⟨j,hj,ej⟩:=ZX.mp ho;have hj':(ys.map asB)[j]?=some o:=by rw[Ze hj,ej]
     have:o=some true:=by simpa using hd
     refine⟨j,by simpa using hj,?_⟩;have h5:=h3 j o hj';rw[this]at h5;exact(Z6 h5).symm
    ·rintro⟨j,hj,hd⟩;have hj2:j<(ys.map asB).length:=by simpa using hj
     have hj':(ys.map asB)[j]?=some ((ys.map asB)[j]):=Ze hj2;refine⟨_,ZY hj2,?_⟩;rw[h3 j _ hj',hd];rfl
   have hw:=allany hc I sk hv ru e h3 id (Q:=Q) (fb:=λn=>(List.range n).any (eJ (ys.map asB))) (by rw[←h4];exact q);exact call_any_walk (wpAny_mono hw (λit s₂ ⟨I0,fp,wr,n,P,Sx,a1,a2,a3,a4,a5⟩=>⟨I0,fp,wr,n,P,Sx,_,a1,a2,a3,a4,a5⟩) λ_ _ z=>z)
  ·exact w.elim
 ·exact w.elim
def rM(K:Fg)(mg:Mg)(g:D→List D→Store→Res D):V→List V→Hp→VK→Prop:=λx xs H Q=>∃F μ S d ds,SOk K ⟨mg,F⟩ μ S H∧Rep K ⟨mg,F⟩ μ H d x∧RepL K ⟨mg,F⟩ μ H ds xs∧Want K ⟨mg,F⟩ μ H Q (g d ds S)
theorem a8x'{mg:GS}(s:SOk K mg μ S H)(r:Rep K mg μ H (.ref n) v)(e:S[n]?=some xs):∃a vs,v=.ref a∧μ[n]?=some a∧H a=some (.lst vs)∧RepL K mg μ H xs vs:=by unfold Rep at r;obtain⟨a,rfl,h⟩:=r;obtain⟨vs,h1,q⟩:=s.at_ n a xs h e;exact⟨a,vs,rfl,h,h1,q⟩
noncomputable def a3k'(d:D)(ds:List D)(S:Store):Res D:=match d,ds with
 | .ref n,[y]=>match S[n]? with
  |some xs=>if xs.length<big then .ok .non (S.set n (xs++[y]))else .fail
  |none=>.fail
 |_,_=>.fail
theorem b4V':MtR X "list.append" (rM X.K X.mg a3k'):=by
 intro pq s σ H x xs v us Q I rx rs h;obtain⟨F,μ,S,d,ds,sk,rd,rds,w⟩:=h;have hb:=a9p';unfold a3k' at w;split at w
 ·split at w
  ·rename_i n y ys e;split at w
   ·obtain⟨a,vs,rfl,hn,ha,r⟩:=a8x' sk rd e;obtain⟨z,rfl,hz⟩:=rds.one;have hl:=r.length;exact a8u' pq s σ H _ _ v us Q I rx rs ⟨a,vs,z,rfl,rfl,ha,by omega,w.wrote sk hn ha (r.append (.cons hz .nil)) b0u'⟩
   ·exact w.elim
  ·exact w.elim
 ·exact w.elim
noncomputable def a4a'(d:D)(ds:List D)(S:Store):Res D:=match d,ds with
 | .ref n,[y]=>match S[n]?,a3i' S y with
  |some xs,some ys=>if xs.length+ys.length≤big then .ok .non (S.set n (xs++ys))else .fail
  |_,_=>.fail
 |_,_=>.fail
theorem b4W':MtR X "list.extend" (rM X.K X.mg a4a'):=by
 intro pq s σ H x xs v us Q I rx rs h;obtain⟨F,μ,S,d,ds,sk,rd,rds,w⟩:=h;have hb:=a9p';unfold a4a' at w;split at w
 ·split at w
  ·rename_i n y ys zs e e2;split at w
   ·obtain⟨a,vs,rfl,hn,ha,r⟩:=a8x' sk rd e;obtain⟨z,rfl,hz⟩:=rds.one;obtain⟨b,ws,rfl,hB,r2⟩:=a0V' sk hz e2;have hl:=r.length;have hl2:=r2.length;exact b2K' pq s σ H _ _ v us Q I rx rs ⟨a,b,vs,ws,rfl,rfl,ha,hB,by omega,w.wrote sk hn ha (r.append r2) b0u'⟩
   ·exact w.elim
  ·exact w.elim
 ·exact w.elim
theorem RepL.dropLast{mg:GS}{vs:List V}(r:RepL K mg μ H ds vs):RepL K mg μ H ds.dropLast vs.dropLast:=by rw[List.dropLast_eq_take,List.dropLast_eq_take,r.length];exact r.take _
noncomputable def popD(d:D)(ds:List D)(S:Store):Res D:=match d,ds with
 | .ref n,[]=>match S[n]? with
  |some xs=>match xs[xs.length-1]? with
   |some y=>.ok y (S.set n xs.dropLast)
   |none=>.fail
  |none=>.fail
 |_,_=>.fail
theorem pop_D:MtR X "list.pop" (rM X.K X.mg popD):=by
 intro pq s σ H x xs v us Q I rx rs h;obtain⟨F,μ,S,d,ds,sk,rd,rds,w⟩:=h;unfold popD at w;split at w
 ·split at w
  ·rename_i n ys e;split at w
   ·rename_i y e2;obtain⟨a,vs,rfl,hn,ha,r⟩:=a8x' sk rd e;unfold RepL at rds;subst rds;obtain⟨z,h1,h2⟩:=r.get e2;rw[r.length]at h1;exact mt_pop pq s σ H _ _ v us Q I rx rs ⟨a,vs,z,rfl,rfl,ha,h1,w.wrote sk hn ha r.dropLast h2⟩
   ·exact w.elim
  ·exact w.elim
 ·exact w.elim
noncomputable def clOf(env:Env):List (Str×NameKind)→List (Str×Addr)→List (Str×Addr)
 | [],cs=>cs
 | (n,k)::r,cs=>clOf env r (if k== .free then(match env.cells.lookup n with|some c=>(n,c)::cs|none=>cs)else cs)
theorem a6F'(h:∀x∈scope.names,x.2=.free→∃c,env.cells.lookup x.1=some c):closureFor scope env=pure (clOf env scope.names []):=by
 unfold closureFor
 have key:∀(l:List (Str×NameKind)) (cs:List (Str×Addr)),(∀x∈l,x.2=.free→∃c,env.cells.lookup x.1=some c)→
   (forIn l cs λx r=>(if(x.2==NameKind.free)=true then do let c ←cellOf env x.1;pure (ForInStep.yield ((x.1,c)::r))else pure (ForInStep.yield r):Sem _))=pure (clOf env l cs):=by
  intro l
  induction l with
  |nil=>intro cs _;rfl
  |cons x l ih=>
   intro cs hl;obtain⟨n,k⟩:=x;rw[List.forIn_cons];unfold clOf;by_cases hk:k=.free
   ·subst hk;obtain⟨c,hc⟩:=hl (n,.free) (by simp) rfl;have hc':cellOf env n=pure c:=by unfold cellOf;rw[hc]
    simp only[beq_self_eq_true,if_true,hc',hc];simp only[pure_bind];exact ih _ λy hy=>hl y (Zc _ hy)
   ·have hb:(k==NameKind.free)=false:=by simpa using hk
    simp only[hb,ZT,if_false,pure_bind];exact ih _ λy hy=>hl y (Zc _ hy)
 have:=key scope.names [] h
 first
  | (rw[←this];rfl)
  | (simp only[bind_pure];exact this)
  | (show(do let r ←_;pure r)=_;rw[bind_pure];exact this)
theorem a7G'{env:Env}:∀(l:List (Str×NameKind)) (cs:List (Str×Addr)),(∀p∈cs,env.cells.lookup p.1=some p.2)→∀p∈clOf env l cs,env.cells.lookup p.1=some p.2
 | [],cs,h,p,hp=>h p hp
 | (n,k)::r,cs,h,p,hp=>by
  unfold clOf at hp;refine a7G' r _ (λq hq=>?_) p hp;split at hq
  ·split at hq
   ·rename_i c hc;rcases Zj.mp hq with rfl|hq
    ·exact hc
    ·exact h q hq
   ·exact h q hq
  ·exact h q hq
theorem b0C'{env:Env}:∀(l:List (Str×NameKind)) (cs:List (Str×Addr)),∀p∈cs,p∈clOf env l cs
 | [],cs,p,hp=>hp
 | (n,k)::r,cs,p,hp=>by
  unfold clOf;refine b0C' r _ p ?_;split
  ·split
   ·exact Zc _ hp
   ·exact hp
  ·exact hp
theorem b0D'{env:Env}{x:Str}{c:Addr}(hc:env.cells.lookup x=some c):∀(l:List (Str×NameKind)) (cs:List (Str×Addr)),(x,NameKind.free)∈l→(x,c)∈clOf env l cs
 | [],cs,h=>by cases h
 | (n,k)::r,cs,h=>by
  unfold clOf;rcases Zj.mp h with e|h
  ·cases e;refine b0C' r _ _ ?_;simp only[beq_self_eq_true,if_true,hc];exact Zb
  ·exact b0D' hc r _ h
theorem a4b'{α:Type}{x:Str}{c:α}:∀{l:List (Str×α)},(x,c)∈l→∃d,l.lookup x=some d
 | [],h=>by cases h
 | (n,d)::r,h=>by
  rw[List.lookup_cons];cases e:x==n with
  |true=>exact⟨d,rfl⟩
  |false=>
   rcases Zj.mp h with e2|h
   ·cases e2;simp at e
   ·exact a4b' h
theorem a3l'{env:Env}:∀{names:List (Str×NameKind)} {x:Str} {k:NameKind},(names.map λ(n,k)=>if(k==NameKind.free&&env.scope.kind== .function&&env.kindOf n==some .cell)then(n,NameKind.cell)else(n,k)).lookup x=some k→
  ∃k',names.lookup x=some k'∧(k=k'∨(k'=.free∧k=.cell))
 | [],_,_,h=>by simp at h
 | (n,k0)::r,x,k,h=>by
  have ih:= @a3l' env r x k;rw[ZE]at h;rw[List.lookup_cons];by_cases hc:(k0==NameKind.free&&env.scope.kind== .function&&env.kindOf n==some .cell)=true
  ·simp only[hc,if_true,List.lookup_cons]at h;cases e:x==n with
   |true=>rw[e]at h;cases h;refine⟨k0,rfl,.inr ⟨?_,rfl⟩⟩;rw[ZA,ZA]at hc;exact eq_of_beq hc.1.1
   |false=>rw[e]at h;exact ih h
  ·simp only[hc,ZT,if_false,List.lookup_cons]at h;cases e:x==n with
   |true=>rw[e]at h;cases h;exact⟨k0,rfl,.inl rfl⟩
   |false=>rw[e]at h;exact ih h
theorem a1v'{env:Env}:∀{names:List (Str×NameKind)} {x:Str},names.lookup x=some .free→
  let m:=(names.map λ(n,k)=>if(k==NameKind.free&&env.scope.kind== .function&&env.kindOf n==some .cell)then(n,NameKind.cell)else(n,k))
  m.lookup x=some .cell∨m.lookup x=some .free
 | [],_,h=>by simp at h
 | (n,k0)::r,x,h=>by
  have ih:= @a1v' env r x;rw[List.lookup_cons]at h;dsimp only;rw[ZE];by_cases hc:(k0==NameKind.free&&env.scope.kind== .function&&env.kindOf n==some .cell)=true
  ·simp only[hc,if_true,List.lookup_cons];cases e:x==n with
   |true=>exact .inl rfl
   |false=>rw[e]at h;exact ih h
  ·simp only[hc,ZT,if_false,List.lookup_cons];cases e:x==n with
   |true=>rw[e]at h;cases h;exact .inr rfl
   |false=>rw[e]at h;exact ih h
theorem a3m':∀(names:List (Str×NameKind)) (n:Nat) (a b:List (Str×Addr)),cellsFrom n names (a++b)=cellsFrom n names a++b
 | [],_,_,_=>rfl
 | (x,k)::r,n,a,b=>by
  show(if(k==NameKind.cell)=true then cellsFrom (n+1) r ((x,n)::(a++b))else cellsFrom n r (a++b))=(if(k==NameKind.cell)=true then cellsFrom (n+1) r ((x,n)::a)else cellsFrom n r a)++b;split
  ·exact a3m' r (n+1) ((x,n)::a) b
  ·exact a3m' r n a b
theorem a5T'{x:Str}{c:Addr}:∀(names:List (Str×NameKind)) (n:Nat) (a:List (Str×Addr)),(x,c)∈cellsFrom n names a→(x,c)∈a∨(x,NameKind.cell)∈names
 | [],_,_,h=>.inl h
 | (y,k)::r,n,a,h=>by
  replace h:(x,c)∈(if(k==NameKind.cell)=true then cellsFrom (n+1) r ((y,n)::a)else cellsFrom n r a):=h;split at h
  ·rename_i hk;rcases a5T' r (n+1) _ h with h|h
   ·rcases Zj.mp h with h|h
    ·injection h with h _
     subst h;have:k=.cell:=by simpa using hk
     subst this;exact .inr Zb
    ·exact .inl h
   ·exact .inr (Zc _ h)
  ·rcases a5T' r n _ h with h|h
   ·exact .inl h
   ·exact .inr (Zc _ h)
theorem a7H'{M:Model}{A:Around}{E:Vs}:∀(names:List (Str×NameKind)) (cs:List (Str×Addr)) (s:Shared) (Q:List (Str×Addr)→Shared→Prop),Q (cellsFrom s.heap.objs.size names cs) {s with heap:=pushCells s.heap names}→
  wpAny M A (forIn names cs λx r=>match x with
   | (name,kind)=>if(kind==NameKind.cell)=true then do
     let c ←alloc {cls:=Value.type "cell",data:=Data.cell none}
     pure (ForInStep.yield ((name,c)::r))
    else pure (ForInStep.yield r)) Q E s
 | [],cs,s,Q,h=>by rw[List.forIn_nil];exact Zf h
 | (x,k)::r,cs,s,Q,h=>by
  rw[List.forIn_cons];have h:Q (if(k==NameKind.cell)=true then cellsFrom (s.heap.objs.size+1) r ((x,s.heap.objs.size)::cs)else cellsFrom s.heap.objs.size r cs) {s with heap:=if(k==NameKind.cell)=true then pushCells (s.heap.push {cls:=.type "cell",data:=.cell none}) r else pushCells s.heap r}:=h;cases hk:(k==NameKind.cell)with
  |true=>rw[hk,if_pos rfl,if_pos rfl]at h;refine Za ?_;show wpAny M A (if(k==NameKind.cell)=true then _ else _) _ _ _;rw[hk,if_pos rfl];refine Za (wpAny_alloc (Zf ?_));refine a7H' r _ {s with heap:=s.heap.push {cls:=.type "cell",data:=.cell none}} Q ?_;show Q (cellsFrom (s.heap.push {cls:=.type "cell",data:=.cell none}).objs.size r _) _;rw[Heap.size_push];exact h
  |false=>rw[hk,if_neg (by decide),if_neg (by decide)]at h;refine Za ?_;show wpAny M A (if(k==NameKind.cell)=true then _ else _) _ _ _;rw[hk,if_neg (by decide)];refine Zf ?_;exact a7H' r _ s Q h
theorem b2P'{M:Model}{A:Around}{E:Vs}{g:Addr}{cl:List (Str×Addr)}{q:Str}{out:Env}{bl:Addr}{Q:Env→Shared→Prop}
  (h:Q ⟨scope,s.heap.objs.size,g,cellsFrom (s.heap.objs.size+1) scope.names cl,q,none,out.code,out.frame,out.builtins⟩ {s with heap:=pushCells (s.heap.push {cls:=.type "dict",data:=.dict #[]}) scope.names}):
  wpAny M A (newFunctionEnv scope g cl [] q none .none (some out) bl) Q E s:=by
 unfold newFunctionEnv;refine Za (wpAny_alloc (Za (a7H' scope.names cl _ _ ?_)));show wpAny M A (forIn ([]:List (Str×Value)) PUnit.unit _>>=λ_=>pure _) _ _ _;rw[List.forIn_nil];refine Za (Zf (Zf ?_));have e:(s.heap.push {cls:=Value.type (if(some out).isSome=true then "dict" else "frame"),data:=Data.dict #[]}).objs.size=s.heap.objs.size+1:=Heap.size_push ..;show Q ⟨scope,s.heap.objs.size,g,cellsFrom (s.heap.push {cls:=Value.type (if(some out).isSome=true then "dict" else "frame"),data:=Data.dict #[]}).objs.size scope.names cl,q,none,out.code,out.frame,out.builtins⟩ _;rw[e];exact h
noncomputable def cxC(X:Cx)(scope:Scope)(N:Ls)(C:Addr)(s0:Shared)(H0:Hp)(fp:La):Cx:=
 {X with N:=N,s₀:=s0,H₀:=H0,env:=compEnvC scope (cellsFrom (C+1) scope.names (clOf X.env scope.names [])) C X.env,outer:=X.stack,stack:=X.stack,ex:=fp,fn:=λx=>scope.names.lookup x==some .cell,pn:=[],xe:=λ_ _=>False}
structure CScope (X:Cx)(scope:Scope):Prop where
 kind:scope.kind=.function
 cel:∀y∈scope.names,y.2=.cell→scope.names.lookup y.1=some .cell
 loc:∀y∈scope.names,y.2=.local→scope.names.lookup y.1=some .local
 free:∀y∈scope.names,y.2=.free→X.env.kindOf y.1=some .cell∨X.env.kindOf y.1=some .free
theorem fs_of(I:Inv X pq σ H s){b:Addr}(h1:b≠X.env.locals)(h2:b∉X.fs):b∉frs X.stack:=λz=>(Zj.mp (I.stkSub b z)).elim h1 h2
theorem a0W'{x:Str}{c:Addr}(h:(cellsFrom n scope.names (clOf X.env scope.names [])).lookup x=some c):(cellsFrom n scope.names []).lookup x=some c∨((cellsFrom n scope.names []).lookup x=none∧(clOf X.env scope.names []).lookup x=some c):=by
 have e:=a3m' scope.names n [] (clOf X.env scope.names []);rw[Z9]at e;rw[e,List.lookup_append]at h;cases z:(cellsFrom n scope.names []).lookup x with
 |some d=>rw[z]at h;exact .inl h
 |none=>rw[z]at h;exact .inr ⟨rfl,h⟩
theorem b2Q'{x:Str}{c:Addr}(h:(cellsFrom n scope.names []).lookup x=some c):(cellsFrom n scope.names (clOf X.env scope.names [])).lookup x=some c:=by have e:=a3m' scope.names n [] (clOf X.env scope.names []);rw[Z9]at e;rw[e,List.lookup_append,h];rfl
theorem b0E'{x:Str}{c:Addr}(h:(cellsFrom n scope.names []).lookup x=none)(h2:(clOf X.env scope.names []).lookup x=some c):(cellsFrom n scope.names (clOf X.env scope.names [])).lookup x=some c:=by have e:=a3m' scope.names n [] (clOf X.env scope.names []);rw[Z9]at e;rw[e,List.lookup_append,h];exact h2
theorem b4X'{m:Mg}{tk:Nat}(hc:X.calm=true)(I:Inv X pq σ H s)(sc:CScope X scope)(hf:∀b∈fp,FpOk X pq H b)(hfo:∀b∈fp,∃o,s.heap.get? b=some o)
  (hn:h1.Ns s.heap.objs.size m) (old:∀b o,s.heap.get? b=some o→h1.get? b=some o) (hcl:CellsOk h1 (s.heap.objs.size+1) (cellsFrom (s.heap.objs.size+1) scope.names [])) (hl:σ'.length=N.length)
  (hσ:∀(i:Nat) (v:V) (x:Str),N[i]?=some x→σ'[i]?=some (some v)→scope.names.lookup x=some .free∧∃j:Nat,X.N[j]?=some x∧σ[j]?=some (some v)):
  Inv (cxC X scope N s.heap.objs.size s H fp) (X.pn++pq) σ' H {s with heap:=h1,toks:=tk}:=by
 have lt:∀{b:Addr} {o:Obj},s.heap.get? b=some o→b≠s.heap.objs.size:=λe=>ZJ (Zr e);have cl1:∀x c,(clOf X.env scope.names []).lookup x=some c→X.env.cells.lookup x=some c:=λx c h=>a7G' scope.names [] (λ_ z=>nomatch z) (x,c) (ZV h);have cellLt:∀x c,X.env.cells.lookup x=some c→c<s.heap.objs.size:=λx c h=>by obtain⟨v,q⟩:=I.cell x c h;exact q.lt
 have ownC:∀x c,(cellsFrom (s.heap.objs.size+1) scope.names []).lookup x=some c→h1.IsCell c none∧s.heap.objs.size+1≤c:=λx c h=>hcl.empty x c (ZV h)
 have ownK:∀x c,(cellsFrom (s.heap.objs.size+1) scope.names []).lookup x=some c→scope.names.lookup x=some .cell:=λx c h=>by
  rcases a5T' scope.names _ _ (ZV h)with z|z
  ·cases z
  ·exact sc.cel _ z rfl
 have has:∀x,scope.names.lookup x=some .free→(cellsFrom (s.heap.objs.size+1) scope.names []).lookup x=none∧∃c,(clOf X.env scope.names []).lookup x=some c:=λx h=>by
  refine⟨?_,?_⟩
  ·cases z:(cellsFrom (s.heap.objs.size+1) scope.names []).lookup x with
   |none=>rfl
   |some c=>have:=ownK x c z;rw[h]at this;cases this
  ·have hm:=ZV h;obtain⟨c,hcc⟩:=I.ok.has x (sc.free _ hm rfl);exact a4b' (b0D' hcc scope.names [] hm)
 have kindC:∀x,((cxC X scope N s.heap.objs.size s H fp).env.kindOf x=some .cell∨(cxC X scope N s.heap.objs.size s H fp).env.kindOf x=some .free)→scope.names.lookup x=some .free∨scope.names.lookup x=some .cell:=λx h=>by
  have go:∀k,(k=NameKind.cell∨k=.free)→(relabel scope X.env).names.lookup x=some k→scope.names.lookup x=some .free∨scope.names.lookup x=some .cell:=λk hk h=>by
   obtain⟨k',h1,h2⟩:=a3l' h;rcases h2 with rfl| ⟨rfl,_⟩
   ·rcases hk with rfl|rfl
    ·exact .inr h1
    ·exact .inl h1
   ·exact .inl h1
  rcases h with h|h
  ·exact go _ (.inl rfl) h
  ·exact go _ (.inr rfl) h
 have apart:∀x y c,(cellsFrom (s.heap.objs.size+1) scope.names []).lookup x=some c→(cellsFrom (s.heap.objs.size+1) scope.names []).lookup y=some c→x=y:=λx y c h1 h2=>by
  have m1:=ZV h1;have m2:=ZV h2;have ap:=hcl.apart;generalize cellsFrom (s.heap.objs.size+1) scope.names []=l at m1 m2 ap
  induction l with
  |nil=>cases m1
  |cons p l ih=>
   obtain⟨a1,a2⟩:=ZM.mp ap;rcases Zj.mp m1 with rfl|n1
   ·rcases Zj.mp m2 with z|n2
    ·injection z with z _;exact z.symm
    ·exact(a1 (y,c) n2 rfl).elim
   ·rcases Zj.mp m2 with rfl|n2
    ·exact(a1 (x,c) n1 rfl).elim
    ·exact ih n1 n2 a2
 refine⟨⟨I.ok.mod,?_,I.ok.glob,I.ok.blt,Zi _,λx y c h1 h2=>?_,λx h=>?_,λx c h h2=>?_,I.ok.hd,I.ok.frames,.inl rfl,λb hb=>?_,I.bs,ZP I.ok.bsz I.sz,λb o e hb=>?_,λb hb=>?_,I.stack,I.stkFree⟩,
  rfl,I.bare,Un.kept old,⟨m,hn,λi x v e1 e2 e3=>?_⟩,λx c h=>?_,I.hok.fresh (Zi _),λx c h=>?_,λp hp=>?_,I.hok.kept old,hl⟩
 ·show(relabel scope X.env).kind=.function;unfold relabel;exact sc.kind
 ·rcases a0W' h1 with z| ⟨_,z⟩<;>rcases a0W' h2 with y'| ⟨_,y'⟩
  ·exact apart x y c z y'
  ·exact absurd (cellLt _ _ (cl1 _ _ y')) (Nat.not_lt.mpr (Nat.le_of_succ_le (ownC _ _ z).2))
  ·exact absurd (cellLt _ _ (cl1 _ _ z)) (Nat.not_lt.mpr (Nat.le_of_succ_le (ownC _ _ y').2))
  ·exact I.ok.inj x y c (cl1 x c z) (cl1 y c y')
 ·rcases kindC x h with h|h
  ·obtain⟨z,c,hc2⟩:=has x h;exact⟨c,b0E' z hc2⟩
  ·have:=PySem.W.cellsFrom_some (x:=x) scope.names (s.heap.objs.size+1) [] (.inl h);obtain⟨c,hc2⟩:=Option.isSome_iff_exists.mp this;exact⟨c,b2Q' hc2⟩
 ·have hk:scope.names.lookup x=some .cell:=by simpa[cxC]using h
  rcases a0W' h2 with z| ⟨z,_⟩
  ·exact Nat.le_of_succ_le (ownC _ _ z).2
  ·have:=PySem.W.cellsFrom_some (x:=x) scope.names (s.heap.objs.size+1) [] (.inl hk);rw[z]at this;cases this
 ·obtain⟨f0,f1,f2,f3,f4,f5⟩:=hf b hb;obtain⟨o,ho⟩:=hfo b hb;refine⟨lt ho,λx c h=>?_⟩;rcases a0W' h with z| ⟨_,z⟩
  ·exact λq=>absurd (Zr ho) (Nat.not_lt.mpr (q▸Nat.le_of_succ_le (ownC _ _ z).2))
  ·exact f4 x c (cl1 x c z)
 ·obtain⟨f0,f1,f2,f3,f4,f5⟩:=hf b hb;rcases f3 with f3|f3
  ·exact I.ok.noex b o e f3
  ·exact absurd (Zr (I.ok.bs b o e).1) (Nat.not_lt.mpr f3)
 ·obtain⟨f0,f1,f2,f3,f4,f5⟩:=hf b hb;exact fs_of I f1 f2
 ·obtain⟨g1,j,g2,g3⟩:=hσ i v x e1 e2;obtain⟨m0,_,l0⟩:=I.loc
  have hv:Vis X.env.scope x:=by
   rcases sc.free _ (ZV g1) rfl with q|q
   ·exact .inr (.inl q)
   ·exact .inr (.inr q)
  obtain⟨u,r,q⟩:=l0 j x v g2 g3 hv;refine⟨u,r,.inr ⟨a1v' g1,?_⟩⟩;obtain⟨z,c,hcl⟩:=has x g1;have hcc:=cl1 x c hcl;refine⟨c,b0E' z hcl,?_⟩;have kx:=sc.free _ (ZV g1) rfl;rcases q with⟨q,_⟩| ⟨_,c',q1,q2⟩
  ·rcases kx with kx|kx
   ·rw[q]at kx;cases kx
   ·rw[q]at kx;cases kx
  ·rw[hcc]at q1;cases q1;obtain⟨o,ho,hd⟩:=q2;exact⟨o,old _ _ ho,hd⟩
 ·rcases a0W' h with z| ⟨_,z⟩
  ·exact⟨none,(ownC _ _ z).1⟩
  ·obtain⟨v,o,ho,hd⟩:=I.cell x c (cl1 x c z);exact⟨v,o,old _ _ ho,hd⟩
 ·rcases a0W' h with z| ⟨_,z⟩
  ·exact I.hok.fresh (Nat.le_of_succ_le (ownC _ _ z).2)
  ·exact I.freeC x c (cl1 x c z)
 ·have hp':p∈X.pn++pq:=by simpa[cxC]using hp
  obtain⟨e,n,ne,nf,d⟩:=I.pin p hp';exact⟨old _ _ e,n,lt e,fs_of I ne nf,d⟩
theorem b4Y'{C:Addr}(I:Inv X pq σ H s)(hf:∀b∈fp,FpOk X pq H b)(hC:C=s.heap.objs.size)(J:Inv (cxC X scope N C s H fp) pins' σ' H' s')(hs:Heap.SameBut C s'.heap h'):
  Inv X pq σ H' {s' with heap:=h'}:=by
 have ne:∀{b:Addr} {o:Obj},s.heap.get? b=some o→b≠C:=λe=>by rw[hC];exact ZJ (Zr e)
 have B:Un (frs X.stack) fp H H' s.heap s'.heap:=J.base
 have u:Un (frs X.stack) fp H H' s.heap h':=
  ⟨λb o e n hb he=>(hs.2 b (ne e)).trans (B.keep b o e n hb he),λb o e n hb he=>by obtain⟨sl,q⟩:=B.slot b o e n hb he;exact⟨sl,(hs.2 b (ne e)).trans q⟩,B.free,
   λb o e he=>by obtain⟨o',q⟩:=B.there b o e he;exact⟨o',(hs.2 b (ne e)).trans q⟩,B.tups,B.frzs,B.tbls⟩
 have hfree:H' C=none:=J.free
 have hok:HOk X.prog X.w H' h':=λb ob e=>by
  refine(J.hok b ob e).stay (λc w' hc q=>(hs.2 c ?_).trans q) (λ_ q=>q) λ_ _ q=>q;rintro rfl;rcases hc with rfl|hc
  ·rw[hfree]at e;cases e
  ·rw[hfree]at hc;cases hc
 exact I.call' (s':={s' with heap:=h'}) (ch:=fp) J.os u hok J.bare λb hb=>by obtain⟨f0,f1,f2,f3,f4,f5⟩:=hf b hb;exact⟨f3,f1,f4,f5⟩
def PB(X:Cx)(body:Sem Unit)(t:L2.St→Hp→(L2.St→Hp→Prop)→Prop):Prop:=
 ∀(pq:Lp) (s:Shared) (σ:L2.St) (H:Hp) (Q:L2.St→Hp→Prop),Inv X pq σ H s→t σ H Q→wpAny (model X.prog X.w) X.A body (λ_ s'=>∃σ' H',Inv X pq σ' H' s'∧Q σ' H') X.xe s
theorem noteF{M:Model}{m:Sem α}{Q:α→Shared→Prop}(hx:X.xe=λ_ _=>False)(h:wpAny M A m Q X.xe s):wpAny M A m Q E s:=by rw[hx]at h;exact wpAny_mono h (λ_ _ q=>q) λ_ _ z=>z.elim
theorem a8y'{epos:Pos}{d:Nat}{acc:Value}{p:Pos}{body:Sem Unit}{g:TG}{R:Result→Shared→Prop}{Fin:L2.St→Hp→Prop}
  (hx:X.xe=λ_ _=>False) (hc:X.calm=true)
  (heq:compTurn (.ListComp elt gens scope epos) d (.ref it) acc X.env=(standAt p>>=λ_=>pyNext (.ref it)>>=λr=>match r with
   |none=>pure (.done .next)
   |some v=>letOwnedTupleGo tg (.ref it) v>>=λ_=>assign tg X.env v>>=λ_=>body>>=λ_=>again (.compLoop (.ListComp elt gens scope epos) d (.ref it) acc X.env)))
  (T:Turn X.prog X.w X.K tg J fp it tn) (hg:PG X tg g) (hb:PB X body tb) (I:Inv X pq σ H s) (st:tn 0 s.heap) (hf:∀b∈fp,FpOk X pq H b)
  (W:∃W:Nat→Nat→L2.St→Hp→Prop,(∃m,W 0 m σ H)∧∀i m σ H,W i m σ H→
   (J.stop i H∧Fin σ H)∨(J.go i H∧∃Nx:L2.St→Hp→Prop,(∀σ' H',Nx σ' H'→∃m',m'<m∧W (i+1) m' σ' H')∧∀x H',J.yld i H x H'→g x σ H' λσ2 H2=>tb σ2 H2 Nx))
  (hR:∀s' σ' H',Inv X pq σ' H' s'→(∀b∈fp,H' b=none)→Fin σ' H'→R (.ok .next) s'):codeAny (model X.prog X.w) X.A (.compLoop (.ListComp elt gens scope epos) d (.ref it) acc X.env) R s:=by
 obtain⟨W,⟨m0,w0⟩,turn⟩:=W;have stat:∀{H':Hp},(∀b∈fp,H' b=none)→∀b∈fp,FpOk X pq H' b:=λhn b hb=>⟨hn b hb,(hf b hb).2⟩;refine codeAny_loop rfl (λn s'=>∃i σ' H',Inv X pq σ' H' s'∧tn i s'.heap∧(∀b∈fp,H' b=none)∧W i n σ' H') ?_ m0 ⟨0,σ,H,I,st,λb hb=>(hf b hb).1,w0⟩;rintro n s3 ⟨i,σ3,H3,I3,st3,fr3,w3⟩;show wpAny _ X.A ((compTurn (.ListComp elt gens scope epos) d (.ref it) acc X.env).onRaise (λx=>do noteFrame x X.env;theTreesLotGoes x)) _ _ s3;refine wpAny_noted ?_;rw[heq];refine Za (wpAny_standAt ?_);rcases turn i n σ3 H3 w3 with⟨stop,qn⟩| ⟨go,Nx,hN,step⟩
 ·refine Za (noteF hx (thn (T.done X rfl rfl rfl hc i pq s3 σ3 H3 X.xe I3 (stat fr3) st3 stop) λr s4 ⟨hr,I4⟩=>?_));subst hr;exact Zf (hR s4 σ3 H3 I4 fr3 qn)
 ·refine Za (noteF hx (thn (T.item X rfl rfl rfl hc i pq s3 σ3 H3 X.xe I3 (stat fr3) st3 go) λr s4 ⟨u,hr,h4⟩=>?_));subst hr;refine Za (noteF hx (thn h4 λ_ s5 ⟨x,H5,I5,r5,y5,st5,fr5⟩=>?_));have I5':=I5.pinned (stat fr5) (T.obj _ _ st5);refine Za (noteF hx (thn (hg _ s5 σ3 H5 x u _ I5' r5 (step x H5 y5)) λ_ s6 ⟨σ6,H6,I6,q6⟩=>?_));refine Za (noteF hx (thn (hb _ s6 σ6 H6 _ I6 q6) λ_ s7 ⟨σ7,H7,I7,n7⟩=>?_));refine Zf ?_;obtain⟨m',hm,w7⟩:=hN σ7 H7 n7;refine⟨rfl,m',hm,i+1,σ7,H7,I7.unpinned,T.keep _ _ _ st5 λb hb o e=>(I7.pin (b,o) (Zz _ (Zz _ (a3h' hb e)))).1,λb hb=>?_,w7⟩;obtain⟨o,e,d⟩:=T.obj _ _ st5 b hb;exact(I7.pin (b,o) (Zz _ (Zz _ (a3h' hb e)))).2.1
abbrev TU:=L2.St→Hp→(L2.St→Hp→Prop)→Prop
noncomputable def b2R':List TT→(L2.St→Hp→(Bool→Hp→Prop)→Prop)
 | []=>λ_ H Q=>Q true H
 |t::r=>λσ H Q=>t σ H λb H1=>if b=true then b2R' r σ H1 Q else Q false H1
def PTs(X:Cx):Lx→List TT→Prop
 | [],[]=>True
 |e::es,t::ts=>PT X e t∧PTs X es ts
 |_,_=>False
theorem a5w'{M:Model}{A:Around}{E:Vs}{env:Env}{Q:Bool→Shared→Prop}{s:Shared}:∀(ifs:Lx),Q false s→
  wpAny M A (forIn ifs false λc r=>if r=true then do let ok ←isTrue c env (eval c env);pure (ForInStep.yield ok)else pure (ForInStep.yield r)) Q E s
 | [],h=>Zf h
 |c::r,h=>by rw[List.forIn_cons];simp only[ZT,if_false];exact Za (Zf (a5w' r h))
theorem b0F':∀(ifs:Lx) (ts:List TT),PTs X ifs ts→∀(pq:Lp) (s:Shared) (σ:L2.St) (H:Hp) (Q:Bool→Hp→Prop),Inv X pq σ H s→b2R' ts σ H Q→
  wpAny (model X.prog X.w) X.A (forIn ifs true λc r=>if r=true then do let ok ←isTrue c X.env (eval c X.env);pure (ForInStep.yield ok)else pure (ForInStep.yield r)) (TP X pq σ Q) X.xe s
 | [],[],_,pq,s,σ,H,Q,I,h=>Zf ⟨H,I,h⟩
 |e::es,t::ts,p,pq,s,σ,H,Q,I,h=>by
  rw[List.forIn_cons];simp only[if_true];refine Za (Za (thn (p.1 pq s σ H _ I h) λb s1 ⟨H1,I1,q1⟩=>Zf ?_));cases b with
  |true=>rw[if_pos rfl]at q1;exact b0F' es ts p.2 pq s1 σ H1 Q I1 q1
  |false=>rw[if_neg (by decide)]at q1;exact a5w' es ⟨H1,I1,q1⟩
 | [],_::_,p,_,_,_,_,_,_,_=>p.elim
 |_::_,[],p,_,_,_,_,_,_,_=>p.elim
noncomputable def tEmit(acc:Addr)(te:TE):TU:=λσ H Q=>te σ H λv H1=>∃ys,H1 acc=some (.lst ys)∧ys.length<sizeLine∧Q σ (upd H1 acc (.lst (ys++[v])))
noncomputable def tWhen(ts:List TT)(t:TU):TU:=λσ H Q=>b2R' ts σ H λb H1=>if b=true then t σ H1 Q else Q σ H1
noncomputable def tInner(wi:TI)(g:TG)(tb:TU):TU:=λσ H Q=>wi σ H λJ H1=>∃W:Nat→Nat→L2.St→Hp→Prop,(∃m,W 0 m σ H1)∧∀i m σ H,W i m σ H→
   (J.stop i H∧Q σ H)∨(J.go i H∧∃Nx:L2.St→Hp→Prop,(∀σ' H',Nx σ' H'→∃m',m'<m∧W (i+1) m' σ' H')∧∀x H',J.yld i H x H'→g x σ H' λσ2 H2=>tb σ2 H2 Nx)
def tComp(cs:L2.St→L2.St)(wi:TI)(g:TG)(tb:Addr→TU):TE:=λσ H Q=>wi σ H λJ H1=>∀acc,H1 acc=none→
 ∃W:Nat→Nat→L2.St→Hp→Prop,(∃m,W 0 m (cs σ) (upd H1 acc (.lst [])))∧∀i m σ H,W i m σ H→
   (J.stop i H∧Q (.ref acc) H)∨(J.go i H∧∃Nx:L2.St→Hp→Prop,(∀σ' H',Nx σ' H'→∃m',m'<m∧W (i+1) m' σ' H')∧∀x H',J.yld i H x H'→g x σ H' λσ2 H2=>tb acc σ2 H2 Nx)
def CsOk(X:Cx)(scope:Scope)(N:Ls)(cs:L2.St→L2.St):Prop:=∀σ:L2.St,σ.length=X.N.length→(cs σ).length=N.length∧
 ∀(i:Nat) (v:V) (x:Str),N[i]?=some x→(cs σ)[i]?=some (some v)→scope.names.lookup x=some .free∧∃j:Nat,X.N[j]?=some x∧σ[j]?=some (some v)
theorem b3T'(I:Inv X pq σ H s)(sc:CScope X scope):closureFor scope X.env=pure (clOf X.env scope.names []):=
 a6F' λx hx hk=>I.ok.has x.1 (sc.free x hx hk)
theorem b2S'(h3:Heap)(d:Obj)(names:List (Str×NameKind)):CellsOk (pushCells (h3.push d) names) (h3.objs.size+1) (cellsFrom (h3.objs.size+1) names []):=by have e:(h3.push d).objs.size=h3.objs.size+1:=Heap.size_push ..;have:=cellsFrom_ok names (h3.push d) (h3.objs.size+1) [] ⟨(λ_ _ h=>by cases h),.nil⟩ (by rw[e];exact Zi _);rw[e]at this;exact this
theorem a8z'{rest:List Comprehension}{pos:Pos}{cs:L2.St→L2.St}{g:TG}{tb:Addr→TU}{R:Value→Addr→Result→Shared→Prop}{Fin:V→Hp→Prop}
         {E:Vs} (hc:X.calm=true) (sc:CScope X scope) (hcs:CsOk X scope N cs) (I:Inv X pq σ H s) (T:Turn X.prog X.w X.K tg J fp it tn) (st:tn 0 s.heap) (hf:∀b∈fp,FpOk X pq H b)
  (body:Addr→Env→Sem Unit)
  (heq:∀(acc:Addr) (env:Env),compTurn (.ListComp elt (⟨tg,iter,ifs,0⟩::rest) scope pos) 0 (.ref it) (.ref acc) env=(standAt iter.pos>>=λ_=>pyNext (.ref it)>>=λr=>match r with
   |none=>pure (.done .next)
   |some v=>letOwnedTupleGo tg (.ref it) v>>=λ_=>assign tg env v>>=λ_=>body acc env>>=λ_=>again (.compLoop (.ListComp elt (⟨tg,iter,ifs,0⟩::rest) scope pos) 0 (.ref it) (.ref acc) env)))
  (hin:∀(C:Addr) (s0:Shared) (H0:Hp) (fp:La) (acc:Addr),PG (cxC X scope N C s0 H0 fp) tg g∧PB (cxC X scope N C s0 H0 fp) (body acc (cxC X scope N C s0 H0 fp).env) (tb acc))
  (W:∀acc,H acc=none→∃W:Nat→Nat→L2.St→Hp→Prop,(∃m,W 0 m (cs σ) (upd H acc (.lst [])))∧∀i m σ H,W i m σ H→
   (J.stop i H∧Fin (.ref acc) H)∨(J.go i H∧∃Nx:L2.St→Hp→Prop,(∀σ' H',Nx σ' H'→∃m',m'<m∧W (i+1) m' σ' H')∧∀x H',J.yld i H x H'→g x σ H' λσ2 H2=>tb acc σ2 H2 Nx))
  (hR:∀(acc C:Addr) (s':Shared) (H':Hp) (m:Mg),s'.heap.Ns C m→C≠X.env.locals→(∀x c,X.env.cells.lookup x=some c→c≠C)→H' C=none→X.s₀.heap.objs.size≤C→(∀p∈X.pn++pq,p.1≠C)→(∀h',Heap.SameBut C s'.heap h'→Inv X pq σ H' {s' with heap:=h'})→Fin (.ref acc) H'→R (.ref acc) C (.ok .next) s'):
  wpAny (model X.prog X.w) X.A (newList []) (λacc s₃=>wpAny (model X.prog X.w) X.A (newFunctionEnv scope X.env.globals (clOf X.env scope.names []) [] X.env.qual none .none (some X.env)) (λcenv s₄=>
   codeAny (model X.prog X.w) X.A (.compStart (.ListComp elt (⟨tg,iter,ifs,0⟩::rest) scope pos) 0 (.ref it) acc {cenv with scope:=relabel scope X.env}) (R acc cenv.locals) s₄) E s₃) E s:=by
 refine Yh (b2P' ?_);have hfr:H s.heap.objs.size=none:=I.hok.fresh (Zi _);have I3:Inv X pq σ (upd H s.heap.objs.size (.lst [])) {s with heap:=s.heap.push {cls:=.type "list",data:=.seq ([]:Lv).toArray},toks:=s.toks}:=I.lnew (its:=[]) (ys:=[]) .nil (Nat.zero_le _);have fpl:∀b∈fp,∃o,s.heap.get? b=some o:=λb hb=>by obtain⟨o,e,_⟩:=T.obj _ _ st b hb;exact⟨o,e⟩
 have hf3:∀b∈fp,FpOk X pq (upd H s.heap.objs.size (.lst [])) b:=λb hb=>by obtain⟨f0,f1⟩:=hf b hb;obtain⟨o,ho⟩:=fpl b hb;exact⟨by rw[a0A' (ZJ (Zr ho))];exact f0,f1⟩
 have fpl3:∀b∈fp,∃o,(s.heap.push {cls:=.type "list",data:=.seq ([]:Lv).toArray}).get? b=some o:=λb hb=>by obtain⟨o,ho⟩:=fpl b hb;exact⟨o,Zd _ ho⟩
 obtain⟨k1,k2⟩:=hcs σ I.len;obtain⟨h₁,eh⟩:∃h₁,h₁=pushCells ((s.heap.push {cls:=.type "list",data:=.seq ([]:Lv).toArray}).push {cls:=.type "dict",data:=.dict #[]}) scope.names:=⟨_,rfl⟩;have old3:∀b o,(s.heap.push {cls:=.type "list",data:=.seq ([]:Lv).toArray}).get? b=some o→h₁.get? b=some o:=λb o e=>by rw[eh];exact pushCells_keeps _ _ _ _ (Zd _ e)
 have hns₁:h₁.Ns (s.heap.push {cls:=.type "list",data:=.seq ([]:Lv).toArray}).objs.size λ_=>none:=by rw[eh];exact⟨_,_,_,pushCells_keeps _ _ _ _ (Zo _ rfl),rfl,(λx h=>by simp at h),λ_=>rfl⟩
 have hcl:CellsOk h₁ ((s.heap.push {cls:=.type "list",data:=.seq ([]:Lv).toArray}).objs.size+1) (cellsFrom ((s.heap.push {cls:=.type "list",data:=.seq ([]:Lv).toArray}).objs.size+1) scope.names []):=by rw[eh];exact b2S' _ _ _
 rw[←eh];have J0:=b4X' (tk:=s.toks) (N:=N) (scope:=scope) (σ':=cs σ) hc I3 sc hf3 fpl3 hns₁ old3 hcl k1 k2;have old:∀b o,s.heap.get? b=some o→h₁.get? b=some o:=λb o e=>old3 b o (Zd _ e);have st1:tn 0 h₁:=T.keep _ _ _ st λb _ o e=>old b o e;have hlt:X.env.locals<(s.heap.push {cls:=.type "list",data:=.seq ([]:Lv).toArray}).objs.size:=I3.lt
 have loop:codeAny (model X.prog X.w) X.A (.compLoop (.ListComp elt (⟨tg,iter,ifs,0⟩::rest) scope pos) 0 (.ref it) (.ref s.heap.objs.size) (cxC X scope N (s.heap.push {cls:=.type "list",data:=.seq ([]:Lv).toArray}).objs.size {s with heap:=s.heap.push {cls:=.type "list",data:=.seq ([]:Lv).toArray},toks:=s.toks} (upd H s.heap.objs.size (.lst [])) fp).env)
   (R (.ref s.heap.objs.size) (s.heap.push {cls:=.type "list",data:=.seq ([]:Lv).toArray}).objs.size) {s with heap:=h₁,toks:=s.toks}:=by
  obtain⟨p1,p2⟩:=hin (s.heap.push {cls:=.type "list",data:=.seq ([]:Lv).toArray}).objs.size {s with heap:=s.heap.push {cls:=.type "list",data:=.seq ([]:Lv).toArray},toks:=s.toks} (upd H s.heap.objs.size (.lst [])) fp s.heap.objs.size;refine a8y' (X:=cxC X scope N _ _ _ fp) (Fin:=λ_ H'=>Fin (.ref s.heap.objs.size) H') rfl hc (heq _ _) T p1 p2 J0 st1 (λb hb=>?_) ?_ ?_
  ·obtain⟨f0,f1,f2,f3,f4,f5⟩:=hf3 b hb;obtain⟨o,ho⟩:=fpl3 b hb;refine⟨f0,ZJ (Zr ho),fs_of I3 f1 f2,.inl hb,λx c h=>?_,λp hp=>f5 p (by simpa[cxC]using hp)⟩;rcases a0W' h with z| ⟨_,z⟩
   ·exact λq=>absurd (Zr ho) (Nat.not_lt.mpr (q▸Nat.le_of_succ_le (hcl.empty x c (ZV z)).2))
   ·exact f4 x c (a7G' scope.names [] (λ_ z=>nomatch z) (x,c) (ZV z))
  ·exact W _ hfr
  ·intro s' σ' H' J1 _ fin;obtain⟨m,hm,_⟩:=id J1.loc;refine hR _ _ s' H' m hm (Nat.ne_of_gt hlt) (λx c h z=>?_) J1.free I3.sz (λp hp z=>?_) (λh' hs'=>?_) fin
   ·obtain⟨v,q⟩:=I3.cell x c h;exact absurd q.lt (by rw[z];exact Nat.lt_irrefl _)
   ·exact absurd (Zr (I3.pin p hp).1) (by rw[z];exact Nat.lt_irrefl _)
   ·exact b4Y' I3 hf3 rfl J1 hs'
 exact codeAny_compStart_list loop (T.self _ 0 _ _ _ st1 loop)
theorem pe_comp{rest:List Comprehension}{pos:Pos}{cs:L2.St→L2.St}{g:TG}{tb:Addr→TU}(hc:X.calm=true)(sc:CScope X scope)(hcs:CsOk X scope N cs)(hi:PI X tg iter wi)(body:Addr→Env→Sem Unit)
  (heq:∀(it acc:Addr) (env:Env),compTurn (.ListComp elt (⟨tg,iter,ifs,0⟩::rest) scope pos) 0 (.ref it) (.ref acc) env=(standAt iter.pos>>=λ_=>pyNext (.ref it)>>=λr=>match r with
   |none=>pure (.done .next)
   |some v=>letOwnedTupleGo tg (.ref it) v>>=λ_=>assign tg env v>>=λ_=>body acc env>>=λ_=>again (.compLoop (.ListComp elt (⟨tg,iter,ifs,0⟩::rest) scope pos) 0 (.ref it) (.ref acc) env)))
  (hin:∀(C:Addr) (s0:Shared) (H0:Hp) (fp:La) (acc:Addr),PG (cxC X scope N C s0 H0 fp) tg g∧PB (cxC X scope N C s0 H0 fp) (body acc (cxC X scope N C s0 H0 fp).env) (tb acc))
  (hs:∀x,foldedSetIterable iter X.env x=pure x:=by intro _;rfl):PE X (.ListComp elt (⟨tg,iter,ifs,0⟩::rest) scope pos) (tComp cs wi g tb):=by
 intro pq s σ H Q I h;rw[eval_ListComp];refine wpAny_comprehension_free (use:=none) rfl hs (b3T' I sc) sc.kind sc.loc (wpAny_mono (hi pq s σ H _ I h) (λv s1 h1=>wpAny_mono h1 (λitv s2 h2=>?_) λ_ _ e=>e) λ_ _ e=>e);obtain⟨it,fp,tn,J,H2,e,I2,T,st2,f2,W⟩:=h2;subst e;refine a8z' (R:=λacc C=>compPost (model X.prog X.w) X.A X.xe none (EP X pq σ Q) acc C) (Fin:=Q) hc sc hcs I2 T st2 f2 body (heq it) hin W ?_;intro acc C s' H' m hm _ _ _ _ _ hI fin;exact⟨m,hm,λh' hs'=>⟨.ref acc,H',hI h' hs',rfl,fin⟩⟩
theorem ps_comp{rest:List Comprehension}{pos spos px:Pos}{cs:L2.St→L2.St}{g:TG}{tb:Addr→TU}{x:Str}{j:Nat}(hc:X.calm=true)(hN:X.N.Nodup)(hj:X.N[j]?=some x)(hx:X.env.scope.names.lookup x=some .local)
  (hsw:swapsWith (.ListComp elt (⟨tg,iter,ifs,0⟩::rest) scope pos) (some (.Name x px)) spos.line X.env=pure true)
  (sc:CScope X scope) (hcs:CsOk X scope N cs) (hi:PI X tg iter wi) (body:Addr→Env→Sem Unit)
  (heq:∀(it acc:Addr) (env:Env),compTurn (.ListComp elt (⟨tg,iter,ifs,0⟩::rest) scope pos) 0 (.ref it) (.ref acc) env=(standAt iter.pos>>=λ_=>pyNext (.ref it)>>=λr=>match r with
   |none=>pure (.done .next)
   |some v=>letOwnedTupleGo tg (.ref it) v>>=λ_=>assign tg env v>>=λ_=>body acc env>>=λ_=>again (.compLoop (.ListComp elt (⟨tg,iter,ifs,0⟩::rest) scope pos) 0 (.ref it) (.ref acc) env)))
  (hin:∀(C:Addr) (s0:Shared) (H0:Hp) (fp:La) (acc:Addr),PG (cxC X scope N C s0 H0 fp) tg g∧PB (cxC X scope N C s0 H0 fp) (body acc (cxC X scope N C s0 H0 fp).env) (tb acc))
  (hs:∀x,foldedSetIterable iter X.env x=pure x:=by intro _;rfl):PS X (.Assign [.Name x px] (.ListComp elt (⟨tg,iter,ifs,0⟩::rest) scope pos) spos) (tAsg (tComp cs wi g tb) (gName j)):=by
 intro pq s σ H D I h;rw[exec_Assign_Name_used _ _ _ _ hsw];refine Za (wpAny_standAt (Za ?_));show wpAny _ X.A (do let _ ←comprehension (.ListComp elt (⟨tg,iter,ifs,0⟩::rest) scope pos) scope X.env _ (newList []) false (eval iter X.env) (some (assign (.Name x px) X.env))) _ _ s
 refine Za (wpAny_mono (wpAny_comprehension_free (use:=some (assign (.Name x px) X.env)) (Q:=λ_ s'=>SP X pq D .next s') rfl hs (b3T' I sc) sc.kind sc.loc
  (wpAny_mono (hi pq s σ H _ I h) (λv s1 h1=>wpAny_mono h1 (λitv s2 h2=>?_) λ_ _ e=>e) λ_ _ e=>e)) (λ_ s' hq=>Zf (Zf hq)) λ_ _ e=>e)
 obtain⟨it,fp,tn,J,H2,e,I2,T,st2,f2,W⟩:=h2;subst e;refine a8z' (R:=λacc C=>compPost (model X.prog X.w) X.A X.xe (some (assign (.Name x px) X.env)) (λ_ s'=>SP X pq D .next s') acc C) (Fin:=λv H'=>gName j v σ H' D.nx) hc sc hcs I2 T st2 f2 body (heq it) hin W ?_;intro acc C s' H' m hm hCL hCc hC1 hC2 hC3 hI fin;show wpAny _ X.A (assign (.Name x px) X.env (.ref acc)) _ _ s'
 have I4:Inv X pq σ H' s':=by have:=hI s'.heap (.refl ..);simpa using this
 refine wpAny_assign_Name (a8m' I4 hN hj (.inl hx) (v:=.ref acc) rfl (λs'' I5 hch=>?_) (.inr hx));obtain⟨a,hsb,ha⟩:=hch
 have hCa:C≠a:=by
  rcases ha with rfl|ha
  ·exact hCL
  ·exact λz=>hCc x a ha z.symm
 refine⟨m,hm.sameBut hsb hCa,λh' hs'=>?_⟩;exact⟨_,H',I5.turned (h':=h') (t':=s''.toks) (it:=C) (λb o hb e=>(hs'.2 b hb).trans e) hC1 hCL (.inr hC2) hCc hC3,fin⟩
theorem RepL.eraseIdx{mg:GS}:∀{ds:List D} {vs:List V} (i:Nat),RepL K mg μ H ds vs→RepL K mg μ H (ds.eraseIdx i) (vs.eraseIdx i)
 | [],vs,i,h=>by unfold RepL at h;subst h;simpa using RepL.nil
 |d::ds,vs,0,h=>by obtain⟨v,us,rfl,r,q⟩:=h.uncons;exact q
 |d::ds,vs,i+1,h=>by obtain⟨v,us,rfl,r,q⟩:=h.uncons;exact .cons r (RepL.eraseIdx i q)
noncomputable def b4Z'(d:D)(ds:List D)(S:Store):Res D:=match d,ds with
 | .ref n,[.int i]=>match S[n]? with
  |some xs=>match ixN xs.length i with
   |some k=>match xs[k]? with
    |some y=>if xs.length≤big then .ok y (S.set n (xs.eraseIdx k))else .fail
    |none=>.fail
   |none=>.fail
  |none=>.fail
 |_,_=>.fail
theorem popAt_D:MtR X "list.pop" (rM X.K X.mg b4Z'):=by
 intro pq s σ H x xs v us Q I rx rs h;obtain⟨F,μ,S,d,ds,sk,rd,rds,w⟩:=h;unfold b4Z' at w;split at w
 ·split at w
  ·rename_i n i _ ys e;split at w
   ·rename_i k ek;split at w
    ·rename_i y e2;split at w
     ·rename_i hz;obtain⟨a,vs,rfl,hn,ha,r⟩:=a8x' sk rd e;obtain⟨vi,rfl,ri⟩:=rds.one;cases a0b' ri;obtain⟨z,h1,h2⟩:=r.get e2;obtain⟨q1,q2,q3,q4⟩:=b3O' ek;rw[r.length]at q1;exact b4P' pq s σ H _ _ v us Q I rx rs ⟨a,vs,i,k,z,rfl,rfl,ha,by have:=Nat.pow_pos (n:=63) (show 0<2 by decide);unfold big at hz;omega,by unfold big at hz;omega,q1,h1,w.wrote sk hn ha (r.eraseIdx k) h2⟩
     ·exact w.elim
    ·exact w.elim
   ·exact w.elim
  ·exact w.elim
 ·exact w.elim
noncomputable def intsD:List D→Option (Li)
 | []=>some []
 | .int i::r=>(intsD r).map (i:: ·)
 |_=>none
theorem a8A':∀{xs:List D} {ns:Li},intsD xs=some ns→xs=ns.map D.int
 | [],ns,h=>by cases h;rfl
 |x::xs,ns,h=>by
  cases x with
  |int i=>
   unfold intsD at h;cases e:intsD xs with
   |none=>rw[e]at h;cases h
   |some ms=>rw[e]at h;cases h;rw[a8A' e];rfl
  |_=>cases h
noncomputable def a6G'(ds:List D)(S:Store):Res D:=match ds with
 | [d]=>match a3i' S d with
  |some xs=>match intsD xs with
   |some (n::ns)=>.ok (.int (ns.foldl max n)) S
   |_=>.fail
  |none=>.fail
 |ds=>maxD ds S
theorem b2T'{lt:Int→Int→Bool}(hg:∀a b,g a b=if lt b a=true then b else a)(n:Int)(ns:Li):∀k,k≤ns.length→(n::ns).getD (argBest (λi j=>lt ((n::ns).getD i 0) ((n::ns).getD j 0)) k) 0=(ns.take k).foldl g n:=by
 intro k
 induction k with
 |zero=>intro _;rfl
 |succ k ih=>
  intro h;have hk:=ih (by omega);have e:ns.take (k+1)=ns.take k++[ns[k]]:=by rw[List.take_succ,Ze (by omega)];rfl
  have e2:(n::ns).getD (k+1) 0=ns[k]:=by simp[List.getD,Ze (show k<ns.length by omega)]
  rw[e,List.foldl_append,List.foldl_cons,List.foldl_nil,hg,←hk,argBest];rw[e2];split
  ·exact e2
  ·rfl
theorem a5U':∀{its:Lv},Vals (ns.map V.int) its→∀i v,its.toArray[i]?=some v→∃t,v=Value.int (ns.getD i 0) t:=λ{its} rv i v hv=>by
 have hl:=rv.length;simp only[Zm]at hl;have hv':its[i]?=some v:=by simpa using hv
 have hi:i<ns.length:=by rw[hl];exact(Zl.mp hv').1
 have e1:(ns.map V.int)[i]?=some (.int ns[i]):=by rw[ZW,Ze hi];rfl
 obtain⟨u,e2,ru⟩:=rv.get e1;rw[hv']at e2;cases e2;obtain⟨t,rfl⟩:=ru;exact⟨t,by simp[List.getD,Ze hi]⟩
theorem b2U'{mg:GS}:∀(ns:Li) (vs:List V),RepL K mg μ H (ns.map D.int) vs→vs=ns.map V.int:=by
 intro ns
 induction ns with
 |nil=>intro vs r;unfold RepL at r;exact r
 |cons n ns ih=>intro vs r;obtain⟨v,ws,rfl,r1,r2⟩:=r.uncons;cases a0b' r1;rw[ih ws r2];rfl
theorem max_any(hc:X.calm=true):CallR X (.builtin "max") (rC X.K X.mg a6G'):=by
 intro pq s σ H xs us Q I r h;obtain⟨F,μ,S,ds,sk,rl,w⟩:=h;unfold a6G' at w;split at w
 ·rename_i d;obtain⟨v,rfl,rd⟩:=rl.one;obtain⟨u,rfl,ru⟩:=vals1 r;split at w
  ·rename_i ys e;split at w
   ·rename_i n ns en;have hys:=a8A' en;subst hys;obtain⟨a,vs,rfl,hq,rr⟩:=a0V' sk rd e;cases ru;have hv:=b2U' _ vs rr;subst hv;have hh:X.A.in1.handled=none:=I.ok.hd hc;obtain⟨its,rv,p,hz⟩:=I.list (.of hq);have hl:its.toArray.size=ns.length+1:=by rw[Zk,←rv.length,Zm];rfl
    refine call_max_walk (wpAny_pyIter_list p.isList ?_);have hlt:a<s.heap.objs.size:=by obtain⟨o,ho,_⟩:=p.isList;exact Zr ho
    have hne:a≠s.heap.objs.size:=ZJ hlt;refine⟨_,_,_,_,_,_,λi j=>decide ((n::ns).getD i 0>(n::ns).getD j 0),rfl,Walks.list hh s.heap.objs.size a hne its.toArray,⟨⟨_,Zo _ rfl,rfl,rfl⟩,Heap.IsList.push p.isList _⟩,?_,by omega,?_,λv h' tk hP kp=>?_⟩
    ·intro b hb;have hz2:∀o,(s.heap.push o).objs.size=s.heap.objs.size+1:=λo=>by simp[Heap.push]
     have hb':b=s.heap.objs.size∨b=a:=by simpa using hb
     refine Nat.lt_of_lt_of_eq ?_ (hz2 _).symm;rcases hb' with h|h
     ·rw[h];exact Nat.lt_succ_self _
     ·rw[h];exact Nat.lt_succ_of_lt hlt
    ·intro i j vi vj s' Q' E' hi hj hq';obtain⟨t1,rfl⟩:=a5U' rv i vi hi;obtain⟨t2,rfl⟩:=a5U' rv j vj hj;exact(PyProof.Rows.gt_int hq':wpAny (model X.prog X.w) X.A.in1 (compareOp .Gt _ _) Q' E' s')
    ·obtain⟨t',rfl⟩:=a5U' rv _ v hP;rw[hl]at*;have:=b2T' (g:=max) (lt:=λa b=>decide (a>b)) (λa b=>by simp only[Z0];omega) n ns ns.length (Zi _);rw[List.take_length]at this;rw[show ns.length+1-1=ns.length from rfl,this];refine⟨.int (ns.foldl max n),H,I.kept (h':=h') (t':=tk) λb o ho=>kp b o ?_ (Zd _ ho),⟨t',rfl⟩,w μ H _ .refl sk a1l'⟩;intro z;have z':b=s.heap.objs.size:=by simpa using z
     exact absurd (Zr ho) (by rw[z'];exact Nat.lt_irrefl _)
   ·exact w.elim
  ·exact w.elim
 ·exact max_D hc pq s σ H xs us Q I r ⟨F,μ,S,_,sk,rl,w⟩
def a5V'(ds:List D)(S:Store):Res D:=minD ds S
theorem b5a'(hc:X.calm=true)(hu:1=1):CallR X (.builtin "min") (rC X.K X.mg a5V'):=min_D hc
mutual
noncomputable def toPy:D→Option PyData
 | .non=>some .none
 | .bl b=>some (.bool b)
 | .int i=>some (.int i)
 | .str x=>some (.str x)
 | .tup ds=>(toPyL ds).map .tuple
 | .lst ds=>(toPyL ds).map .list
 |_=>none
noncomputable def toPyL:List D→Option (List PyData)
 | []=>some []
 |d::ds=>match toPy d,toPyL ds with
  |some p,some ps=>some (p::ps)
  |_,_=>none
end
mutual
theorem b5b'(I:Inv X pq σ H s):∀(d:D) (v:V) (u:Value) (p:PyData),Rep X.K ⟨X.mg,F⟩ μ H d v→RelV v u→toPy d=some p→p.hasDict=false∧∃as,Reads s.heap u p as
 | .non,v,u,p,r,q,h=>by cases a4E' r;have q:u=.none:=q;subst q;cases h;exact⟨rfl,_,.none⟩
 | .bl b,v,u,p,r,q,h=>by cases a6D' r;have q:u=.bool b:=q;subst q;cases h;exact⟨rfl,_,.bool b⟩
 | .int i,v,u,p,r,q,h=>by cases a0b' r;obtain⟨t,rfl⟩:=q;cases h;exact⟨rfl,_,.int i t⟩
 | .str x,v,u,p,r,q,h=>by cases a3Z' r;obtain⟨t,rfl⟩:=q;cases h;exact⟨rfl,_,.str x t⟩
 | .tup ds,v,u,p,r,q,h=>by
  obtain⟨a,vs,rfl,ha,rr⟩:=a0I' r;have q:u=.ref a:=q;subst q;obtain⟨its,rv,⟨o,h1,h2,n,h3⟩,_⟩:=I.tuple ha;have h:(toPyL ds).map PyData.tuple=some p:=h;cases e:toPyL ds with
  |none=>rw[e]at h;cases h
  |some ps=>rw[e]at h;cases h;obtain⟨k1,as,k2⟩:=a5W' I ds vs its ps rr rv e;exact⟨k1,as,.tuple h1 h2 h3 (by simpa using k2)⟩
 | .lst ds,v,u,p,r,q,h=>by
  unfold Rep at r;obtain⟨a,vs,rfl,ha,_,rr⟩:=r;have q:u=.ref a:=q;subst q;obtain⟨its,rv,pl,_⟩:=I.list (.of ha);obtain⟨o,h1,h2,n,h3⟩:=pl.isList;have h:(toPyL ds).map PyData.list=some p:=h;cases e:toPyL ds with
  |none=>rw[e]at h;cases h
  |some ps=>rw[e]at h;cases h;obtain⟨k1,as,k2⟩:=a5W' I ds vs its ps rr rv e;exact⟨k1,_,.list h1 h2 h3 (by simpa using k2)⟩
 | .ref _,v,u,p,r,q,h=>by cases h
 | .scr _,v,u,p,r,q,h=>by cases h
 | .fn _,v,u,p,r,q,h=>by cases h
 | .dct,v,u,p,r,q,h=>by cases h
 | .ty _,v,u,p,r,q,h=>by cases h
theorem a5W'(I:Inv X pq σ H s):∀(ds:List D) (vs:List V) (us:Lv) (ps:List PyData),RepL X.K ⟨X.mg,F⟩ μ H ds vs→Vals vs us→toPyL ds=some ps→PyData.hasDictAll ps=false∧∃as,ReadsAll s.heap us ps as
 | [],vs,us,ps,r,q,h=>by unfold RepL at r;subst r;cases q.zero;cases h;exact⟨rfl,_,.nil⟩
 |d::ds,vs,us,ps,r,q,h=>by
  obtain⟨w,ws,rfl,r1,r2⟩:=r.uncons;obtain⟨u,us',rfl,q1,q2⟩:=q.un;unfold toPyL at h;split at h
  ·rename_i p ps' e1 e2;cases h;obtain⟨k1,as,k2⟩:=b5b' I d w u p r1 q1 e1;obtain⟨k3,bs,k4⟩:=a5W' I ds ws us' ps' r2 q2 e2;exact⟨by show(PyData.hasDict p||PyData.hasDictAll ps')=false;rw[k1,k3];rfl,_,.cons k2 k4⟩
  ·cases h
end
open PySem.SeqAt PySem.MeetsSeq PySem.MeetsSeq2 PySem.MeetsSeq3
open PySem.AutoSeq1 (wpAny_loadPart')
end Py
namespace Py
section
open PySem.AutoSeq1 (wpAny_loadPart')
open PySem.MeetsSeq PySem.MeetsSeq2 PySem.MeetsSeq3
open PySem.AutoSeq1
end
inductive KTy where
 |int|seq (t:KTy)
 deriving DecidableEq
inductive Blt where
 |len|tuple|list (box:Bool)|int|min|max|isinst|all|any|sum|repr|abs|sorted (box:Bool) (t:KTy)
 deriving DecidableEq
inductive Mth where
 |append|extend|pop|count|insert
 deriving DecidableEq
inductive CT where
 |var (i:Nat)
 |tup (ts:List CT)
inductive CE where
 |var (i:Nat)
 |lit (d:D)
 |glob (x:Str)
 |ty (n:String)
 |bin (op:Operator) (a b:CE)
 |binB (a b:CE)
 |neg (a:CE)
 |cmp (op:CmpOp) (a b:CE)
 |chain (op op':CmpOp) (a b c:CE)
 |band (a b:CE)
 |bor (a b:CE)
 |bnot (a:CE)
 |ite (c a b:CE)
 |tup (es:List CE)
 |lst (box:Bool) (es:List CE)
 |idx (a b:CE)
 |sl (a:CE) (lo hi:List CE)
 |call (f:Str) (es:List CE)
 |blt (b:Blt) (es:List CE)
 |meth (m:Mth) (o:CE) (es:List CE)
 |tix (o:CE) (es:List CE)
 |lenset (a:CE)
 |sumL (a:CE)
 |sset (a:CE)
 |rng (tup box:Bool) (es:List CE)
 |comp (box:Bool) (N:Ls) (fr:List (Option Nat)) (tg:CT) (it:CE) (ifs:List CE) (body:CE)
 |emit (e:CE)
 |inner (tg:CT) (it:CE) (ifs:List CE) (body:CE)
 |seq (e:CE)
 |range (es:List CE)
 |zip (es:List CE)
 |down (es:List CE)
 |dct
 |rev (a b:CE)
 |odd (a b c:CE)
 |rv0 (a b c:CE)
 |enum (es:List CE)
 |revl (es:List CE)
 |by2 (es:List CE)
inductive CS where
 |asg (i:Nat) (e:CE)
 |asgT (t:CT) (e:CE)
 |par (is:List Nat) (es:List CE)
 |aug (i:Nat) (e:CE)
 |set (o i v:CE)
 |set2 (o i o' i' v:CE)
 |expr (e:CE)
 |ret (e:CE)
 |retN
 |pass
 |brk
 |cont
 |ite (c:CE) (a b:List CS)
 |for_ (t:CT) (it:CE) (body:List CS)
 |while_ (n:Nat) (c:CE) (body:List CS)
 |never
abbrev Rho:=List (Option D)
abbrev FT:=Str→Option (List D→Store→Res D)
noncomputable def Res.bind{α β:Type}(r:Res α)(f:α→Store→Res β):Res β:=match r with
 | .ok a S=>f a S
 | .err x S=>.err x S
 | .fail=>.fail
noncomputable def Res.noErr{α:Type}:Res α→Res α
 | .ok a S=>.ok a S
 |_=>.fail
noncomputable def onBl{α:Type}(d:D)(f:Bool→Res α):Res α:=match d with
 | .bl k=>f k
 |_=>.fail
noncomputable def asgVs:List CT→List D→Rho→Option Rho
 | [],ds,ρ=>if ds.isEmpty=true then some ρ else none
 |t::ts,ds,ρ=>match t,ds with
  | .var i,d::ds=>asgVs ts ds (ρ.set i (some d))
  |_,_=>none
noncomputable def asgCT:CT→D→Rho→Option Rho
 | .var i,d,ρ=>some (ρ.set i (some d))
 | .tup ts,d,ρ=>match d with
  | .tup ds=>asgVs ts ds ρ
  |_=>none
noncomputable def a4F':List CT→List Nat
 | []=>[]
 |t::ts=>match t with
  | .var i=>i::a4F' ts
  | .tup _=>a4F' ts
def slots:CT→List Nat
 | .var i=>[i]
 | .tup ts=>a4F' ts
noncomputable def isNew:Rho→List Nat→Bool
 |ρ,is=>is.all λi=>match ρ[i]? with
  |some none=>true
  |_=>false
noncomputable def a0h'(t:CT)(d:D)(ρ:Rho):Option Rho:=if isNew ρ (slots t)=true then asgCT t d ρ else none
inductive Its where
 |items (xs:List D)|live (f:Nat) (get:Store→Nat→Option (Option D))
noncomputable def compD(step:D→List D→Store→Res (List D)):List D→List D→Store→Res (List D)
 | [],acc,S=>.ok acc S
 |x::xs,acc,S=>(step x acc S).bind λacc' S'=>compD step xs acc' S'
noncomputable def compB(step:D→List D→Store→Res (List D))(get:Store→Nat→Option (Option D)):Nat→Nat→List D→Store→Res (List D)
 |0,_,_,_=>.fail
 |f+1,i,acc,S=>match get S i with
  |none=>.fail
  |some none=>.ok acc S
  |some (some x)=>(step x acc S).bind λacc' S'=>compB step get f (i+1) acc' S'
noncomputable def compI(step:D→List D→Store→Res (List D))(its:Its)(acc:List D)(S:Store):Res (List D):=match its with
 | .items xs=>compD step xs acc S
 | .live f get=>compB step get f 0 acc S
noncomputable def a2g'(n:Nat):Store→Nat→Option (Option D):=λS i=>(S[n]?).map λxs=>xs[i]?
noncomputable def a0P'(S:Store):D→Option Its
 | .tup xs=>some (.items xs)
 | .lst xs=>some (.items xs)
 | .scr xs=>some (.items xs)
 | .ref n=>some (.live (((S[n]?).getD []).length+1) (a2g' n))
 |_=>none
noncomputable def a9q':D→Option (List D)
 | .tup xs=>some xs
 | .lst xs=>some xs
 | .scr xs=>some xs
 |_=>none
noncomputable def a5X'(d e:D):Store→Nat→Option (Option D):=λS i=>match seqOf S d,seqOf S e with
 |some xs,some ys=>some (match xs[i]?,ys[i]? with
  |some x,some y=>some (.tup [x,y])
  |_,_=>none)
 |_,_=>none
def isLst:D→Bool
 | .tup _=>false
 |_=>true
noncomputable def zipOf(S:Store)(d e:D):Option Its:=match a9q' d,a9q' e with
  |some xs,some ys=>some (.items (List.zipWith (λx y=>.tup [x,y]) xs ys))
  |_,_=>match seqOf S d,seqOf S e with
   |some xs,some ys=>some (.live (min xs.length ys.length+1) (a5X' d e))
   |_,_=>none
noncomputable def a4m'(lo:Int):Nat→List D
 |0=>[]
 |n+1=>.int lo::a4m' (lo+1) n
def downL:Nat→List D
 |0=>[]
 |n+1=>.int (n:Nat)::downL n
noncomputable def toOpt:List D→Option (Option Int)
 | []=>some none
 | [.int i]=>some (some i)
 |_=>none
noncomputable def optL(ds:List D)(S:Store):Res (Option Int):=match toOpt ds with
 |some o=>.ok o S
 |none=>.fail
noncomputable def hasTy:KTy→D→Bool
 | .int,.int _=>true
 | .seq t,.tup xs=>xs.all (hasTy t)
 |_,_=>false
noncomputable def lexB(f:D→D→Bool):List D→List D→Bool
 | [],[]=>false
 | [],_::_=>true
 |_::_,[]=>false
 |x::xs,y::ys=>if f x y=true then true else if f y x=true then false else lexB f xs ys
noncomputable def ltK:KTy→D→D→Bool
 | .int,.int i,.int j=>decide (i<j)
 | .seq t,.tup xs,.tup ys=>lexB (ltK t) xs ys
 |_,_,_=>false
noncomputable def insB(f:D→D→Bool)(x:D):List D→List D
 | []=>[x]
 |y::ys=>if f x y=true then x::y::ys else y::insB f x ys
noncomputable def a4G'(f:D→D→Bool)(xs:List D):List D:=xs.foldl (λacc x=>insB f x acc) []
def noStr:KTy→Bool
 | .int=>true
 | .seq t=>noStr t
def isNil:D→Bool
 | .tup []=>true
 |_=>false
noncomputable def a3I':KTy→List D→Bool
 | .int,_=>true
 | .seq t,xs=>noStr t&&((xs.all λd=> !isNil d)||isNil (xs.headD .non))
noncomputable def a2d'(box:Bool)(t:KTy)(ds:List D)(S:Store):Res D:=match ds with
 | [d]=>match seqOf S d with
  |some xs=>if xs.all (hasTy t)=true∧xs.length<65536∧a3I' t xs=true then(if box=true then .ok (.ref S.length) (S++[a4G' (ltK t) xs])else .ok (.lst (a4G' (ltK t) xs)) S)else .fail
  |none=>.fail
 |_=>.fail
def asInt:D→Option Int
 | .int i=>some i
 |_=>none
noncomputable def lowP:D→Bool
 | .int n=>decide (0≤n)&&decide (n<8)
 |_=>false
noncomputable def ssetD(d:D)(S:Store):Res D:=match seqOf S d with
 |some xs=>if xs.all lowP=true then .ok (.lst (((List.range 8).filter λk:Nat=>(xs.filterMap asInt).contains (k:Int)).map λk:Nat=>D.int k)) S else .fail
 |none=>.fail
def depth:KTy→Nat
 | .int=>1
 | .seq t=>depth t+1
noncomputable def bltB:Blt→Bool
 | .sorted _ t=>decide (depth t≤40)
 | .sum=>false
 | .repr=>false
 | .abs=>false
 |_=>true
noncomputable def bltD:Blt→List D→Store→Res D
 | .len=>lenD| .tuple=>b0y'| .list b=>listD b| .int=>intD| .min=>a5V'| .max=>a6G'| .isinst=>a0M'| .all=>allD| .any=>anyD| .sum=>λ_ _=>.fail | .repr=>λ_ _=>.fail | .abs=>λ_ _=>.fail
 | .sorted b t=>a2d' b t
noncomputable def b3U'(d:D)(ds:List D)(S:Store):Res D:=match ds with
 | []=>popD d [] S
 |ds=>b4Z' d ds S
noncomputable def methD:Mth→D→List D→Store→Res D
 | .append=>a3k'| .extend=>a4a'| .pop=>b3U'| .count=>λ_ _ _=>.fail | .insert=>λ_ _ _=>.fail
section
variable (Φ:FT)(Γ:Str→Option D)
mutual
noncomputable def den:CE→Rho→Store→Res D
 | .var i,ρ,S=>match ρ[i]? with
  |some (some d)=>.ok d S
  |_=>.fail
 | .dct,ρ,S=>.ok .dct S
 | .lit d,ρ,S=>.ok d S
 | .glob x,ρ,S=>match Γ x with
  |some d=>.ok d S
  |none=>.fail
 | .ty n,ρ,S=>.ok (.ty n) S
 | .bin op a b,ρ,S=>(den a ρ S).bind λd S1=>(den b ρ S1).bind λe S2=>(opD op d e S2).noErr
 | .binB _ _,_,_=>.fail
 | .neg a,ρ,S=>(den a ρ S).bind λd S1=>match d with
  | .int i=>.ok (.int (-i)) S1
  |_=>.fail
 | .cmp op a b,ρ,S=>(den a ρ S).bind λd S1=>(den b ρ S1).bind λe S2=>(cmpD op d e S2).noErr
 | .chain op op' a b c,ρ,S=>(den a ρ S).bind λd S1=>(den b ρ S1).bind λe S2=>(cmpD op d e S2).noErr.bind λk S3=>onBl k λk=>if k=true then(den c ρ S3).bind λf S4=>(cmpD op' e f S4).noErr else .ok (.bl false) S3
 | .band a b,ρ,S=>(den a ρ S).bind λd S1=>onBl d λk=>if k=true then den b ρ S1 else .ok (.bl false) S1
 | .bor a b,ρ,S=>(den a ρ S).bind λd S1=>onBl d λk=>if k=true then .ok (.bl true) S1 else den b ρ S1
 | .bnot a,ρ,S=>(den a ρ S).bind λd S1=>match truD S1 d with
  |some k=>.ok (.bl (!k)) S1
  |none=>.fail
 | .ite c a b,ρ,S=>(denT c ρ S).bind λk S1=>if k=true then den a ρ S1 else den b ρ S1
 | .tup es,ρ,S=>(denL es ρ S).bind λds S1=>.ok (.tup ds) S1
 | .lst box es,ρ,S=>(denL es ρ S).bind λds S1=>if box=true then .ok (.ref S1.length) (S1++[ds])else .ok (.lst ds) S1
 | .rev _ _,_,_=>.fail
 | .rv0 _ _ _,_,_=>.fail
 | .odd _ _ _,_,_=>.fail
 | .idx a b,ρ,S=>(den a ρ S).bind λd S1=>(den b ρ S1).bind λe S2=>(idxD d e S2).noErr
 | .sl a lo hi,ρ,S=>(den a ρ S).bind λd S1=>((denL lo ρ S1).bind optL).bind λl S2=>((denL hi ρ S2).bind optL).bind λh S3=>(slD d l h S3).noErr
 | .call f es,ρ,S=>match Φ f with
  |some φ=>(denL es ρ S).bind λds S1=>φ ds S1
  |none=>.fail
 | .blt b es,ρ,S=>(denL es ρ S).bind λds S1=>(bltD b ds S1).noErr
 | .meth m o es,ρ,S=>(den o ρ S).bind λd S1=>match d with
  | .ref n=>(denL es ρ S1).bind λds S2=>(methD m (.ref n) ds S2).noErr
  |_=>.fail
 | .tix _ _,_,_=>.fail
 | .lenset _,_,_=>.fail
 | .sumL _,_,_=>.fail
 | .sset a,ρ,S=>(den a ρ S).bind λd S1=>(ssetD d S1).noErr
 | .rng _ _ _,_,_=>.fail
 | .comp box N fr tg it ifs body,ρ,S=>(denI it ρ S).bind λits S1=>
   (compI (λx acc S2=>match a0h' tg x (fr.map λj=>j.bind λj=>(ρ[j]?).join)with
    |some ρ'=>(denTs ifs ρ' S2).bind λk S3=>if k=true then denB body ρ' acc S3 else .ok acc S3
    |none=>.fail) its [] S1).noErr.bind λys S5=>if box=true then .ok (.ref S5.length) (S5++[ys])else .ok (.lst ys) S5
 | .emit _,_,_=>.fail
 | .inner _ _ _ _,_,_=>.fail
 | .seq _,_,_=>.fail
 | .range _,_,_=>.fail
 | .zip _,_,_=>.fail
 | .down _,_,_=>.fail
 | .enum _,_,_=>.fail
 | .revl _,_,_=>.fail
 | .by2 _,_,_=>.fail
noncomputable def denT:CE→Rho→Store→Res Bool
 | .band a b,ρ,S=>(denT a ρ S).bind λk S1=>if k=true then denT b ρ S1 else .ok false S1
 | .bor a b,ρ,S=>(denT a ρ S).bind λk S1=>if k=true then .ok true S1 else denT b ρ S1
 | .bnot a,ρ,S=>(denT a ρ S).bind λk S1=>.ok (!k) S1
 | .cmp op a b,ρ,S=>(den a ρ S).bind λd S1=>(den b ρ S1).bind λe S2=>(cmpD op d e S2).noErr.bind λk S3=>onBl k λk=>.ok k S3
 | .chain op op' a b c,ρ,S=>(den a ρ S).bind λd S1=>(den b ρ S1).bind λe S2=>(cmpD op d e S2).noErr.bind λk S3=>onBl k λk=>if k=true then(den c ρ S3).bind λf S4=>(cmpD op' e f S4).noErr.bind λk S5=>onBl k λk=>.ok k S5 else .ok false S3
 | .var i,ρ,S=>match ρ[i]? with
  |some (some d)=>match truD S d with
   |some k=>.ok k S
   |none=>.fail
  |_=>.fail
 | .call f es,ρ,S=>match Φ f with
  |some φ=>(denL es ρ S).bind λds S1=>(φ ds S1).bind λd S2=>match truD S2 d with
   |some k=>.ok k S2
   |none=>.fail
  |none=>.fail
 | .blt b es,ρ,S=>(denL es ρ S).bind λds S1=>(bltD b ds S1).noErr.bind λd S2=>match truD S2 d with
   |some k=>.ok k S2
   |none=>.fail
 | .lit d,ρ,S=>match truD S d with
   |some k=>.ok k S
   |none=>.fail
 |_,_,_=>.fail
noncomputable def denL:List CE→Rho→Store→Res (List D)
 | [],_,S=>.ok [] S
 |e::es,ρ,S=>(den e ρ S).bind λd S1=>(denL es ρ S1).bind λds S2=>.ok (d::ds) S2
noncomputable def denTs:List CE→Rho→Store→Res Bool
 | [],_,S=>.ok true S
 |e::es,ρ,S=>(denT e ρ S).bind λk S1=>if k=true then denTs es ρ S1 else .ok false S1
noncomputable def denI:CE→Rho→Store→Res Its
 | .seq e,ρ,S=>(den e ρ S).bind λd S1=>match a0P' S1 d with
  |some xs=>.ok xs S1
  |none=>.fail
 | .range es,ρ,S=>(denL es ρ S).bind λds S1=>match ds with
  | [.int j]=>if-(2^62)≤j∧j<2^62 then .ok (.items (a4m' 0 j.toNat)) S1 else .fail
  | [.int i,.int j]=>if-(2^62)≤i∧i<2^62∧-(2^62)≤j∧j<2^62 then .ok (.items (a4m' i (j-i).toNat)) S1 else .fail
  |_=>.fail
 | .enum _,_,_=>.fail
 | .by2 _,_,_=>.fail
 | .revl _,_,_=>.fail
 | .down es,ρ,S=>(denL es ρ S).bind λds S1=>match ds with
  | [.int j]=>if-(2^62)≤j∧j<2^62 then .ok (.items (downL j.toNat)) S1 else .fail
  |_=>.fail
 | .zip es,ρ,S=>(denL es ρ S).bind λds S2=>match ds with
  | [d,e]=>(match zipOf S2 d e with
   |some its=>.ok its S2
   |none=>.fail)
  |_=>.fail
 |_,_,_=>.fail
noncomputable def denB:CE→Rho→List D→Store→Res (List D)
 | .emit e,ρ,acc,S=>(den e ρ S).bind λy S1=>if acc.length<big then .ok (acc++[y]) S1 else .fail
 | .inner tg it ifs body,ρ,acc,S=>(denI it ρ S).bind λits S1=>
   compI (λx acc S2=>match a0h' tg x ρ with
    |some ρ'=>(denTs ifs ρ' S2).bind λk S3=>if k=true then denB body ρ' acc S3 else .ok acc S3
    |none=>.fail) its acc S1
 |_,_,_,_=>.fail
end
inductive Fl where
 |next(ρ:Rho)|ret (d:D)|brk (ρ:Rho)|cont (ρ:Rho)
noncomputable def forD(step:D→Rho→Store→Res Fl):List D→Rho→Store→Res Fl
 | [],ρ,S=>.ok (.next ρ) S
 |x::xs,ρ,S=>(step x ρ S).bind λf S'=>match f with
  | .next ρ'=>forD step xs ρ' S'
  | .cont ρ'=>forD step xs ρ' S'
  | .brk ρ'=>.ok (.next ρ') S'
  | .ret d=>.ok (.ret d) S'
noncomputable def forB(step:D→Rho→Store→Res Fl)(get:Store→Nat→Option (Option D)):Nat→Nat→Rho→Store→Res Fl
 |0,_,_,_=>.fail
 |f+1,i,ρ,S=>match get S i with
  |none=>.fail
  |some none=>.ok (.next ρ) S
  |some (some x)=>(step x ρ S).bind λfl S'=>match fl with
    | .next ρ'=>forB step get f (i+1) ρ' S'
    | .cont ρ'=>forB step get f (i+1) ρ' S'
    | .brk ρ'=>.ok (.next ρ') S'
    | .ret d=>.ok (.ret d) S'
noncomputable def forI(step:D→Rho→Store→Res Fl)(its:Its)(ρ:Rho)(S:Store):Res Fl:=match its with
 | .items xs=>forD step xs ρ S
 | .live f get=>forB step get f 0 ρ S
noncomputable def a3J'(c:Rho→Store→Res Bool)(step:Rho→Store→Res Fl):Nat→Rho→Store→Res Fl
 |0,_,_=>.fail
 |n+1,ρ,S=>(c ρ S).bind λk S1=>if k=true then(step ρ S1).bind λf S'=>match f with
   | .next ρ'=>a3J' c step n ρ' S'
   | .cont ρ'=>a3J' c step n ρ' S'
   | .brk ρ'=>.ok (.next ρ') S'
   | .ret d=>.ok (.ret d) S'
  else .ok (.next ρ) S1
mutual
noncomputable def denS:CS→Rho→Store→Res Fl
 | .asg i e,ρ,S=>(den Φ Γ e ρ S).bind λd S1=>.ok (.next (ρ.set i (some d))) S1
 | .asgT t e,ρ,S=>(den Φ Γ e ρ S).bind λd S1=>match asgCT t d ρ with
  |some ρ'=>.ok (.next ρ') S1
  |none=>.fail
 | .par _ _,_,_=>.fail
 | .aug _ _,_,_=>.fail
 | .set _ _ _,_,_=>.fail
 | .set2 _ _ _ _ _,_,_=>.fail
 | .expr e,ρ,S=>(den Φ Γ e ρ S).bind λ_ S1=>.ok (.next ρ) S1
 | .ret e,ρ,S=>(den Φ Γ e ρ S).bind λd S1=>.ok (.ret d) S1
 | .retN,_,S=>.ok (.ret .non) S
 | .pass,ρ,S=>.ok (.next ρ) S
 | .brk,ρ,S=>.ok (.brk ρ) S
 | .cont,ρ,S=>.ok (.cont ρ) S
 | .ite c a b,ρ,S=>(denT Φ Γ c ρ S).bind λk S1=>if k=true then denSs a ρ S1 else denSs b ρ S1
 | .for_ t it body,ρ,S=>(denI Φ Γ it ρ S).bind λxs S1=>forI (λx ρ S=>match asgCT t x ρ with
   |some ρ'=>denSs body ρ' S
   |none=>.fail) xs ρ S1
 | .while_ n c body,ρ,S=>a3J' (denT Φ Γ c) (denSs body) n ρ S
 | .never,_,_=>.fail
noncomputable def denSs:List CS→Rho→Store→Res Fl
 | [],ρ,S=>.ok (.next ρ) S
 |c::cs,ρ,S=>(denS c ρ S).bind λf S1=>match f with
  | .next ρ'=>denSs cs ρ' S1
  |f=>.ok f S1
end
end
end Py
variable {body cs:List Py.CS}{ρ ρ' r0:Py.Rho}{Φ:Py.FT}
namespace Py
def ExcIs(mg:Mg)(x:Exc)(cls:Value)(dict:Option Addr)(H:Hp):Prop:=mg x.cls=some cls∧x.fs=[]
def exOf(mg:Mg)(E:XK)(x:Exc)(H:Hp):Prop:=∀cls dict,ExcIs mg x cls dict H→E cls dict H
def WantG{α β:Type}(K:Fg)(mg:GS)(E:XK)(Rel:La→Hp→α→β→Prop)(μ:La)(H:Hp)(Q:β→Hp→Prop):Res α→Prop
 | .ok a S'=>∀μ' H' b,Ext μ H μ' H'→SOk K mg μ' S' H'→Rel μ' H' a b→Q b H'
 | .err x S'=>∀μ' H',Ext μ H μ' H'→SOk K mg μ' S' H'→exOf mg.mg E x H'
 | .fail=>False
section
variable {mg:GS}{E:XK}
theorem a2e'{Q:VK}{r:Res D}(w:WantG K mg E (Rep K mg) μ H Q r.noErr):Want K mg μ H Q r:=by cases r<;>first|exact w|exact w.elim
theorem WantG.ext{Rel:La→Hp→α→β→Prop}{Q:β→Hp→Prop}{r:Res α}(x:Ext μ H μ' H')(w:WantG K mg E Rel μ H Q r):WantG K mg E Rel μ' H' Q r:=by
 cases r with
 |ok d S'=>exact λμ2 H2 v x2 s2 r2=>w μ2 H2 v (x.trans x2) s2 r2
 |err y S'=>exact λμ2 H2 x2 s2=>w μ2 H2 (x.trans x2) s2
 |fail=>exact w
theorem WantG.bind{γ δ:Type}{Rel:La→Hp→α→β→Prop}{Rel':La→Hp→γ→δ→Prop}{Q:δ→Hp→Prop}{r:Res α}{f:α→Store→Res γ}(w:WantG K mg E Rel' μ H Q (r.bind f)):
  WantG K mg E Rel μ H (λb H'=>∃μ' S' a,Ext μ H μ' H'∧SOk K mg μ' S' H'∧Rel μ' H' a b∧WantG K mg E Rel' μ' H' Q (f a S')) r:=by
 cases r with
 |ok a S'=>exact λμ2 H2 b x s r=>⟨μ2,S',a,x,s,r,WantG.ext x (show WantG K mg E Rel' μ H Q (f a S')from w)⟩
 |err y S'=>exact w
 |fail=>exact w
theorem WantG.mono{Rel:La→Hp→α→β→Prop}{Q Q':β→Hp→Prop}{r:Res α}(w:WantG K mg E Rel μ H Q r)(h:∀b H',Q b H'→Q' b H'):WantG K mg E Rel μ H Q' r:=by
 cases r with
 |ok a S'=>exact λμ2 H2 b x s r=>h b H2 (w μ2 H2 b x s r)
 |err y S'=>exact w
 |fail=>exact w
def EnvR(K:Fg)(mg:GS)(μ:La)(H:Hp)(ρ:Rho)(σ:L2.St):Prop:=
 ρ.length=σ.length∧∀(i:Nat) (d:D),ρ[i]?=some (some d)→∃v,σ[i]?=some (some v)∧Rep K mg μ H d v
theorem EnvR.mono(x:Ext μ H μ' H')(h:EnvR K mg μ H ρ σ):EnvR K mg μ' H' ρ σ:=
 ⟨h.1,λi d e=>let⟨v,a,b⟩:=h.2 i d e;⟨v,a,Rep.mono x _ _ b⟩⟩
theorem EnvR.set{i:Nat}(h:EnvR K mg μ H ρ σ)(r:Rep K mg μ H d v):EnvR K mg μ H (ρ.set i (some d)) (σ.set i (some v)):=by
 refine⟨by simp[h.1],λj e he=>?_⟩;by_cases hj:j=i
 ·subst hj;have hl:j<ρ.length:=by have:=(Zl.mp he).1;simpa using this
  rw[Ym hl]at he;cases he;exact⟨v,Ym (by rw[←h.1];exact hl),r⟩
 ·rw[List.getElem?_set_ne (Ne.symm hj)]at he⊢;exact h.2 j e he
end
section
variable (K:Fg)(mg:Mg)(E:XK)(Φ:FT)(Γ:Str→Option D)
def tE(c:CE):TE:=λσ H Q=>∃F μ ρ S,SOk K ⟨mg,F⟩ μ S H∧EnvR K ⟨mg,F⟩ μ H ρ σ∧WantG K ⟨mg,F⟩ E (Rep K ⟨mg,F⟩) μ H Q (den Φ Γ c ρ S)
def tT(c:CE):TT:=λσ H Q=>∃F μ ρ S,SOk K ⟨mg,F⟩ μ S H∧EnvR K ⟨mg,F⟩ μ H ρ σ∧WantG K ⟨mg,F⟩ E (λ_ _ a b=>a=b) μ H Q (denT Φ Γ c ρ S)
def tL(cs:List CE):TA:=λσ H Q=>∃F μ ρ S,SOk K ⟨mg,F⟩ μ S H∧EnvR K ⟨mg,F⟩ μ H ρ σ∧WantG K ⟨mg,F⟩ E (RepL K ⟨mg,F⟩) μ H Q (denL Φ Γ cs ρ S)
end
theorem weakE{t t':TE}(h:PE X e t)(w:∀σ H Q,t' σ H Q→t σ H Q):PE X e t':=λpq s σ H Q I q=>h pq s σ H Q I (w σ H Q q)
theorem weakT{t t':TT}(h:PT X e t)(w:∀σ H Q,t' σ H Q→t σ H Q):PT X e t':=λpq s σ H Q I q=>h pq s σ H Q I (w σ H Q q)
theorem weakA{e:Lx}{t t':TA}(h:PA X e t)(w:∀σ H Q,t' σ H Q→t σ H Q):PA X e t':=λpos pq s σ H Q I q=>h pos pq s σ H Q I (w σ H Q q)
noncomputable def visB(sc:List (Str×NameKind))(x:Str):Bool:=match sc.lookup x with
 |some .local=>true|some .cell=>true|some .free=>true
 |_=>false
noncomputable def gloB(sc:List (Str×NameKind))(x:Str):Bool:=sc.lookup x==some .globalImplicit&& !(x==("__debug__":Str))&& !(x==("__name__":Str))
noncomputable def b2V'(x:Str):Bool:= !(x==("__debug__":Str))&& !(x==("__classdict__":Str))
def a0T':Expr→Bool
 | .Starred _ _=>false
 |_=>true
noncomputable def litIs:D→Const→Bool
 | .non,.none=>true
 | .bl b,.bool c=>b==c
 | .int i,.int j=>i==j
 | .str x,.str y=>x==y
 |_,_=>false
noncomputable def a4H':Blt→Str
 | .len=>"len"| .tuple=>"tuple"| .list _=>"list"| .int=>"int"| .min=>"min"| .max=>"max"| .isinst=>"isinstance"| .all=>"all"| .any=>"any"| .sum=>"sum"| .repr=>"repr"| .abs=>"abs"| .sorted _ _=>"sorted"
noncomputable def bltIs:Blt→Value
 | .len=>.builtin "len"| .tuple=>.type "tuple"| .list _=>.type "list"| .int=>.type "int"| .min=>.builtin "min"| .max=>.builtin "max"| .isinst=>.builtin "isinstance"| .all=>.builtin "all"| .any=>.builtin "any"| .sum=>.builtin "sum"| .repr=>.builtin "repr"| .abs=>.builtin "abs"| .sorted _ _=>.builtin "sorted"
theorem b5c'(b:Blt):bootBuiltins (a4H' b)=some (bltIs b):=by
 cases b with
 |list box=>show bootBuiltins (Str.ofString "list")=some (.type "list");decide+kernel
 |sorted box t=>show bootBuiltins (Str.ofString "sorted")=some (.builtin "sorted");decide+kernel
 |_=>decide+kernel
noncomputable def a5x':List String:=["int","bool","str","tuple","list","dict"]
theorem ty_boot{n:String}(h:a5x'.contains n=true):bootBuiltins (Str.ofString n)=some (.type n):=by simp[a5x']at h;rcases h with rfl|rfl|rfl|rfl|rfl|rfl<;>decide+kernel
abbrev Sc:=List (Str×NameKind)
noncomputable def relB(names sc:Sc):Sc:=names.map λ(n,k)=>if(k== .free&&sc.lookup n==some .cell)then(n,.cell)else(n,k)
noncomputable def ownB(names:Sc):Str→Bool:=λx=>names.lookup x==some .cell
noncomputable def scB(scope:Scope)(sc:Sc):Bool:=scope.kind== .function&&scope.names.all λ(n,k)=>(k !=.cell||scope.names.lookup n==some .cell)&&(k !=.local||scope.names.lookup n==some .local)&&(k !=.free||(sc.lookup n==some .cell||sc.lookup n==some .free))
noncomputable def frB(names:Sc)(N' N:Ls)(fr:List (Option Nat)):Bool:=fr.length==N'.length&&(List.range N'.length).all λi=>match fr[i]? with
 |some (some j)=>(match N'[i]? with
  |some x=>names.lookup x==some .free&&N[j]?==some x
  |none=>false)
 |_=>true
noncomputable def a9r':Ls→Bool
 | []=>true
 |x::r=> !r.contains x&&a9r' r
def a7I':Expr→Bool
 | .Slice _ _ _ _=>false
 |_=>true
theorem b5d'{b:Expr}(h:a7I' b=true):b3Q' b:=by intro o i;cases b<;>first|rfl|cases h
noncomputable def a8B':Mth→Str
 | .append=>"append"| .extend=>"extend"| .pop=>"pop"| .count=>"count"| .insert=>"insert"
def isNm:Expr→Bool
 | .Name _ _=>true
 |_=>false
def isTup:Expr→Bool
 | .Tuple _ _ _=>true
 |_=>false
def b2W':Expr→Bool
 | .Set _ _ _=>false
 |_=>true
def dE:Expr:=.Name "" ⟨0,0,0,0⟩
def dG:Comprehension:=⟨dE,dE,[],0⟩
structure Nd where
 e0:Expr:=dE
 e1:Expr:=dE
 e2:Expr:=dE
 es:Lx:=[]
 lo:Option Expr:=none
 hi:Option Expr:=none
 gs:List Comprehension:=[]
 sc:Scope:=default
 k:Nat:=0
 pos:Pos:=⟨0,0,0,0⟩
noncomputable def vw:Expr→Nd
 | .BoolOp _ vs p=>{es:=vs,pos:=p}
 | .BinOp l _ r p=>{e0:=l,e1:=r,pos:=p}
 | .UnaryOp _ x p=>{e0:=x,pos:=p}
 | .IfExp t x y p=>{e0:=t,e1:=x,e2:=y,pos:=p}
 | .ListComp el gs sc p=>{e0:=el,gs:=gs,sc:=sc,pos:=p}
 | .Compare l _ rs p=>{e0:=l,es:=rs,pos:=p}
 | .Call f xs ks p=>{e0:=f,es:=xs,e1:=(ks.headD ⟨none,dE,⟨0,0,0,0⟩⟩).value,e2:=.Name "" (ks.headD ⟨none,dE,⟨0,0,0,0⟩⟩).pos,pos:=p}
 | .Constant _ k p=>{k:=k,pos:=p}
 | .Attribute v _ p=>{e0:=v,pos:=p}
 | .Subscript v s p=>{e0:=v,e1:=s,pos:=p}
 | .Name _ p=>{pos:=p}
 | .List es p=>{es:=es,pos:=p}
 | .Tuple es k p=>{es:=es,k:=k,pos:=p}
 | .Slice l u s p=>{lo:=l,hi:=u,e2:=s.getD dE,pos:=p}
 | .Dict _ _ p=>{pos:=p}
 |_=>{}
noncomputable def b3V':D→Const
 | .bl b=>.bool b
 | .int i=>.int i
 | .str x=>.str x
 |_=>.none
def b2X':CT→Bool
 | .tup _=>true
 |_=>false
def b5e':CE→Bool
 | .band _ _=>true
 |_=>false
def isBor:CE→Bool
 | .bor _ _=>true
 |_=>false
def isCmp:CE→Bool
 | .comp .. =>true
 |_=>false
mutual
noncomputable def emT:CT→Ls→Expr→Expr
 | .var i,N,e=>.Name (N.getD i "") (vw e).pos
 | .tup ts,N,e=>.Tuple (emTL ts N (vw e).es) (vw e).k (vw e).pos
noncomputable def emTL:List CT→Ls→Lx→Lx
 | [],_,_=>[]
 |t::ts,N,es=>emT t N (es.headD dE)::emTL ts N es.tail
end
mutual
noncomputable def sdT(cell:Str→Bool)(N:Ls)(sc:Sc):CT→Bool
 | .var i=>N[i]?==some (N.getD i "")&&(sc.lookup (N.getD i "")==some .local||(cell (N.getD i "")&&sc.lookup (N.getD i "")==some .cell))
 | .tup ts=>sdTL cell N sc ts
noncomputable def sdTL(cell:Str→Bool)(N:Ls)(sc:Sc):List CT→Bool
 | []=>true
 |t::ts=>sdT cell N sc t&&sdTL cell N sc ts
end
mutual
noncomputable def emE:CE→Ls→Expr→Expr
 | .var i,N,e=>.Name (N.getD i "") (vw e).pos
 | .dct,_,e=>.Dict [] [] (vw e).pos
 | .rv0 _ _ _,_,e=>e
 | .odd _ _ _,_,e=>e
 | .rev _ _,_,e=>e
 | .lit d,_,e=>.Constant (b3V' d) (vw e).k (vw e).pos
 | .glob y,_,e=>.Name y (vw e).pos
 | .ty n,_,e=>.Name (Str.ofString n) (vw e).pos
 | .bin op a b,N,e=>.BinOp (emE a N (vw e).e0) op (emE b N (vw e).e1) (vw e).pos
 | .binB _ _,_,e=>e
 | .neg a,N,e=>.UnaryOp .USub (emE a N (vw e).e0) (vw e).pos
 | .cmp op a b,N,e=>.Compare (emE a N (vw e).e0) [op] [emE b N ((vw e).es.headD dE)] (vw e).pos
 | .chain op op' a b c,N,e=>.Compare (emE a N (vw e).e0) [op,op'] [emE b N ((vw e).es.headD dE),emE c N ((vw e).es.tail.headD dE)] (vw e).pos
 | .band a b,N,e=>.BoolOp .And (emE a N ((vw e).es.headD dE)::cond ((vw e).es.length==2) [emE b N ((vw e).es.tail.headD dE)] (vw (emE b N (.BoolOp .And (vw e).es.tail (vw e).pos))).es) (vw e).pos
 | .bor a b,N,e=>.BoolOp .Or (emE a N ((vw e).es.headD dE)::cond ((vw e).es.length==2) [emE b N ((vw e).es.tail.headD dE)] (vw (emE b N (.BoolOp .Or (vw e).es.tail (vw e).pos))).es) (vw e).pos
 | .bnot a,N,e=>.UnaryOp .Not (emE a N (vw e).e0) (vw e).pos
 | .ite c a b,N,e=>.IfExp (emE c N (vw e).e0) (emE a N (vw e).e1) (emE b N (vw e).e2) (vw e).pos
 | .tup es,N,e=>.Tuple (emL es N (vw e).es) (vw e).k (vw e).pos
 | .lst _ es,N,e=>.List (emL es N (vw e).es) (vw e).pos
 | .idx a b,N,e=>.Subscript (emE a N (vw e).e0) (emE b N (vw e).e1) (vw e).pos
 | .sl a lo hi,N,e=>.Subscript (emE a N (vw e).e0) (.Slice (emL lo N (vw (vw e).e1).lo.toList).head? (emL hi N (vw (vw e).e1).hi.toList).head? none (vw (vw e).e1).pos) (vw e).pos
 | .call f es,N,e=>.Call (.Name f (vw (vw e).e0).pos) (emL es N (vw e).es) [] (vw e).pos
 | .blt b es,N,e=>.Call (.Name (a4H' b) (vw (vw e).e0).pos) (emL es N (vw e).es) [] (vw e).pos
 | .tix _ _,_,e=>e
 | .meth m o es,N,e=>.Call (.Attribute (emE o N (vw (vw e).e0).e0) (a8B' m) (vw (vw e).e0).pos) (emL es N (vw e).es) [] (vw e).pos
 | .lenset _,_,e=>e
 | .sset a,N,e=>.Call (.Name "sorted" (vw (vw e).e0).pos) [.Call (.Name "set" (vw (vw ((vw e).es.headD dE)).e0).pos) [emE a N ((vw ((vw e).es.headD dE)).es.headD dE)] [] (vw ((vw e).es.headD dE)).pos] [] (vw e).pos
 | .sumL _,_,e=>e
 | .rng _ _ _,_,e=>e
 | .comp _ N' _ tg it ifs body,N,e=>.ListComp (emBe body N' (vw e).e0) (⟨emT tg N' ((vw e).gs.headD dG).target,emI it N ((vw e).gs.headD dG).iter,emL ifs N' ((vw e).gs.headD dG).ifs,0⟩::emBg body N' (vw e).gs.tail) (vw e).sc (vw e).pos
 | .emit _,_,e=>e
 | .inner _ _ _ _,_,e=>e
 | .seq _,_,e=>e
 | .range _,_,e=>e
 | .zip _,_,e=>e
 | .down _,_,e=>e
 | .enum _,_,e=>e
 | .revl _,_,e=>e
 | .by2 _,_,e=>e
noncomputable def emBe:CE→Ls→Expr→Expr
 | .emit a,N,e=>emE a N e
 | .inner _ _ _ body,N,e=>emBe body N e
 |_,_,e=>e
noncomputable def emBg:CE→Ls→List Comprehension→List Comprehension
 | .inner tg it ifs body,N,gs=>⟨emT tg N (gs.headD dG).target,emI it N (gs.headD dG).iter,emL ifs N (gs.headD dG).ifs,0⟩::emBg body N gs.tail
 |_,_,_=>[]
noncomputable def emL:List CE→Ls→Lx→Lx
 | [],_,_=>[]
 |c::cs,N,es=>emE c N (es.headD dE)::emL cs N es.tail
noncomputable def emI:CE→Ls→Expr→Expr
 | .seq c,N,e=>emE c N e
 | .range es,N,e=>.Call (.Name "range" (vw (vw e).e0).pos) (emL es N (vw e).es) [] (vw e).pos
 | .enum _,_,e=>e
 | .by2 _,_,e=>e
 | .revl _,_,e=>e
 | .down es,N,e=>.Call (.Name "reversed" (vw (vw e).e0).pos) [.Call (.Name "range" (vw (vw ((vw e).es.headD dE)).e0).pos) (emL es N (vw ((vw e).es.headD dE)).es) [] (vw ((vw e).es.headD dE)).pos] [] (vw e).pos
 | .zip es,N,e=>.Call (.Name "zip" (vw (vw e).e0).pos) (emL es N (vw e).es) [] (vw e).pos
 |_,_,e=>e
end
mutual
noncomputable def sdE:CE→Ls→Sc→Expr→Bool
 | .var i,N,sc,_=>N[i]?==some (N.getD i "")&&(visB sc (N.getD i "")&&b2V' (N.getD i ""))
 | .dct,_,_,_=>true
 | .rv0 _ _ _,_,_,_=>false
 | .odd _ _ _,_,_,_=>false
 | .rev _ _,_,_,_=>false
 | .lit d,_,_,_=>litIs d (b3V' d)
 | .glob y,_,sc,_=>gloB sc y
 | .ty n,_,sc,_=>gloB sc (Str.ofString n)&&a5x'.contains n
 | .bin _ a b,N,sc,e=>sdE a N sc (vw e).e0&&sdE b N sc (vw e).e1
 | .binB _ _,_,_,_=>false
 | .neg a,N,sc,e=>sdE a N sc (vw e).e0
 | .cmp op a b,N,sc,e=>sdE a N sc (vw e).e0&&(sdE b N sc ((vw e).es.headD dE)&& !behindInMarks op (emE b N ((vw e).es.headD dE)))
 | .chain _ op' a b c,N,sc,e=>sdE a N sc (vw e).e0&&(sdE b N sc ((vw e).es.headD dE)&&(sdE c N sc ((vw e).es.tail.headD dE)&& !behindInMarks op' (emE c N ((vw e).es.tail.headD dE))))
 | .band a b,N,sc,e=>sdE a N sc ((vw e).es.headD dE)&&cond ((vw e).es.length==2) (sdE b N sc ((vw e).es.tail.headD dE)) (b5e' b&&sdE b N sc (.BoolOp .And (vw e).es.tail (vw e).pos))
 | .bor a b,N,sc,e=>sdE a N sc ((vw e).es.headD dE)&&cond ((vw e).es.length==2) (sdE b N sc ((vw e).es.tail.headD dE)) (isBor b&&sdE b N sc (.BoolOp .Or (vw e).es.tail (vw e).pos))
 | .bnot a,N,sc,e=>sdE a N sc (vw e).e0
 | .ite c a b,N,sc,e=>sdE c N sc (vw e).e0&&(sdE a N sc (vw e).e1&&sdE b N sc (vw e).e2)
 | .tup es,N,sc,e=>sdL es N sc (vw e).es&&decide (es.length<1000)
 | .lst _ es,N,sc,e=>sdL es N sc (vw e).es&&decide (es.length<1000)
 | .idx a b,N,sc,e=>sdE a N sc (vw e).e0&&(sdE b N sc (vw e).e1&&a7I' (emE b N (vw e).e1))
 | .sl a lo hi,N,sc,e=>sdE a N sc (vw e).e0&&(sdL lo N sc (vw (vw e).e1).lo.toList&&(sdL hi N sc (vw (vw e).e1).hi.toList&&(decide (lo.length<2)&&decide (hi.length<2))))
 | .call f es,N,sc,e=>gloB sc f&&(sdL es N sc (vw e).es&& !es.isEmpty)
 | .blt b es,N,sc,e=>gloB sc (a4H' b)&&(sdL es N sc (vw e).es&&(!es.isEmpty&&bltB b))
 | .tix _ _,_,_,_=>false
 | .meth m o es,N,sc,e=>isNm (emE o N (vw (vw e).e0).e0)&&((vw (vw e).e0).pos.endLine==(vw e).pos.line&&(sdE o N sc (vw (vw e).e0).e0&&(sdL es N sc (vw e).es&&decide (es.length<20))))
 | .lenset _,_,_,_=>false
 | .sset a,N,sc,e=>gloB sc "sorted"&&(gloB sc "set"&&(sdE a N sc ((vw ((vw e).es.headD dE)).es.headD dE)&&a0T' (emE a N ((vw ((vw e).es.headD dE)).es.headD dE))))
 | .sumL _,_,_,_=>false
 | .rng _ _ _,_,_,_=>false
 | .comp _ N' fr tg it ifs body,N,sc,e=>scB (vw e).sc sc&&(frB (vw e).sc.names N' N fr&&(a9r' N'&&(sdT (ownB (vw e).sc.names) N' (relB (vw e).sc.names sc) tg&&(sdI it N sc tg ((vw e).gs.headD dG).iter&&(b2W' (emI it N ((vw e).gs.headD dG).iter)&&(sdL ifs N' (relB (vw e).sc.names sc) ((vw e).gs.headD dG).ifs&&sdB body (ownB (vw e).sc.names) N' (relB (vw e).sc.names sc) (vw e).gs.tail (vw e).e0))))))
 | .emit _,_,_,_=>false
 | .inner _ _ _ _,_,_,_=>false
 | .seq _,_,_,_=>false
 | .range _,_,_,_=>false
 | .zip _,_,_,_=>false
 | .down _,_,_,_=>false
 | .enum _,_,_,_=>false
 | .revl _,_,_,_=>false
 | .by2 _,_,_,_=>false
noncomputable def sdB:CE→(Str→Bool)→Ls→Sc→List Comprehension→Expr→Bool
 | .emit a,_,N,sc,_,e=>sdE a N sc e
 | .inner tg it ifs body,cell,N,sc,gs,e=>sdT cell N sc tg&&(sdI it N sc tg (gs.headD dG).iter&&(b2W' (emI it N (gs.headD dG).iter)&&(sdL ifs N sc (gs.headD dG).ifs&&sdB body cell N sc gs.tail e)))
 |_,_,_,_,_,_=>false
noncomputable def sdL:List CE→Ls→Sc→Lx→Bool
 | [],_,_,_=>true
 |c::cs,N,sc,es=>sdE c N sc (es.headD dE)&&(a0T' (emE c N (es.headD dE))&&sdL cs N sc es.tail)
noncomputable def sdI:CE→Ls→Sc→CT→Expr→Bool
 | .seq c,N,sc,_,e=>sdE c N sc e
 | .range es,N,sc,_,e=>gloB sc "range"&&(sdL es N sc (vw e).es&&(es.length==1||es.length==2))
 | .enum _,_,_,_,_=>false
 | .by2 _,_,_,_,_=>false
 | .revl _,_,_,_,_=>false
 | .down es,N,sc,_,e=>gloB sc "reversed"&&(gloB sc "range"&&(sdL es N sc (vw ((vw e).es.headD dE)).es&&es.length==1))
 | .zip es,N,sc,t,e=>gloB sc "zip"&&(sdL es N sc (vw e).es&&(es.length==2&&b2X' t))
 |_,_,_,_,_=>false
end
theorem andB{a b:Bool}(h:(a&&b)=true):a=true∧b=true:=Bool.and_eq_true_iff.mp h
theorem decB{p:Prop} [Decidable p] (h:decide p=true):p:=of_decide_eq_true h
theorem notB{a:Bool}(h:(!a)=true):a=false:=by cases a;rfl;cases h
end Py
variable {sc:Py.Sc}
namespace Py
noncomputable def spOf(K:Fg)(mg:Mg)(n:Nat)(φ:List D→Store→Res D):Sp:=λvs H Q E=>vs.length=n∧∃F μ S ds,SOk K ⟨mg,F⟩ μ S H∧RepL K ⟨mg,F⟩ μ H ds vs∧WantG K ⟨mg,F⟩ E (Rep K ⟨mg,F⟩) μ H Q (φ ds S)
structure FOk (P:Program)(w:World)(K:Fg)(mg:Mg)(base:Heap)(CX:CXT)(k:Nat)(f:Str)(φ:List D→Store→Res D):Prop where
 ex:∃fa fd ps,mg f=some (.ref fa)∧PySem.W.keepIn K (.ref fa)=true∧Binds K fd ps []∧FnOk P w K mg base CX k fa fd ps (spOf K mg ps.length φ)∧∀ds S,φ ds S≠.fail→ds.length=ps.length
noncomputable def a2m':Ls:=["len","tuple","list","int","min","max","isinstance","all","any","sorted","bool","str","dict","range","zip","set","sum","reversed","repr","abs","enumerate"]
structure MOk (P:Program)(w:World)(K:Fg)(mg:Mg)(base:Heap)(CX:CXT)(Φ:FT)(Γ:Str→Option D)(k:Nat):Prop where
 fns:∀f φ,Φ f=some φ→FOk P w K mg base CX k f φ
 gl:∀x d,Γ x=some d→∃v u,mg x=some u∧RelV v u∧∀F μ H,Rep K ⟨mg,F⟩ μ H d v
 bl:∀x∈a2m',mg x=none
structure XOk (X:Cx)(cell:Str→Bool)(N:Ls)(sc:Sc)(CX:CXT)(E:XK)(Φ:FT)(Γ:Str→Option D)(k:Nat):Prop where
 n:X.N=N
 nd:N.Nodup
 sc:X.env.scope.names=sc
 kd:X.env.scope.kind=.function
 calm:X.calm=true
 room:Room k X.A
 fn:∀x,cell x=true→X.fn x=true
 mod:MOk X.prog X.w X.K X.mg X.base CX Φ Γ k
 pass:b4L' CX X E
 cx0:∀outer H s e s',CX outer H s E0 e s'→False
section
variable {E:XK}{l r:Expr}{pos:Pos}{a b c:CE}
theorem s_bin{op:Operator}(ha:PE X l (tE X.K X.mg E Φ Γ a))(hb:PE X r (tE X.K X.mg E Φ Γ b)):PE X (.BinOp l op r pos) (tE X.K X.mg E Φ Γ (.bin op a b)):=
 weakE (pe_op (op_D op) ha hb) λσ H Q zz=>ex43 zz λF μ ρ S sk en w=>
  ⟨F,μ,ρ,S,sk,en,(WantG.bind w).mono λv1 H1 zz=>ex34 zz λμ1 S1 d1 x1 s1 r1 w1=>⟨F,μ1,ρ,S1,s1,en.mono x1,(WantG.bind w1).mono λv2 H2 zz=>ex34 zz λμ2 S2 d2 x2 s2 r2 w2=>⟨F,μ2,S2,d1,d2,s2,Rep.mono x2 _ _ r1,r2,a2e' w2⟩⟩⟩
theorem s_cmp{op:CmpOp}(hu:X.A.units+64<cLine)(ha:PE X l (tE X.K X.mg E Φ Γ a))(hb:PE X r (tE X.K X.mg E Φ Γ b))(hm:behindInMarks op r=false):PE X (.Compare l [op] [r] pos) (tE X.K X.mg E Φ Γ (.cmp op a b)):=
 weakE (pe_cmpR (cmp_D op hu) ha hb hm) λσ H Q zz=>ex43 zz λF μ ρ S sk en w=>
  ⟨F,μ,ρ,S,sk,en,(WantG.bind w).mono λv1 H1 zz=>ex34 zz λμ1 S1 d1 x1 s1 r1 w1=>⟨F,μ1,ρ,S1,s1,en.mono x1,(WantG.bind w1).mono λv2 H2 zz=>ex34 zz λμ2 S2 d2 x2 s2 r2 w2=>⟨F,μ2,S2,d1,d2,s2,Rep.mono x2 _ _ r1,r2,a2e' w2⟩⟩⟩
theorem a5y'{mg:GS}{E:XK}{Rel:La→Hp→α→β→Prop}{Q:β→Hp→Prop}{f:Bool→Res α}
  (w:WantG K mg E Rel μ H Q (onBl d f)) (r:Rep K mg μ H d v):∃k,v=.bl k∧d=.bl k∧WantG K mg E Rel μ H Q (f k):=by
 cases d with
 |bl k=>exact⟨k,a6D' r,rfl,w⟩
 |_=>exact w.elim
theorem t_cmp{op:CmpOp}(hu:X.A.units+64<cLine)(ha:PE X l (tE X.K X.mg E Φ Γ a))(hb:PE X r (tE X.K X.mg E Φ Γ b))(hm:behindInMarks op r=false):PT X (.Compare l [op] [r] pos) (tT X.K X.mg E Φ Γ (.cmp op a b)):=
 weakT (pt_cmpR (cmp_D op hu) ha hb hm) λσ H Q zz=>ex43 zz λF μ ρ S sk en w=>
  ⟨F,μ,ρ,S,sk,en,(WantG.bind w).mono λv1 H1 zz=>ex34 zz λμ1 S1 d1 x1 s1 r1 w1=>⟨F,μ1,ρ,S1,s1,en.mono x1,(WantG.bind w1).mono λv2 H2 zz=>ex34 zz λμ2 S2 d2 x2 s2 r2 w2=>
   ⟨F,μ2,S2,d1,d2,s2,Rep.mono x2 _ _ r1,r2,a2e' ((WantG.bind w2).mono λv3 H3 zz=>ex34 zz λμ3 S3 d3 x3 s3 r3 w3=>by obtain⟨k,rfl,rfl,w4⟩:=a5y' w3 r3;exact⟨k,rfl,w4 μ3 H3 k .refl s3 rfl⟩)⟩⟩⟩
theorem s_chain{op:CmpOp}(hu:X.A.units+64<cLine)(ha:PE X l (tE X.K X.mg E Φ Γ a))(hb:PE X r (tE X.K X.mg E Φ Γ b))(hc:PE X r' (tE X.K X.mg E Φ Γ c))(hm:behindInMarks op' r'=false):PE X (.Compare l [op,op'] [r,r'] pos) (tE X.K X.mg E Φ Γ (.chain op op' a b c)):=
 weakE (b4I' (cmp_D op hu) (cmp_D op' hu) ha hb hc hm) λσ H Q zz=>ex43 zz λF μ ρ S sk en w=>
  ⟨F,μ,ρ,S,sk,en,(WantG.bind w).mono λv1 H1 zz=>ex34 zz λμ1 S1 d1 x1 s1 r1 w1=>⟨F,μ1,ρ,S1,s1,en.mono x1,(WantG.bind w1).mono λv2 H2 zz=>ex34 zz λμ2 S2 d2 x2 s2 r2 w2=>
   ⟨F,μ2,S2,d1,d2,s2,Rep.mono x2 _ _ r1,r2,a2e' ((WantG.bind w2).mono λv3 H3 zz=>ex34 zz λμ3 S3 d3 x3 s3 r3 w3=>by
    obtain⟨k,rfl,rfl,w4⟩:=a5y' w3 r3;refine⟨k,rfl,?_⟩;cases k with
    |true=>rw[if_pos rfl]at w4⊢;exact⟨F,μ3,ρ,S3,s3,(en.mono x1).mono (x2.trans x3),(WantG.bind w4).mono λv4 H4 zz=>ex34 zz λμ4 S4 d4 x4 s4 r4 w5=>⟨F,μ4,S4,d2,d4,s4,Rep.mono (x3.trans x4) _ _ r2,r4,a2e' w5⟩⟩
    |false=>rw[if_neg (by decide)]at w4⊢;exact w4 μ3 H3 _ .refl s3 repBl)⟩⟩⟩
theorem t_chain{op:CmpOp}(hu:X.A.units+64<cLine)(ha:PE X l (tE X.K X.mg E Φ Γ a))(hb:PE X r (tE X.K X.mg E Φ Γ b))(hc:PE X r' (tE X.K X.mg E Φ Γ c))(hm:behindInMarks op' r'=false):PT X (.Compare l [op,op'] [r,r'] pos) (tT X.K X.mg E Φ Γ (.chain op op' a b c)):=
 weakT (b4J' (cmp_D op hu) (cmp_D op' hu) ha hb hc hm) λσ H Q zz=>ex43 zz λF μ ρ S sk en w=>
  ⟨F,μ,ρ,S,sk,en,(WantG.bind w).mono λv1 H1 zz=>ex34 zz λμ1 S1 d1 x1 s1 r1 w1=>⟨F,μ1,ρ,S1,s1,en.mono x1,(WantG.bind w1).mono λv2 H2 zz=>ex34 zz λμ2 S2 d2 x2 s2 r2 w2=>
   ⟨F,μ2,S2,d1,d2,s2,Rep.mono x2 _ _ r1,r2,a2e' ((WantG.bind w2).mono λv3 H3 zz=>ex34 zz λμ3 S3 d3 x3 s3 r3 w3=>by
    obtain⟨k,rfl,rfl,w4⟩:=a5y' w3 r3;refine⟨k,rfl,?_⟩;cases k with
    |true=>rw[if_pos rfl]at w4⊢;exact⟨F,μ3,ρ,S3,s3,(en.mono x1).mono (x2.trans x3),(WantG.bind w4).mono λv4 H4 zz=>ex34 zz λμ4 S4 d4 x4 s4 r4 w5=>⟨F,μ4,S4,d2,d4,s4,Rep.mono (x3.trans x4) _ _ r2,r4,a2e' ((WantG.bind w5).mono λv5 H5 zz=>ex34 zz λμ5 S5 d5 x5 s5 r5 w6=>by obtain⟨k,rfl,rfl,w7⟩:=a5y' w6 r5;exact⟨k,rfl,w7 μ5 H5 k .refl s5 rfl⟩)⟩⟩
    |false=>rw[if_neg (by decide)]at w4⊢;exact⟨false,rfl,w4 μ3 H3 _ .refl s3 rfl⟩)⟩⟩⟩
theorem s_and(ha:PE X l (tE X.K X.mg E Φ Γ a))(hb:PE X (.BoolOp .And (r::rest) pos) (tE X.K X.mg E Φ Γ b)):PE X (.BoolOp .And (l::r::rest) pos) (tE X.K X.mg E Φ Γ (.band a b)):=
 weakE (pe_and ha hb) λσ H Q zz=>ex43 zz λF μ ρ S sk en w=>
  ⟨F,μ,ρ,S,sk,en,(WantG.bind w).mono λv1 H1 zz=>ex34 zz λμ1 S1 d1 x1 s1 r1 w1=>by
   obtain⟨k,rfl,rfl,w2⟩:=a5y' w1 r1;refine⟨k,rfl,?_⟩;cases k with
   |true=>rw[if_pos rfl]at w2⊢;exact⟨F,μ1,ρ,S1,s1,en.mono x1,w2⟩
   |false=>rw[if_neg (by decide)]at w2⊢;exact w2 μ1 H1 _ .refl s1 repBl⟩
theorem s_or(ha:PE X l (tE X.K X.mg E Φ Γ a))(hb:PE X (.BoolOp .Or (r::rest) pos) (tE X.K X.mg E Φ Γ b)):PE X (.BoolOp .Or (l::r::rest) pos) (tE X.K X.mg E Φ Γ (.bor a b)):=
 weakE (pe_or ha hb) λσ H Q zz=>ex43 zz λF μ ρ S sk en w=>
  ⟨F,μ,ρ,S,sk,en,(WantG.bind w).mono λv1 H1 zz=>ex34 zz λμ1 S1 d1 x1 s1 r1 w1=>by
   obtain⟨k,rfl,rfl,w2⟩:=a5y' w1 r1;refine⟨k,rfl,?_⟩;cases k with
   |true=>rw[if_pos rfl]at w2⊢;exact w2 μ1 H1 _ .refl s1 repBl
   |false=>rw[if_neg (by decide)]at w2⊢;exact⟨F,μ1,ρ,S1,s1,en.mono x1,w2⟩⟩
theorem pe_notT(ha:PE X l ta):PE X (.UnaryOp .Not l pos) (λσ H Q=>ta σ H λx H'=>∃k,TruV X.K x H' k∧Q (.bl (!k)) H'):=by intro pq s σ H Q I h;refine UnaryOp_ (thn (ha pq s σ H _ I h) λv s1 ⟨x,H1,I1,r1,k,t1,q1⟩=>?_);refine not_of (thn (tru_ok pq s1 σ H1 x v (λk H'=>Q (.bl (!k)) H') I1 r1 ⟨k,t1,q1⟩) λk' s2 ⟨H2,I2,q2⟩=>?_);exact⟨.bl (!k'),H2,I2,rfl,q2⟩
theorem b0G'{mg:GS}{E:XK}{Rel:La→Hp→α→β→Prop}{Q:β→Hp→Prop}{f:Bool→Res α}
  (w:WantG K mg E Rel μ H Q (match truD S d with|some k=>f k|none=>.fail)):∃k,truD S d=some k∧WantG K mg E Rel μ H Q (f k):=by
 cases e:truD S d with
 |none=>rw[e]at w;exact w.elim
 |some k=>rw[e]at w;exact⟨k,rfl,w⟩
theorem s_not(ha:PE X l (tE X.K X.mg E Φ Γ a)):PE X (.UnaryOp .Not l pos) (tE X.K X.mg E Φ Γ (.bnot a)):=
 weakE (pe_notT ha) λσ H Q zz=>ex43 zz λF μ ρ S sk en w=>⟨F,μ,ρ,S,sk,en,(WantG.bind w).mono λv1 H1 zz=>ex34 zz λμ1 S1 d1 x1 s1 r1 w1=>by obtain⟨k,e,w2⟩:=b0G' w1;exact⟨k,tru_D s1 r1 e,w2 μ1 H1 _ .refl s1 repBl⟩⟩
theorem s_neg(ha:PE X l (tE X.K X.mg E Φ Γ a)):PE X (.UnaryOp .USub l pos) (tE X.K X.mg E Φ Γ (.neg a)):=
 weakE (pe_un un_neg ha) λσ H Q zz=>ex43 zz λF μ ρ S sk en w=>⟨F,μ,ρ,S,sk,en,(WantG.bind w).mono λv1 H1 zz=>ex34 zz λμ1 S1 d1 x1 s1 r1 w1=>by
  cases d1 with
  |int i=>exact⟨i,a0b' r1,w1 μ1 H1 _ .refl s1 a1l'⟩
  |_=>exact w1.elim⟩
theorem t_and(ha:PT X l (tT X.K X.mg E Φ Γ a))(hb:PW X (.BoolOp .And (r::rest) pos) (tT X.K X.mg E Φ Γ b)):PW X (.BoolOp .And (l::r::rest) pos) (tT X.K X.mg E Φ Γ (.band a b)):=λwh pq s σ H Q I zz=>ex43 zz λF μ ρ S sk en w=>
 pw_and ha hb wh pq s σ H Q I ⟨F,μ,ρ,S,sk,en,(WantG.bind w).mono λk H1 zz=>ex34 zz λμ1 S1 k' x1 s1 e1 w1=>by
  subst e1;cases k' with
  |true=>rw[if_pos rfl]at w1⊢;exact⟨F,μ1,ρ,S1,s1,en.mono x1,w1⟩
  |false=>rw[if_neg (by decide)]at w1⊢;exact w1 μ1 H1 _ .refl s1 rfl⟩
theorem t_or(ha:PT X l (tT X.K X.mg E Φ Γ a))(hb:PW X (.BoolOp .Or (r::rest) pos) (tT X.K X.mg E Φ Γ b)):PW X (.BoolOp .Or (l::r::rest) pos) (tT X.K X.mg E Φ Γ (.bor a b)):=λwh pq s σ H Q I zz=>ex43 zz λF μ ρ S sk en w=>
 pw_or ha hb wh pq s σ H Q I ⟨F,μ,ρ,S,sk,en,(WantG.bind w).mono λk H1 zz=>ex34 zz λμ1 S1 k' x1 s1 e1 w1=>by
  subst e1;cases k' with
  |true=>rw[if_pos rfl]at w1⊢;exact w1 μ1 H1 _ .refl s1 rfl
  |false=>rw[if_neg (by decide)]at w1⊢;exact⟨F,μ1,ρ,S1,s1,en.mono x1,w1⟩⟩
theorem t_not(ha:PT X l (tT X.K X.mg E Φ Γ a)):PT X (.UnaryOp .Not l pos) (tT X.K X.mg E Φ Γ (.bnot a)):=
 weakT (pt_not ha) λσ H Q zz=>ex43 zz λF μ ρ S sk en w=>⟨F,μ,ρ,S,sk,en,(WantG.bind w).mono λk H1 zz=>ex34 zz λμ1 S1 k' x1 s1 e1 w1=>by subst e1;exact w1 μ1 H1 _ .refl s1 rfl⟩
theorem s_ite{t x y:Expr}(hc:PT X t (tT X.K X.mg E Φ Γ c))(ha:PE X x (tE X.K X.mg E Φ Γ a))(hb:PE X y (tE X.K X.mg E Φ Γ b)):PE X (.IfExp t x y pos) (tE X.K X.mg E Φ Γ (.ite c a b)):=
 weakE (b4D' hc ha hb) λσ H Q zz=>ex43 zz λF μ ρ S sk en w=>⟨F,μ,ρ,S,sk,en,(WantG.bind w).mono λk H1 zz=>ex34 zz λμ1 S1 k' x1 s1 e1 w1=>by
  subst e1;cases k' with
  |true=>rw[if_pos rfl]at w1⊢;exact⟨F,μ1,ρ,S1,s1,en.mono x1,w1⟩
  |false=>rw[if_neg (by decide)]at w1⊢;exact⟨F,μ1,ρ,S1,s1,en.mono x1,w1⟩⟩
theorem s_nil:PA X [] (tL X.K X.mg E Φ Γ []):=weakA pa_nil λσ H Q zz=>ex43 zz λF μ ρ S sk en w=>w μ H [] .refl sk .nil
theorem a0y'{es:Lx}(h:a0T' e=true):starEach (e::es) env=(false,eval e env)::starEach es env:=by cases e<;>first|rfl|cases h
theorem s_cons{es:Lx}{cs:List CE}(hn:a0T' e=true)(ha:PE X e (tE X.K X.mg E Φ Γ a))(hr:PA X es (tL X.K X.mg E Φ Γ cs)):PA X (e::es) (tL X.K X.mg E Φ Γ (a::cs)):=
 weakA (b3M' ha hr (a0y' hn)) λσ H Q zz=>ex43 zz λF μ ρ S sk en w=>⟨F,μ,ρ,S,sk,en,(WantG.bind w).mono λv1 H1 zz=>ex34 zz λμ1 S1 d1 x1 s1 r1 w1=>
  ⟨F,μ1,ρ,S1,s1,en.mono x1,(WantG.bind w1).mono λvs H2 zz=>ex34 zz λμ2 S2 ds x2 s2 r2 w2=>w2 μ2 H2 _ .refl s2 (.cons (Rep.mono x2 _ _ r1) r2)⟩⟩
end
theorem b0H':∀{cs:List CE} {N:Ls} {es:Lx},(emL cs N es).length=cs.length
 | [],N,es=>rfl
 |c::cs,N,es=>congrArg Nat.succ (b0H' (cs:=cs) (N:=N) (es:=es.tail))
theorem a1O':∀{cs:List CE} {N:Ls} {sc:Sc} {es:Lx},sdL cs N sc es=true→∀e∈emL cs N es,a0T' e=true
 | [],N,sc,es,h,e,he=>absurd he Z1
 |c::cs,N,sc,es,h,e,he=>by
  rcases Zj.mp he with rfl|he
  ·exact(andB (andB h).2).1
  ·exact a1O' (andB (andB h).2).2 e he
theorem a4u':∀{es:Lx} {env:Env} {pos:Pos},(∀e∈es,a0T' e=true)→(backTo pos (starEach es env)).any (·.1)=false
 | [],env,pos,h=>rfl
 |e::es,env,pos,h=>by rw[a0y' (h e Zb)];show(false||(backTo pos (starEach es env)).any (·.1))=false;rw[a4u' λe he=>h e (Zc _ he)];rfl
theorem b0I':∀{es:Lx} {env:Env} {pos:Pos},(∀e∈es,a0T' e=true)→(backTo pos (starEach es env)).all (λx=> !x.1)=true
 | [],env,pos,h=>rfl
 |e::es,env,pos,h=>by rw[a0y' (h e Zb)];show(!false&&(backTo pos (starEach es env)).all (λx=> !x.1))=true;rw[b0I' λe he=>h e (Zc _ he)];rfl
theorem a7J':∀{cs:List CE} {ρ:Rho} {S S':Store} {ds:List D},denL Φ Γ cs ρ S=.ok ds S'→ds.length=cs.length
 | [],ρ,S,S',ds,h=>by unfold denL at h;cases h;rfl
 |c::cs,ρ,S,S',ds,h=>by
  unfold denL at h;cases e:den Φ Γ c ρ S with
  |ok d S1=>
   rw[e]at h;cases e2:denL Φ Γ cs ρ S1 with
   |ok ds1 S2=>simp only[Res.bind,e2]at h;cases h;simp[a7J' e2]
   |err x S2=>simp only[Res.bind,e2]at h;cases h
   |fail=>simp only[Res.bind,e2]at h;cases h
  |err x S1=>rw[e]at h;cases h
  |fail=>rw[e]at h;cases h
theorem b2Y'{x:Str}{s:Scope}(hs:s.names=sc)(h:visB sc x=true):Vis s x:=by unfold Vis;rw[hs];unfold visB at h;split at h<;>simp_all
theorem a5z'{x:Str}(h:b2V' x=true):(x==("__debug__":Str))=false∧(x==("__classdict__":Str))=false:=by unfold b2V' at h;simp only[ZA,Yi]at h;exact h
theorem a0Q'{x:Str}(h:gloB sc x=true):sc.lookup x=some .globalImplicit∧(x==("__debug__":Str))=false∧x≠"__name__":=by unfold gloB at h;simp only[ZA,Yi,beq_iff_eq]at h;refine⟨h.1.1,h.1.2,λz=>?_⟩;subst z;exact absurd h.2 (by decide)
section
variable {E:XK}{l r:Expr}{es:Lx}{pos:Pos}{a b c:CE}{cs:List CE}{x:Str}
theorem XOk.gl(O:XOk X cell N sc CX E Φ Γ k)(h:sc.lookup x=some .globalImplicit):Gl X x:=by show X.env.scope.names.lookup x=_;rw[O.sc];exact h
theorem s_var(O:XOk X cell N sc CX E Φ Γ k){i:Nat}(h1:(N[i]?==some x)=true)(h2:visB sc x=true)(h3:b2V' x=true):PE X (.Name x pos) (tE X.K X.mg E Φ Γ (.var i)):=by
 refine weakE (pe_var (i:=i) (by rw[O.n];simpa using h1) (b2Y' O.sc h2) (a5z' h3).1 (a5z' h3).2) λσ H Q zz=>ex43 zz λF μ ρ S sk en w=>?_;simp only[den]at w;split at w
 ·rename_i d e;obtain⟨v,e1,r1⟩:=en.2 i d e;exact⟨v,e1,w μ H v .refl sk r1⟩
 ·exact w.elim
theorem s_lit{cn:Const}{j}(h:litIs d cn=true):PE X (.Constant cn j pos) (tE X.K X.mg E Φ Γ (.lit d)):=by
 unfold litIs at h;split at h
 ·exact weakE pe_non λσ H Q zz=>ex43 zz λF μ ρ S sk en w=>w μ H _ .refl sk b0u'
 ·have e:=(beq_iff_eq).mp h;subst e;exact weakE pe_bl λσ H Q zz=>ex43 zz λF μ ρ S sk en w=>w μ H _ .refl sk repBl
 ·have e:=(beq_iff_eq).mp h;subst e;exact weakE pe_int λσ H Q zz=>ex43 zz λF μ ρ S sk en w=>w μ H _ .refl sk a1l'
 ·have e:=(beq_iff_eq).mp h;subst e;exact weakE pe_str λσ H Q zz=>ex43 zz λF μ ρ S sk en w=>w μ H _ .refl sk repStr
 ·cases h
theorem s_glob(O:XOk X cell N sc CX E Φ Γ k)(h:gloB sc x=true):PE X (.Name x pos) (tE X.K X.mg E Φ Γ (.glob x)):=by
 obtain⟨h1,h2,h3⟩:=a0Q' h;cases e:Γ x with
 |none=>intro pq s σ H Q I ⟨F,μ,ρ,S,sk,en,w⟩;simp only[den]at w;rw[e]at w;exact w.elim
 |some d=>obtain⟨v,u,m1,m2,m3⟩:=O.mod.gl x d e;refine weakE (pe_glob (O.gl h1) m1 m2 h2) λσ H Q zz=>ex43 zz λF μ ρ S sk en w=>?_;simp only[den]at w;rw[e]at w;exact w μ H v .refl sk (m3 F μ H)
theorem tyN_blt{n:String}(h:a5x'.contains n=true):(Str.ofString n)∈a2m':=by simp[a5x']at h;rcases h with rfl|rfl|rfl|rfl|rfl|rfl<;>decide+kernel
theorem s_ty(O:XOk X cell N sc CX E Φ Γ k){n:String}(h:gloB sc (Str.ofString n)=true)(h2:a5x'.contains n=true):PE X (.Name (Str.ofString n) pos) (tE X.K X.mg E Φ Γ (.ty n)):=by obtain⟨h1,h3,h4⟩:=a0Q' h;refine weakE (pe_bltn (v:=.ty n) (O.gl h1) (O.mod.bl _ (tyN_blt h2)) (ty_boot h2) rfl h4 h3) λσ H Q zz=>ex43 zz λF μ ρ S sk en w=>?_;exact w μ H (.ty n) .refl sk (by unfold Rep;rfl)
theorem len_of{mg:GS}{Q:List V→Hp→Prop}(hl:cs.length<1000)(w:WantG K mg E (RepL K mg) μ H Q (denL Φ Γ cs ρ S)):WantG K mg E (RepL K mg) μ H (λvs H'=>vs.length≤sizeLine∧Q vs H') (denL Φ Γ cs ρ S):=by
 cases e:denL Φ Γ cs ρ S with
 |ok ds S'=>rw[e]at w;intro μ' H' vs x s r;refine⟨?_,w μ' H' vs x s r⟩;rw[←r.length,a7J' e];exact Nat.le_of_lt (ZU hl (by decide))
 |err y S'=>rw[e]at w;exact w
 |fail=>rw[e]at w;exact w
theorem s_tup{x1}(hl:cs.length<1000)(h:PA X es (tL X.K X.mg E Φ Γ cs)):PE X (.Tuple es x1 pos) (tE X.K X.mg E Φ Γ (.tup cs)):=
 weakE (pe_tup h) λσ H Q zz=>ex43 zz λF μ ρ S sk en w=>⟨F,μ,ρ,S,sk,en,(len_of hl (WantG.bind w)).mono λvs H1 ⟨hz,μ1,S1,ds,x1,s1,r1,w1⟩=>⟨hz,λp hp=>by exact Want.tup (show Want X.K ⟨X.mg,F⟩ μ1 H1 Q (.ok (.tup ds) S1)from w1) s1 r1 p hp⟩⟩
theorem s_lst{box:Bool}(hl:cs.length<1000)(h:PA X es (tL X.K X.mg E Φ Γ cs)):PE X (.List es pos) (tE X.K X.mg E Φ Γ (.lst box cs)):=
 weakE (pe_lst h) λσ H Q zz=>ex43 zz λF μ ρ S sk en w=>⟨F,μ,ρ,S,sk,en,(len_of hl (WantG.bind w)).mono λvs H1 ⟨hz,μ1,S1,ds,x1,s1,r1,w1⟩=>⟨hz,λp hp=>by
  cases box with
  |true=>exact Want.box (show Want X.K ⟨X.mg,F⟩ μ1 H1 Q (.ok (.ref S1.length) (S1++[ds]))from w1) s1 r1 p hp
  |false=>exact Want.lst (show Want X.K ⟨X.mg,F⟩ μ1 H1 Q (.ok (.lst ds) S1)from w1) s1 r1 p hp⟩⟩
theorem s_dct:PE X (.Dict [] [] pos) (tE X.K X.mg E Φ Γ .dct):=λpq s σ H Q I zz=>ex43 zz λF μ ρ S sk en w=>by
 have hlt:mainGlobals<s.heap.objs.size:=ZU I.mod.glob.lt (ZP I.ok.bsz I.sz);have hp:H s.heap.objs.size=none:=I.hok.fresh (Zi _);refine wpAny_Dict_empty ⟨.ref s.heap.objs.size,upd H s.heap.objs.size (.dK []),I.laid (t':=s.toks) (o:=.dK []) (λb ob q=>Zd _ q) (Zi _) ?_,rfl,?_⟩
 ·refine⟨Nat.zero_le _,?_,[],.nil,_, #[],_,Zo _ rfl,⟨rfl,rfl,rfl⟩,rfl,λe he=>by simp at he,.nil,.nil⟩;have h3:mainGlobals=3:=rfl;have h1:sysModules=1:=rfl;rw[beq_eq_false_iff_ne];intro z;rw[z,h1,h3]at hlt;exact absurd hlt (by decide)
 ·exact w μ _ _ (.laid hp) (sk.laid hp) (by unfold Rep;exact⟨_,rfl,a0U'⟩)
theorem s_idx(hs:a7I' r=true)(ha:PE X l (tE X.K X.mg E Φ Γ a))(hb:PE X r (tE X.K X.mg E Φ Γ b)):PE X (.Subscript l r pos) (tE X.K X.mg E Φ Γ (.idx a b)):=
 weakE (pe_ix ix_D ha hb (b5d' hs)) λσ H Q zz=>ex43 zz λF μ ρ S sk en w=>
  ⟨F,μ,ρ,S,sk,en,(WantG.bind w).mono λv1 H1 zz=>ex34 zz λμ1 S1 d1 x1 s1 r1 w1=>⟨F,μ1,ρ,S1,s1,en.mono x1,(WantG.bind w1).mono λv2 H2 zz=>ex34 zz λμ2 S2 d2 x2 s2 r2 w2=>⟨F,μ2,S2,d1,d2,s2,Rep.mono x2 _ _ r1,r2,a2e' w2⟩⟩⟩
def tPt(K:Fg)(mg:Mg)(E:XK)(Φ:FT)(Γ:Str→Option D)(cs:List CE):TO:=λσ H Q=>∃F μ ρ S,SOk K ⟨mg,F⟩ μ S H∧EnvR K ⟨mg,F⟩ μ H ρ σ∧
 WantG K ⟨mg,F⟩ E (λ_ _ o o'=>o=o') μ H Q ((denL Φ Γ cs ρ S).bind optL)
theorem s_part0:PO X none (tPt X.K X.mg E Φ Γ []):=by intro pq s σ H Q I ⟨F,μ,ρ,S,sk,en,w⟩;exact po_none pq s σ H Q I (w μ H none .refl sk rfl)
theorem s_part1(ha:PE X e (tE X.K X.mg E Φ Γ a)):PO X (some e) (tPt X.K X.mg E Φ Γ [a]):=by
 intro pq s σ H Q I ⟨F,μ,ρ,S,sk,en,w⟩;refine po_some ha pq s σ H Q I ⟨F,μ,ρ,S,sk,en,?_⟩
 have w':WantG X.K ⟨X.mg,F⟩ E (λ_ _ o o'=>o=o') μ H Q ((den Φ Γ a ρ S).bind λd S1=>optL [d] S1):=by
  have e1:(denL Φ Γ [a] ρ S).bind optL=(den Φ Γ a ρ S).bind λd S1=>optL [d] S1:=by rw[denL];cases den Φ Γ a ρ S<;>rfl
  rw[←e1];exact w
 refine(WantG.bind w').mono λv H1 zz=>ex34 zz λμ1 S1 d x1 s1 r1 w1=>?_;cases d with
 |int i=>exact⟨i,a0b' r1,w1 μ1 H1 (some i) .refl s1 rfl⟩
 |_=>exact w1.elim
theorem s_sl{lo hi:Option Expr}{cl ch:List CE}(ha:PE X l (tE X.K X.mg E Φ Γ a))(hl:PO X lo (tPt X.K X.mg E Φ Γ cl))(hh:PO X hi (tPt X.K X.mg E Φ Γ ch)):PE X (.Subscript l (.Slice lo hi none p2) pos) (tE X.K X.mg E Φ Γ (.sl a cl ch)):=
 weakE (b4O' sl_D ha hl hh) λσ H Q zz=>ex43 zz λF μ ρ S sk en w=>⟨F,μ,ρ,S,sk,en,(WantG.bind w).mono λv1 H1 zz=>ex34 zz λμ1 S1 d1 x1 s1 r1 w1=>⟨F,μ1,ρ,S1,s1,en.mono x1,
  (WantG.bind w1).mono λo H2 zz=>ex34 zz λμ2 S2 o' x2 s2 e2 w2=>⟨F,μ2,ρ,S2,s2,(en.mono x1).mono x2,(WantG.bind w2).mono λo2 H3 zz=>ex34 zz λμ3 S3 o2' x3 s3 e3 w3=>by subst e2;subst e3;exact⟨F,μ3,S3,d1,s3,Rep.mono (x2.trans x3) _ _ r1,a2e' w3⟩⟩⟩⟩
theorem s_call(O:XOk X cell N sc CX E Φ Γ k){f:Str}(h:gloB sc f=true)(hst:∀x∈e::es,a0T' x=true)(ha:PA X (e::es) (tL X.K X.mg E Φ Γ cs)):PE X (.Call (.Name f p2) (e::es) [] pos) (tE X.K X.mg E Φ Γ (.call f cs)):=by
 obtain⟨h1,h2,h3⟩:=a0Q' h;cases ef:Φ f with
 |none=>intro pq s σ H Q I ⟨F,μ,ρ,S,sk,en,w⟩;simp only[den]at w;rw[ef]at w;exact w.elim
 |some φ=>obtain⟨fa,fd,ps,m1,m2,m3,m4,m5⟩:=(O.mod.fns f φ ef).ex;refine weakE (pe_call (E:=E) m4 O.room (O.gl h1) m1 m2 m3 .nil O.pass ha h2 (a0y' (hst e Zb)) (a4u' λx hx=>hst x (Zc _ hx))) λσ H Q zz=>ex43 zz λF μ ρ S sk en w=>?_;simp only[den]at w;rw[ef]at w;refine⟨F,μ,ρ,S,sk,en,(WantG.bind w).mono λvs H1 zz=>ex34 zz λμ1 S1 ds x1 s1 r1 w1=>?_⟩;rw[Yd];refine⟨?_,F,μ1,S1,ds,s1,r1,w1⟩;rw[←r1.length];exact m5 ds S1 λz=>by rw[z]at w1;exact w1
theorem s_blt(O:XOk X cell N sc CX E Φ Γ k){b:Blt}(hb:CallR X (bltIs b) (rC X.K X.mg (bltD b)))(h:gloB sc (a4H' b)=true)(hst:∀x∈e::es,a0T' x=true)(ha:PA X (e::es) (tL X.K X.mg E Φ Γ cs)):PE X (.Call (.Name (a4H' b) p2) (e::es) [] pos) (tE X.K X.mg E Φ Γ (.blt b cs)):=by
 obtain⟨h1,h2,h3⟩:=a0Q' h
 have hm:X.mg (a4H' b)=none:=O.mod.bl _ (by
  cases b with
  |list box=>show(Str.ofString "list")∈a2m';decide+kernel
  |sorted box t=>show(Str.ofString "sorted")∈a2m';decide+kernel
  |_=>decide+kernel)
 have key:PE X (.Call (.Name (a4H' b) p2) (e::es) [] pos) (tCB (rC X.K X.mg (bltD b)) (tL X.K X.mg E Φ Γ cs)):=by
  have s1:=a0y' (env:=X.env) (es:=es) (hst e Zb);have s2:=a4u' (env:=X.env) (pos:=pos) λx hx=>hst x (Zc _ hx);have hv:=b5c' b;cases b with
  |tuple=>exact a5S' hb (O.gl h1) hm hv ha h3 h2 s1 s2
  |list box=>exact a5S' hb (O.gl h1) hm hv ha h3 h2 s1 s2
  |int=>exact a5S' hb (O.gl h1) hm hv ha h3 h2 s1 s2
  |_=>exact b4M' hb (O.gl h1) hm hv ha h3 h2 s1 s2
 refine weakE key λσ H Q zz=>ex43 zz λF μ ρ S sk en w=>⟨F,μ,ρ,S,sk,en,(WantG.bind w).mono λvs H1 zz=>ex34 zz λμ1 S1 ds x1 s1 r1 w1=>⟨F,μ1,S1,ds,s1,r1,a2e' w1⟩⟩
theorem b0J'{mg:GS}(s:SOk K mg μ S H)(r:Rep K mg μ H (.ref n) v):tyV K "list" v H:=by
 unfold Rep at r;obtain⟨a,rfl,h⟩:=r;have hl:n<S.length:=by rw[←s.len];exact(Zl.mp h).1
 obtain⟨vs,h1,q⟩:=s.at_ n a _ h (Ze hl);exact .inl ⟨rfl,vs,.of h1⟩
noncomputable def mthId:Mth→String
 | .append=>"list.append"| .extend=>"list.extend"| .pop=>"list.pop"| .count=>"list.count"| .insert=>"list.insert"
theorem mth_ok(m:Mth):MtR X (mthId m) (rM X.K X.mg (methD m)):=by
 cases m with
 |append=>exact b4V'
 |count=>exact λ_ _ _ _ _ _ _ _ _ _ _ _ ⟨_,_,_,_,_,_,_,_,w⟩=>w.elim
 |insert=>exact λ_ _ _ _ _ _ _ _ _ _ _ _ ⟨_,_,_,_,_,_,_,_,w⟩=>w.elim
 |extend=>exact b4W'
 |pop=>
  intro pq s σ H x xs v us Q I rx rs h;obtain⟨F,μ,S,d,ds,sk,rd,rds,w⟩:=h;cases ds with
  |nil=>exact pop_D pq s σ H x xs v us Q I rx rs ⟨F,μ,S,d,[],sk,rd,rds,w⟩
  |cons e es=>exact popAt_D pq s σ H x xs v us Q I rx rs ⟨F,μ,S,d,e::es,sk,rd,rds,w⟩
theorem b0K'(m:Mth):Slot "list" (a8B' m) (mthId m):=by
 cases m with
 |append=>exact PySem.F.slot_list_append
 |count=>exact PySem.F.slot_list_count
 |insert=>exact PySem.F.slot_list_insert
 |extend=>exact PySem.F.slot_list_extend
 |pop=>exact PySem.F.slot_list_pop
theorem b0L'(m:Mth):typeOf (.builtin (mthId m))=pure (.type "method_descriptor"):=by
 cases m with
 |append=>exact PySem.F.type_list_append
 |count=>exact PySem.F.type_list_count
 |insert=>exact PySem.F.type_list_insert
 |extend=>exact PySem.F.type_list_extend
 |pop=>exact PySem.F.type_list_pop
theorem s_meth{m:Mth}{o:Expr}(hn:isNm o=true)(hl:(apos.endLine==pos.line)=true)(hst:∀x∈es,a0T' x=true)(hz:es.length<20)(hcs:cs.length=es.length)(ho:PE X o (tE X.K X.mg E Φ Γ a))(ha:PA X es (tL X.K X.mg E Φ Γ cs)):
  PE X (.Call (.Attribute o (a8B' m) apos) es [] pos) (tE X.K X.mg E Φ Γ (.meth m a cs)):=by
 have hbase:attributeBase o (a8B' m) X.env (eval o X.env)=eval o X.env:=by cases o<;>first|rfl|cases hn
 have key:∀{F μ1 S1 H1 ρ d1 Q v1},SOk X.K ⟨X.mg,F⟩ μ1 S1 H1→Rep X.K ⟨X.mg,F⟩ μ1 H1 d1 v1→WantG X.K ⟨X.mg,F⟩ E (Rep X.K ⟨X.mg,F⟩) μ1 H1 Q (match d1 with
   | .ref n=>(denL Φ Γ cs ρ S1).bind λds S2=>(methD m (.ref n) ds S2).noErr
   |_=>.fail)→tyV X.K "list" v1 H1∧WantG X.K ⟨X.mg,F⟩ E (RepL X.K ⟨X.mg,F⟩) μ1 H1 (λvs H2=>rM X.K X.mg (methD m) v1 vs H2 Q) (denL Φ Γ cs ρ S1):=by
  intro F μ1 S1 H1 ρ d1 Q v1 s1 r1 w1;cases d1 with
  |ref n=>exact⟨b0J' s1 r1,(WantG.bind w1).mono λvs H2 zz=>ex34 zz λμ2 S2 ds x2 s2 r2 w2=>⟨F,μ2,S2,_,ds,s2,Rep.mono x2 _ _ r1,r2,a2e' w2⟩⟩
  |_=>exact w1.elim
 cases es with
 |nil=>have e:cs=[]:=ZL hcs;subst e;refine weakE (pe_bm0 PySem.F.plainAttrs_list (b0K' m) (b0L' m) (mth_ok m) ho hbase hl) λσ H Q zz=>ex43 zz λF μ ρ S sk en w=>⟨F,μ,ρ,S,sk,en,(WantG.bind w).mono λv1 H1 zz=>ex34 zz λμ1 S1 d1 x1 s1 r1 w1=>?_⟩;obtain⟨k1,k2⟩:=key s1 r1 w1;exact⟨k1,k2 μ1 H1 [] .refl s1 .nil⟩
 |cons e es=>
  refine weakE (pe_bm PySem.F.plainAttrs_list (b0K' m) (b0L' m) (mth_ok m) ho ha hbase ?_ hl (a0y' (hst e Zb)) (a4u' λx hx=>hst x (Zc _ hx))) λσ H Q zz=>ex43 zz λF μ ρ S sk en w=>⟨F,μ,ρ,S,sk,en,(WantG.bind w).mono λv1 H1 zz=>ex34 zz λμ1 S1 d1 x1 s1 r1 w1=>?_⟩
  ·rw[b0I' hst];have e1:(backToKw pos (keywordEach [] X.env)).all (λx=>x.1.isSome)=true:=rfl;rw[e1];simp only[Bool.true_and,Z0];have e2:(if([]:List Keyword).isEmpty then 0 else 1)=0:=rfl;rw[e2];simp only[List.length_nil];omega
  ·obtain⟨k1,k2⟩:=key s1 r1 w1;exact⟨k1,F,μ1,ρ,S1,s1,en.mono x1,k2⟩
end
theorem b0M'{i:Nat}{x:Value}(hit:s.heap.IsTupleIter it t i)(ht:s.heap.IsTuple t items)(hx:items[i]?=some x)
  (hQ:∀h',h'.IsTupleIter it t (i+1)→Heap.SameBut it s.heap h'→Q x {s with heap:=h'}):wpAny (model prog w) A (Builtin.SmallTypes.nextOf (.ref it)) Q E s:=by
 obtain⟨o,ho,hc,hd⟩:=id hit;obtain⟨ol,hol,_,nl,hdl⟩:=ht;unfold Builtin.SmallTypes.nextOf;refine Za (Yj (name:=Str.ofString "__next__") hit.typeIs F.slot_tuple_iterator_next (Ye F.slot_tuple_iterator_next hit.typeIs F.entry_tuple_iterator_next ?_ (F.args_tuple_iterator_next_1 _)));show wpAny _ _ (field (.ref it) 0>>=_) _ _ s;refine Za (wpAny_field ho hd (x:=.ref t) rfl ?_);show wpAny _ _ (if(Value.ref t==Value.none)=true then _ else _) _ _ s;rw[if_neg (show ¬((Value.ref t==Value.none)=true)from Ya)];show wpAny _ _ (field (.ref it) 1>>=_) _ _ s;refine Za (wpAny_field ho hd (x:=.int i 0) rfl ?_);show wpAny _ _ (seqItems? (.ref t)>>=_) _ _ s;refine Za (wpAny_seqItems hol hdl ?_);simp only[Int.toNat_natCast,hx];refine Za (wpAny_setField ho hd (by simp) (Zf ⟨x,rfl,Zf (hQ _ ?_ (Yo ..))⟩));exact⟨_,Heap.get?_update_self _ ho (Obj.isFreed_of_fields (Obj.data_mapFields hd _)),(Obj.cls_mapFields ..).trans hc,by rw[Obj.data_mapFields hd];simp[rawInt]⟩
theorem a8C'{i:Nat}{Q:Vs}(hh:A.handled=none)(hit:s.heap.IsTupleIter it t i)(ht:s.heap.IsTuple t items)(hx:items[i]?=none)
  (hE:∀h' e,Heap.ExtBut it s.heap h'→(∃o,h'.get? e=some o∧o.cls=.type "StopIteration")→E (.ref e) {s with heap:=h'}):wpAny (model prog w) A (Builtin.SmallTypes.nextOf (.ref it)) Q E s:=by
 obtain⟨o,ho,hc,hd⟩:=id hit;obtain⟨ol,hol,_,nl,hdl⟩:=ht;unfold Builtin.SmallTypes.nextOf;refine Za (Yj (name:=Str.ofString "__next__") hit.typeIs F.slot_tuple_iterator_next (Ye F.slot_tuple_iterator_next hit.typeIs F.entry_tuple_iterator_next ?_ (F.args_tuple_iterator_next_1 _)));show wpAny _ _ (field (.ref it) 0>>=_) _ _ s;refine Za (wpAny_field ho hd (x:=.ref t) rfl ?_);show wpAny _ _ (if(Value.ref t==Value.none)=true then _ else _) _ _ s;rw[if_neg (show ¬((Value.ref t==Value.none)=true)from Ya)];show wpAny _ _ (field (.ref it) 1>>=_) _ _ s;refine Za (wpAny_field ho hd (x:=.int i 0) rfl ?_);show wpAny _ _ (seqItems? (.ref t)>>=_) _ _ s;refine Za (wpAny_seqItems hol hdl ?_);simp only[Int.toNat_natCast,hx];refine Za (wpAny_rule (Za (wpAny_setField ho hd (by simp) ?_)));show wpAny _ _ (newExc (.type "StopIteration") []>>=_) _ _ _;refine Za ?_;simp only[newExc,newTuple];refine Za (Yh ?_ (by size_fits));refine Za (m:=firstArgMember _ _) (wpAny_of_eq (a:=Value.none) (by first|rfl| (simp only[firstArgMember];rfl)) ?_);refine Yh ?_ (by size_fits);simp only[raiseNew];refine Za (wpAny_handled ?_)
 first|rw[show A.in1.handled=none from hh]|rw[hh]
 refine Za (Zf (wpAny_throw ?_));exact hE _ _ (((Yo ..).extBut.push _).push _) ⟨_,Zo _ rfl,rfl⟩
def IsSq(b:Bool)(h:Heap)(l:Addr)(xs:Av):Prop:=match b with
 |true=>h.IsList l xs
 |false=>h.IsTuple l xs
def IsIt(b:Bool)(h:Heap)(it l:Addr)(i:Nat):Prop:=match b with
 |true=>h.IsListIter it l i
 |false=>h.IsTupleIter it l i
theorem IsSq.at{b:Bool}{l:Addr}{xs:Av}(q:IsSq b h l xs)(k:∀o,h.get? l=some o→h'.get? l=some o):IsSq b h' l xs:=by
 cases b with
 |true=>exact Heap.IsList.at q k
 |false=>obtain⟨o,e,r⟩:=q;exact⟨o,k o e,r⟩
theorem IsIt.at{b:Bool}{l:Addr}{i:Nat}(q:IsIt b h it l i)(k:∀o,h.get? it=some o→h'.get? it=some o):IsIt b h' it l i:=by
 cases b with
 |true=>exact Heap.IsListIter.at q k
 |false=>exact Heap.IsTupleIter.at q k
theorem IsIt.obj{b:Bool}{l:Addr}{i:Nat}(q:IsIt b h it l i):∃o,h.get? it=some o∧∀v,o.data≠.cell v:=by
 cases b with
 |true=>obtain⟨o,e,c,d⟩:=q;exact⟨o,e,λv z=>by rw[d]at z;cases z⟩
 |false=>obtain⟨o,e,c,d⟩:=q;exact⟨o,e,λv z=>by rw[d]at z;cases z⟩
theorem draws(hh:A.handled=none)(b:Bool)(it l:Addr)(hne:l≠it)(items:Av):
  Draws prog w A it [it,l] items.size (λi v=>items[i]?=some v) (λi h=>IsIt b h it l i∧IsSq b h l items):=by
 cases b with
 |true=>exact Draws.list hh it l hne items
 |false=>exact{
   live:=λ_ _ st=>let⟨o,ho,_⟩:=st.1;⟨o,ho⟩
   frame:=λ_ _ _ st hk=>⟨st.1.at λo e=>hk it (by simp) o e,st.2.at λo e=>hk l (by simp) o e⟩
   item:=λi s Q E hi st hQ=>by refine b0M' st.1 st.2 (x:=items[i]) (by simp[hi]) λh' hit' hs'=>?_;exact hQ _ h' s.toks (by simp[hi]) ⟨hit',st.2.at λo e=>hs'.extBut _ _ hne e⟩ hs'
   done:=λs Q E st hE=>a8C' hh st.1 st.2 (by simp) hE}
structure ZApart (z TI TO i1 i2 l1 l2:Addr):Prop where
 TIz:TI≠z
 TOz:TO≠z
 i1z:i1≠z
 i2z:i2≠z
 TITO:TI≠TO
 TIi1:TI≠i1
 TIi2:TI≠i2
 TOi1:TO≠i1
 TOi2:TO≠i2
 i12:i1≠i2
 l1:l1≠z∧l1≠TO∧l1≠i1∧l1≠i2
 l2:l2≠z∧l2≠TO∧l2≠i1∧l2≠i2
theorem a6H'{prog:Program}{w:World}{b:Bool}{i:Nat}{Q:Vs}(hh:A.handled=none)(hit:IsIt b s.heap it t i)(ht:IsSq b s.heap t items)(hx:items[i]?=none)
  (hE:∀h' e,Heap.ExtBut it s.heap h'→(∃o,h'.get? e=some o∧o.cls=.type "StopIteration")→E (.ref e) {s with heap:=h'}):wpAny (model prog w) A (Builtin.SmallTypes.nextOf (.ref it)) Q E s:=by
 cases b with
 |true=>exact wpAny_nextOf_list_end hh hit ht hx hE
 |false=>exact a8C' hh hit ht hx hE
section
variable {z TI TO i1 i2 l1 l2:Addr}{k1 k2:Nat}{xs ys:Av}{a b:Value}
theorem zip_go(D:ZApart z TI TO i1 i2 l1 l2)(hh:A.handled=none){x y:Value}
  (hz:IsZip s.heap z TI TO .none) (hTI:IsPair s.heap TI (.ref i1) (.ref i2)) (hTO:IsPair s.heap TO a b)
  (h1:IsIt b1 s.heap i1 l1 k1) (h2:IsIt b2 s.heap i2 l2 k2) (hl1:IsSq b1 s.heap l1 xs) (hl2:IsSq b2 s.heap l2 ys) (hx:xs[k1]?=some x) (hy:ys[k2]?=some y)
  (hQ:∀h',IsZip h' z TI TO (rawInt s.heap.objs.size)→IsPair h' TO x y→IsIt b1 h' i1 l1 (k1+1)→IsIt b2 h' i2 l2 (k2+1)→IsPair h' s.heap.objs.size x y→h'.objs.size=s.heap.objs.size+1→
   (∀c o,c≠z→c≠TO→c≠i1→c≠i2→s.heap.get? c=some o→h'.get? c=some o)→∀tk,Q (.ref s.heap.objs.size) {s with heap:=h',toks:=tk}):
  wpAny (model prog w) A (Builtin.«zip.__next__» ⟨[.ref z],[]⟩) (λfin s'=>∃v,fin=.done (.ret v)∧Q v s') E s:=by
 have D1:=draws (prog:=prog) (w:=w) (A:=A) hh b1 i1 l1 D.l1.2.2.1 xs;have D2:=draws (prog:=prog) (w:=w) (A:=A) hh b2 i2 l2 D.l2.2.2.2 ys;have n1:k1<xs.size:=(Array.getElem?_eq_some_iff.mp hx).1;have n2:k2<ys.size:=(Array.getElem?_eq_some_iff.mp hy).1;show wpAny _ _ (field (.ref z) 2>>=_) _ _ _;refine Za (wpAny_field hz rfl (x:=.bool false) rfl ?_);show wpAny _ _ (field (.ref z) 3>>=_) _ _ _;refine Za (wpAny_field hz rfl (x:=.ref TI) rfl ?_);refine Za (wpAny_seqItems hTI rfl ?_);show wpAny _ _ (Builtin.SmallTypes.ownedTupleIsFree (.ref z)>>=_) _ _ _;refine Za ?_;unfold Builtin.SmallTypes.ownedTupleIsFree;refine Za (wpAny_field hz rfl (x:=.none) rfl (Zf ?_));simp only[if_true];refine Za (wpAny_rule ?_);refine Za (wpAny_field hz rfl (x:=.ref TO) rfl ?_);refine Za (wpAny_setField_rec hz (by simp) λh₁ hz₁ hs₁=>?_);replace hz₁:IsZip h₁ z TI TO .ellipsis:=hz₁;refine Za ?_;simp only[List.zipIdx_cons,List.zipIdx_nil,List.forIn_cons,List.forIn_nil];refine Za (Za (wpAny_onRaise ?_));show wpAny _ _ (Builtin.SmallTypes.nextOf (.ref i1)>>=_) _ _ _;refine Za (D1.item k1 _ _ _ n1 ⟨h1.at λo e=>hs₁.extBut _ _ D.i1z e,hl1.at λo e=>hs₁.extBut _ _ D.l1.1 e⟩ λx' h₂ tk hx' st₂ hs₂=>Zf ?_);rw[hx]at hx';cases hx';have hTO₂:IsPair h₂ TO a b:=hs₂.extBut _ _ D.TOi1 (hs₁.extBut _ _ D.TOz hTO);refine Za (wpAny_seqItems hTO₂ rfl ?_);refine Za (wpAny_updateSeq_pair hTO₂ λh₃ hTO₃ hs₃=>?_);replace hTO₃:IsPair h₃ TO x b:=hTO₃;refine Za (wpAny_letGo (Zf ?_));refine Za (Za (wpAny_onRaise ?_));show wpAny _ _ (Builtin.SmallTypes.nextOf (.ref i2)>>=_) _ _ _;refine Za (D2.item k2 _ _ _ n2 ⟨h2.at λo e=>hs₃.extBut _ _ D.TOi2.symm (hs₂.extBut _ _ D.i12.symm (hs₁.extBut _ _ D.i2z e)),hl2.at λo e=>hs₃.extBut _ _ D.l2.2.1 (hs₂.extBut _ _ D.l2.2.2.1 (hs₁.extBut _ _ D.l2.1 e))⟩ λy' h₄ tk2 hy' st₄ hs₄=>Zf ?_);rw[hy]at hy';cases hy';have hTO₄:IsPair h₄ TO x b:=hs₄.extBut _ _ D.TOi2 hTO₃;refine Za (wpAny_seqItems hTO₄ rfl ?_);refine Za (wpAny_updateSeq_pair hTO₄ λh₅ hTO₅ hs₅=>?_);replace hTO₅:IsPair h₅ TO x y:=hTO₅;refine Za (wpAny_letGo (Zf (Zf ?_)));refine Za (wpAny_seqItems hTO₅ rfl ?_);refine Za (wpAny_newTuple ?_);have hsz:h₅.objs.size=s.heap.objs.size:=by rw[hs₅.1,hs₄.1,hs₃.1,hs₂.1,hs₁.1]
 have hz₅:IsZip h₅ z TI TO .ellipsis:=hs₅.extBut _ _ D.TOz.symm (hs₄.extBut _ _ D.i2z.symm (hs₃.extBut _ _ D.TOz.symm (hs₂.extBut _ _ D.i1z.symm hz₁)));have hk₅:∀c o,c≠z→c≠TO→c≠i1→c≠i2→s.heap.get? c=some o→h₅.get? c=some o:=λc o c1 c2 c3 c4 e=>hs₅.extBut _ _ c2 (hs₄.extBut _ _ c4 (hs₃.extBut _ _ c2 (hs₂.extBut _ _ c3 (hs₁.extBut _ _ c1 e))));have g1:IsIt b1 h₅ i1 l1 (k1+1):=st₂.1.at λo e=>hs₅.extBut _ _ D.TOi1.symm (hs₄.extBut _ _ D.i12 (hs₃.extBut _ _ D.TOi1.symm e));have g2:IsIt b2 h₅ i2 l2 (k2+1):=st₄.1.at λo e=>hs₅.extBut _ _ D.TOi2.symm e;have hzlt:z<h₅.objs.size:=Zr hz₅;show wpAny _ _ (Builtin.SmallTypes.ownedTupleHandOut (.ref z) (.ref h₅.objs.size)>>=_) _ _ _;refine Za ?_;unfold Builtin.SmallTypes.ownedTupleHandOut;have hz₆:IsZip (h₅.push {cls:=.type "tuple",data:=.seq #[x,y]}) z TI TO .ellipsis:=Zd _ hz₅;refine Za (wpAny_setField_rec hz₆ (by simp) λh₇ hz₇ hs₇=>?_);replace hz₇:IsZip h₇ z TI TO (rawInt h₅.objs.size):=hz₇;refine wpAny_setField_rec hz₇ (by simp) λh₈ hz₈ hs₈=>?_;replace hz₈:IsZip h₈ z TI TO (rawInt h₅.objs.size):=hz₈;have up:∀c o,c≠z→h₅.get? c=some o→h₈.get? c=some o:=λc o c1 e=>hs₈.extBut _ _ c1 (hs₇.extBut _ _ c1 (Zd _ e));have hT₈:IsPair h₈ h₅.objs.size x y:=hs₈.extBut _ _ (Nat.ne_of_gt hzlt) (hs₇.extBut _ _ (Nat.ne_of_gt hzlt) (Zo _ rfl));have hz8:h₈.objs.size=h₅.objs.size+1:=by rw[hs₈.1,hs₇.1,Heap.size_push]
 rw[hsz]at hz₈ hT₈ hz8;refine Zf ⟨_,rfl,?_⟩;show Q (.ref h₅.objs.size) _;rw[hsz];exact hQ h₈ hz₈ (up _ _ D.TOz hTO₅) (g1.at λo e=>up _ o D.i1z e) (g2.at λo e=>up _ o D.i2z e) hT₈ hz8 (λc o c1 c2 c3 c4 e=>up c o c1 (hk₅ c o c1 c2 c3 c4 e)) _
theorem b5f'(D:ZApart z TI TO i1 i2 l1 l2)(hh:A.handled=none){Q:Fin→Shared→Prop}
  (hz:IsZip s.heap z TI TO .none) (hTI:IsPair s.heap TI (.ref i1) (.ref i2)) (hTO:IsPair s.heap TO a b)
  (h1:IsIt b1 s.heap i1 l1 k1) (h2:IsIt b2 s.heap i2 l2 k2) (hl1:IsSq b1 s.heap l1 xs) (hl2:IsSq b2 s.heap l2 ys) (hend:xs[k1]?=none∨ys[k2]?=none)
  (hE:∀h' e tk,(∀c o,c≠z→c≠TO→c≠i1→c≠i2→s.heap.get? c=some o→h'.get? c=some o)→(∃o,h'.get? e=some o∧o.cls=.type "StopIteration")→E (.ref e) {s with heap:=h',toks:=tk}):
  wpAny (model prog w) A (Builtin.«zip.__next__» ⟨[.ref z],[]⟩) Q E s:=by
 have D1:=draws (prog:=prog) (w:=w) (A:=A) hh b1 i1 l1 D.l1.2.2.1 xs;have D2:=draws (prog:=prog) (w:=w) (A:=A) hh b2 i2 l2 D.l2.2.2.2 ys;show wpAny _ _ (field (.ref z) 2>>=_) _ _ _;refine Za (wpAny_field hz rfl (x:=.bool false) rfl ?_);show wpAny _ _ (field (.ref z) 3>>=_) _ _ _;refine Za (wpAny_field hz rfl (x:=.ref TI) rfl ?_);refine Za (wpAny_seqItems hTI rfl ?_);show wpAny _ _ (Builtin.SmallTypes.ownedTupleIsFree (.ref z)>>=_) _ _ _;refine Za ?_;unfold Builtin.SmallTypes.ownedTupleIsFree;refine Za (wpAny_field hz rfl (x:=.none) rfl (Zf ?_));simp only[if_true];refine Za (wpAny_rule ?_);refine Za (wpAny_field hz rfl (x:=.ref TO) rfl ?_);refine Za (wpAny_setField_rec hz (by simp) λh₁ hz₁ hs₁=>?_);replace hz₁:IsZip h₁ z TI TO .ellipsis:=hz₁;refine Za ?_;simp only[List.zipIdx_cons,List.zipIdx_nil,List.forIn_cons,List.forIn_nil];refine Za (Za (wpAny_onRaise ?_));show wpAny _ _ (Builtin.SmallTypes.nextOf (.ref i1)>>=_) _ _ _;by_cases n1:k1<xs.size
 ·have hy:ys[k2]?=none:=hend.resolve_left (by simp[n1]);refine Za (D1.item k1 _ _ _ n1 ⟨h1.at λo e=>hs₁.extBut _ _ D.i1z e,hl1.at λo e=>hs₁.extBut _ _ D.l1.1 e⟩ λx h₂ tk hx st₂ hs₂=>Zf ?_);have hTO₂:IsPair h₂ TO a b:=hs₂.extBut _ _ D.TOi1 (hs₁.extBut _ _ D.TOz hTO);refine Za (wpAny_seqItems hTO₂ rfl ?_);refine Za (wpAny_updateSeq_pair hTO₂ λh₃ hTO₃ hs₃=>?_);refine Za (wpAny_letGo (Zf ?_));refine Za (Za (wpAny_onRaise ?_));show wpAny _ _ (Builtin.SmallTypes.nextOf (.ref i2)>>=_) _ _ _;refine Za (a6H' hh (h2.at λo e=>hs₃.extBut _ _ D.TOi2.symm (hs₂.extBut _ _ D.i12.symm (hs₁.extBut _ _ D.i2z e))) (hl2.at λo e=>hs₃.extBut _ _ D.l2.2.1 (hs₂.extBut _ _ D.l2.2.2.1 (hs₁.extBut _ _ D.l2.1 e))) hy λh₄ e hs₄ he=>?_);obtain⟨oe,hoe,hce⟩:=he;have hz₄:IsZip h₄ z TI TO .ellipsis:=hs₄ _ _ D.i2z.symm (hs₃.extBut _ _ D.TOz.symm (hs₂.extBut _ _ D.i1z.symm hz₁));have hez:e≠z:=λx=>by subst x;rw[hz₄]at hoe;cases hoe;simp at hce
  exact wpAny_setField_rec hz₄ (by simp) λh₅ _ hs₅=>hE h₅ e _ (λc o c1 c2 c3 c4 x=>hs₅.extBut _ _ c1 (hs₄ _ _ c4 (hs₃.extBut _ _ c2 (hs₂.extBut _ _ c3 (hs₁.extBut _ _ c1 x))))) ⟨oe,hs₅.extBut _ _ hez hoe,hce⟩
 ·have hx:xs[k1]?=none:=by simp;omega
  refine Za (a6H' hh (h1.at λo e=>hs₁.extBut _ _ D.i1z e) (hl1.at λo e=>hs₁.extBut _ _ D.l1.1 e) hx λh₂ e hs₂ he=>?_);obtain⟨oe,hoe,hce⟩:=he;have hz₂:IsZip h₂ z TI TO .ellipsis:=hs₂ _ _ D.i1z.symm hz₁;have hez:e≠z:=λx=>by subst x;rw[hz₂]at hoe;cases hoe;simp at hce
  exact wpAny_setField_rec hz₂ (by simp) λh₃ _ hs₃=>hE h₃ e _ (λc o c1 _ c3 _ x=>hs₃.extBut _ _ c1 (hs₂ _ _ c3 (hs₁.extBut _ _ c1 x))) ⟨oe,hs₃.extBut _ _ hez hoe,hce⟩
theorem a9s'(D:ZApart z TI TO i1 i2 l1 l2)(hh:A.handled=none){x y:Value}{Q:Ov→Shared→Prop}
  (hz:IsZip s.heap z TI TO .none) (hTI:IsPair s.heap TI (.ref i1) (.ref i2)) (hTO:IsPair s.heap TO a b)
  (h1:IsIt b1 s.heap i1 l1 k1) (h2:IsIt b2 s.heap i2 l2 k2) (hl1:IsSq b1 s.heap l1 xs) (hl2:IsSq b2 s.heap l2 ys) (hx:xs[k1]?=some x) (hy:ys[k2]?=some y)
  (hQ:∀h',IsZip h' z TI TO (rawInt s.heap.objs.size)→IsPair h' TO x y→IsIt b1 h' i1 l1 (k1+1)→IsIt b2 h' i2 l2 (k2+1)→IsPair h' s.heap.objs.size x y→h'.objs.size=s.heap.objs.size+1→
   (∀c o,c≠z→c≠TO→c≠i1→c≠i2→s.heap.get? c=some o→h'.get? c=some o)→∀tk,Q (some (.ref s.heap.objs.size)) {s with heap:=h',toks:=tk}):
  wpAny (model prog w) A (pyNext (.ref z)) Q E s:=by
 have hT:s.TypeIs (.ref z) "zip":=⟨_,hz,rfl⟩;unfold pyNext
 exact Za (wpAny_attempt (Yj (name:=Str.ofString "__next__") hT F.slot_zip_next
  (Ye F.slot_zip_next hT F.entry_zip_next (zip_go D (show A.in1.handled=none from hh) hz hTI hTO h1 h2 hl1 hl2 hx hy λh' a1 a2 a3 a4 a5 a6 a7 tk=>Zf (hQ h' a1 a2 a3 a4 a5 a6 a7 tk)) (F.args_zip_next_1 _))))
theorem a6I'(D:ZApart z TI TO i1 i2 l1 l2)(hh:A.handled=none){Q:Ov→Shared→Prop}
  (hz:IsZip s.heap z TI TO .none) (hTI:IsPair s.heap TI (.ref i1) (.ref i2)) (hTO:IsPair s.heap TO a b)
  (h1:IsIt b1 s.heap i1 l1 k1) (h2:IsIt b2 s.heap i2 l2 k2) (hl1:IsSq b1 s.heap l1 xs) (hl2:IsSq b2 s.heap l2 ys) (hend:xs[k1]?=none∨ys[k2]?=none)
  (hQ:∀h' tk,(∀c o,c≠z→c≠TO→c≠i1→c≠i2→s.heap.get? c=some o→h'.get? c=some o)→Q none {s with heap:=h',toks:=tk}):wpAny (model prog w) A (pyNext (.ref z)) Q E s:=by
 have hT:s.TypeIs (.ref z) "zip":=⟨_,hz,rfl⟩;unfold pyNext
 refine Za (wpAny_attempt (Yj (name:=Str.ofString "__next__") hT F.slot_zip_next
  (Ye F.slot_zip_next hT F.entry_zip_next (b5f' D (show A.in1.handled=none from hh) hz hTI hTO h1 h2 hl1 hl2 hend λh' e tk hk he=>?_) (F.args_zip_next_1 _))))
 obtain⟨o,ho,hc⟩:=he;refine Za (wpAny_isInstance (T:="StopIteration") (b:=true) ⟨o,ho,hc⟩ isSubtype_stop ?_);exact Zf (hQ _ tk hk)
end
noncomputable def itObj(b:Bool)(l:Addr):Obj:={cls:=.type (match b with|true=>"list_iterator"|false=>"tuple_iterator"),data:=.fields #[.ref l,.int 0 0]}
noncomputable def zH1(h:Heap)(b1:Bool)(l1:Addr):Heap:=h.push (itObj b1 l1)
noncomputable def zH2(h:Heap)(b1 b2:Bool)(l1 l2:Addr):Heap:=(zH1 h b1 l1).push (itObj b2 l2)
noncomputable def zH3(h:Heap)(b1 b2:Bool)(l1 l2:Addr):Heap:=(zH2 h b1 b2 l1 l2).push {cls:=.type "tuple",data:=.seq #[.ref h.objs.size,.ref (zH1 h b1 l1).objs.size]}
noncomputable def zH4(h:Heap)(b1 b2:Bool)(l1 l2:Addr):Heap:=(zH3 h b1 b2 l1 l2).push {cls:=.type "tuple",data:=.seq #[.none,.none]}
noncomputable def zH5(h:Heap)(b1 b2:Bool)(l1 l2:Addr):Heap:=(zH4 h b1 b2 l1 l2).push {cls:=.type "zip",data:=.fields #[.none,.bool false,.bool false,.ref (zH2 h b1 b2 l1 l2).objs.size,.ref (zH3 h b1 b2 l1 l2).objs.size]}
theorem zip_new(b1 b2:Bool)(l1 l2:Addr)(xs ys:Av):
  Meets (Builtin.«zip.__new__» ⟨[.type "zip",.ref l1,.ref l2],[]⟩) (λ_ R s=>IsSq b1 s.heap l1 xs∧IsSq b2 s.heap l2 ys∧R (.ok (.ret (.ref (zH4 s.heap b1 b2 l1 l2).objs.size))) {s with heap:=zH5 s.heap b1 b2 l1 l2}):=
 .of_wp λprog w A R s h=>by
  obtain⟨hp,g,d,tk,os⟩:=s;obtain⟨hl1,hl2,h⟩:=h;have hsub:=sub_zip;have hL2:IsSq b2 (zH1 hp b1 l1) l2 ys:=hl2.at λo e=>Zd _ e;cases b1 with
  |true=>
   have hL1:Heap.IsList (Shared.heap ⟨hp,g,d,tk,os⟩) l1 xs:=hl1;cases b2 with
   |true=>
    have hL2:Heap.IsList (Shared.heap ⟨hp.push {cls:=.type "list_iterator",data:=.fields #[.ref l1,.int 0 0]},g,d,tk,os⟩) l2 ys:=hL2
    wp_walk using wpAny_pyIter_list hL1,wpAny_pyIter_list hL2
    exact⟨_,rfl,h⟩
   |false=>
    have hL2:Heap.IsTuple (Shared.heap ⟨hp.push {cls:=.type "list_iterator",data:=.fields #[.ref l1,.int 0 0]},g,d,tk,os⟩) l2 ys:=hL2
    wp_walk using wpAny_pyIter_list hL1,wpAny_pyIter_tuple hL2
    exact⟨_,rfl,h⟩
  |false=>
   have hL1:Heap.IsTuple (Shared.heap ⟨hp,g,d,tk,os⟩) l1 xs:=hl1;cases b2 with
   |true=>
    have hL2:Heap.IsList (Shared.heap ⟨hp.push {cls:=.type "tuple_iterator",data:=.fields #[.ref l1,.int 0 0]},g,d,tk,os⟩) l2 ys:=hL2
    wp_walk using wpAny_pyIter_tuple hL1,wpAny_pyIter_list hL2
    exact⟨_,rfl,h⟩
   |false=>
    have hL2:Heap.IsTuple (Shared.heap ⟨hp.push {cls:=.type "tuple_iterator",data:=.fields #[.ref l1,.int 0 0]},g,d,tk,os⟩) l2 ys:=hL2
    wp_walk using wpAny_pyIter_tuple hL1,wpAny_pyIter_tuple hL2
    exact⟨_,rfl,h⟩
theorem b0N'{b:Bool}{l:Addr}(e:h.get? it=some (itObj b l)):IsIt b h it l 0:=by
 cases b with
 |true=>exact⟨_,e,rfl,rfl⟩
 |false=>exact⟨_,e,rfl,rfl⟩
theorem b5g'{l1 l2:Addr}{xs ys:Av}(hl1:IsSq b1 s.heap l1 xs)(hl2:IsSq b2 s.heap l2 ys)
  (h:∀h',IsZip h' (s.heap.objs.size+4) (s.heap.objs.size+2) (s.heap.objs.size+3) .none→IsPair h' (s.heap.objs.size+2) (.ref s.heap.objs.size) (.ref (s.heap.objs.size+1))→
   IsPair h' (s.heap.objs.size+3) .none .none→IsIt b1 h' s.heap.objs.size l1 0→IsIt b2 h' (s.heap.objs.size+1) l2 0→h'.objs.size=s.heap.objs.size+5→
   (∀c o,s.heap.get? c=some o→h'.get? c=some o)→Q (.ref (s.heap.objs.size+4)) {s with heap:=h'}):
  wpAny (model prog w) A (call (.type "zip") [.ref l1,.ref l2]) Q E s:=by
 refine callType_new F.called_zip (by decide) (F.typeCall_zip_2 _ _) (F.newCall_zip_2 _ _) (λobj=>F.args_object_init_3 obj _ _) F.entry_zip_new (zip_new b1 b2 l1 l2 xs ys) ⟨hl1,hl2,?_⟩;have z1:(zH1 s.heap b1 l1).objs.size=s.heap.objs.size+1:=Heap.size_push ..;have z2:(zH2 s.heap b1 b2 l1 l2).objs.size=s.heap.objs.size+2:=by unfold zH2;rw[Heap.size_push,z1]
 have z3:(zH3 s.heap b1 b2 l1 l2).objs.size=s.heap.objs.size+3:=by unfold zH3;rw[Heap.size_push,z2]
 have z4:(zH4 s.heap b1 b2 l1 l2).objs.size=s.heap.objs.size+4:=by unfold zH4;rw[Heap.size_push,z3]
 have z5:(zH5 s.heap b1 b2 l1 l2).objs.size=s.heap.objs.size+5:=by unfold zH5;rw[Heap.size_push,z4]
 have g5:(zH5 s.heap b1 b2 l1 l2).get? (zH4 s.heap b1 b2 l1 l2).objs.size=some _:=Zo _ rfl;have g4:(zH5 s.heap b1 b2 l1 l2).get? (zH3 s.heap b1 b2 l1 l2).objs.size=some _:=Zd _ (Zo _ rfl);have g3:(zH5 s.heap b1 b2 l1 l2).get? (zH2 s.heap b1 b2 l1 l2).objs.size=some _:=Zd _ (Zd _ (Zo _ rfl));have g2:(zH5 s.heap b1 b2 l1 l2).get? (zH1 s.heap b1 l1).objs.size=some (itObj b2 l2):=Zd _ (Zd _ (Zd _ (Zo _ (by cases b2<;>rfl))));have g1:(zH5 s.heap b1 b2 l1 l2).get? s.heap.objs.size=some (itObj b1 l1):=Zd _ (Zd _ (Zd _ (Zd _ (Zo _ (by cases b1<;>rfl)))));show _∧_;rw[z2,z3,z4]at g5;rw[z1,z2]at g3;rw[z3]at g4;rw[z1]at g2;rw[z4]
 exact⟨⟨_,g5,rfl⟩,h _ g5 g3 g4 (b0N' g1) (b0N' g2) z5 λc o x=>
  Zd _ (Zd _ (Zd _ (Zd _ (Zd _ x))))⟩
def SqB(b:Bool)(K:Fg)(H:Hp)(l:Addr)(xs:List V):Prop:=match b with
 |true=>SqL K H l xs
 |false=>SqT K H l xs
noncomputable def Itz(K:Fg)(b1 b2:Bool)(l1 l2:Addr):It:=
 ⟨λi H=>∃xs ys x y,SqB b1 K H l1 xs∧SqB b2 K H l2 ys∧xs[i]?=some x∧ys[i]?=some y,
  λi H v H'=>∃T x y,v=.ref T∧H T=none∧H'=upd H T (.tup [x,y])∧(∀xs,SqB b1 K H l1 xs→xs[i]?=some x)∧(∀ys,SqB b2 K H l2 ys→ys[i]?=some y),
  λi H=>∃xs ys,SqB b1 K H l1 xs∧SqB b2 K H l2 ys∧(xs.length≤i∨ys.length≤i)⟩
theorem a9t'{b:Bool}{l:Addr}{xs:List V}(I:Inv X pq σ H s)(h:SqB b X.K H l xs):∃its,Vals xs its∧IsSq b s.heap l its.toArray:=by
 cases b with
 |true=>obtain⟨its,r,p,_⟩:=I.list h;exact⟨its,r,p.isList⟩
 |false=>obtain⟨its,r,p,_⟩:=I.tuple h;exact⟨its,r,p⟩
theorem b3W'{b:Bool}{l:Addr}{xs ys:List V}(I:Inv X pq σ H s)(h:SqB b X.K H l xs)(h':SqB b X.K H l ys):xs=ys:=by
 cases b with
 |true=>exact I.list_inj h h'
 |false=>exact I.tuple_inj h h'
theorem a2R'{b:Bool}{l c:Addr}{xs:List V}(I:Inv X pq σ H s)(h:SqB b X.K H l xs)(hf:FpOk X pq H c):l≠c:=by
 have kl:∀{o:Obj},X.K.lookup l=some o→l≠c:=λ{o} e=>by
  have e1:X.base.get? l=some o:=I.mod.kin l o e;rintro rfl;rcases hf.2.2.2.1 with z|z
  ·exact I.ok.noex l o e1 z
  ·exact absurd (ZU (Zr e1) (ZP I.ok.bsz z)) (Nat.lt_irrefl _)
 have hl:∀{o:HO},H l=some o→l≠c:=λ{o} e=>by rintro rfl;rw[hf.1]at e;cases e
 cases b with
 |true=>
  rcases h with(h| ⟨o,h⟩)| ⟨o,its,n,h,_⟩
  ·exact hl h
  ·exact hl h
  ·exact kl h
 |false=>
  rcases h with(h| ⟨o,h⟩)| ⟨o,its,n,h,_⟩
  ·exact hl h
  ·exact hl h
  ·exact kl h
theorem b0O'{t':Nat}(I:Inv X pq σ H s)(k:∀b o,b∉ch→s.heap.get? b=some o→h'.get? b=some o)(hf:∀b∈ch,FpOk X pq H b):Inv X pq σ H {s with heap:=h',toks:=t'}:=by
 have nit:∀b u,H b=some u→b∉ch:=λb u e z=>by rw[(hf b z).1]at e;cases e
 refine I.step (g':=s.gens) (d':=s.drawn) (ch:=ch) (λb hb=>?_) (λb o _ _ hc e _=>k b o hc e) (λb o _ _ hc e _=>⟨o.slots,k b o hc e⟩) (λ_ _ _ _ n=>n)
  (λb o hc e=>⟨o,k b o hc e⟩) (λ_ _ e=>e) (λ_ _ _ e=>e) (λb ps e=>⟨#[],by rw[e];simp⟩) (λm hm=>?_) (λb u e=>?_) I.bare
 ·obtain⟨_,f1,_,f3,f4,f5⟩:=hf b hb;exact⟨f3,f1,f4,f5⟩
 ·obtain⟨o,es,ep,ho,r⟩:=hm;exact⟨o,es,ep,k _ o (λz=>(hf _ z).2.1 rfl) ho,r⟩
 ·refine(I.hok b u e).stay (λc v hc q=>k c v ?_ q) (λ_ q=>q) λ_ _ q=>q;rcases hc with z|z
  ·rw[z];exact nit b u e
  ·exact nit c _ z
def ztn(b b':Bool)(z TI TO i1 i2 l1 l2:Addr)(i:Nat)(h:Heap):Prop:=IsZip h z TI TO .none∧IsPair h TI (.ref i1) (.ref i2)∧(∃a b,IsPair h TO a b)∧IsIt b h i1 l1 i∧IsIt b' h i2 l2 i
theorem b5h'{es:Lx}{x1}{pos:Pos}(b b':Bool)(z TI TO i1 i2 l1 l2:Addr)(n1:TI≠z)(n2:TO≠z)(n3:i1≠z)(n4:i2≠z)(n5:TI≠TO)(n6:TI≠i1)(n7:TI≠i2)(n8:TO≠i1)(n9:TO≠i2)(n10:i1≠i2):
  Turn P w K (.Tuple es x1 pos) (Itz K b b' l1 l2) [z,TI,TO,i1,i2] z (ztn b b' z TI TO i1 i2 l1 l2) where
 mem:=by simp
 obj:=λi h ⟨hz,hTI,⟨a,c,hTO⟩,h1,h2⟩ d hd=>by
  simp only[Zj,Z1,or_false]at hd;rcases hd with rfl|rfl|rfl|rfl|rfl
  ·exact⟨_,hz,λv q=>by have q':Data.fields _=Data.cell v:=q;cases q'⟩
  ·exact⟨_,hTI,λv q=>by have q':Data.seq _ _=Data.cell v:=q;cases q'⟩
  ·exact⟨_,hTO,λv q=>by have q':Data.seq _ _=Data.cell v:=q;cases q'⟩
  ·exact h1.obj
  ·exact h2.obj
 keep:=λi h h' ⟨hz,hTI,⟨a,c,hTO⟩,h1,h2⟩ k=>⟨k z (by simp) _ hz,k TI (by simp) _ hTI,⟨a,c,k TO (by simp) _ hTO⟩,h1.at λo e=>k i1 (by simp) o e,h2.at λo e=>k i2 (by simp) o e⟩
 item:=by
  intro X hP hw hK hc i pq s σ H E I hf st hg;subst hP hw hK;obtain⟨hz,hTI,⟨a,c,hTO⟩,h1,h2⟩:=st;obtain⟨xs,ys,x,y,q1,q2,ex,ey⟩:=hg;obtain⟨us,r1,s1⟩:=a9t' I q1;obtain⟨ws,r2,s2⟩:=a9t' I q2;obtain⟨u,eu,ru⟩:=r1.get ex;obtain⟨v,ev,rv⟩:=r2.get ey
  have Dp:ZApart z TI TO i1 i2 l1 l2:=⟨n1,n2,n3,n4,n5,n6,n7,n8,n9,n10,⟨a2R' I q1 (hf z (by simp)),a2R' I q1 (hf TO (by simp)),a2R' I q1 (hf i1 (by simp)),a2R' I q1 (hf i2 (by simp))⟩,
   ⟨a2R' I q2 (hf z (by simp)),a2R' I q2 (hf TO (by simp)),a2R' I q2 (hf i1 (by simp)),a2R' I q2 (hf i2 (by simp))⟩⟩
  refine a9s' Dp (I.ok.hd hc) hz hTI hTO h1 h2 s1 s2 (x:=u) (y:=v) (by simpa using eu) (by simpa using ev) λh' a1 a2 a3 a4 a5 a6 kk tk=>?_;refine⟨_,rfl,?_⟩;refine wpAny_letOwnedTupleGo_zip (s:={s with heap:=h',toks:=tk}) a1 λh2' b1 sb=>?_;have hTn:H s.heap.objs.size=none:=I.hok.fresh (Zi _)
  have kk2:∀c o,c∉[z,TI,TO,i1,i2]→s.heap.get? c=some o→h2'.get? c=some o:=λc o hc e=>by simp only[Zj,Z1,or_false,not_or]at hc;exact(sb.2 c hc.1).trans (kk c o hc.1 hc.2.2.1 hc.2.2.2.1 hc.2.2.2.2 e)
  have I1:Inv X pq σ H {s with heap:=h2',toks:=tk}:=b0O' I kk2 hf
  have hTz:∀c∈[z,TI,TO,i1,i2],s.heap.objs.size≠c:=λc hc e=>by
   obtain⟨o,q,_⟩:∃o,s.heap.get? c=some o∧True:=by
    simp only[Zj,Z1,or_false]at hc;rcases hc with rfl|rfl|rfl|rfl|rfl
    ·exact⟨_,hz,trivial⟩
    ·exact⟨_,hTI,trivial⟩
    ·exact⟨_,hTO,trivial⟩
    ·exact⟨_,h1.obj.choose_spec.1,trivial⟩
    ·exact⟨_,h2.obj.choose_spec.1,trivial⟩
   exact absurd (Zr q) (by rw[e];exact Nat.lt_irrefl _)
  have hT2:IsPair h2' s.heap.objs.size u v:=(sb.2 _ (hTz z (by simp))).trans a5
  have I2:Inv X pq σ (upd H s.heap.objs.size (.tup [x,y])) {s with heap:=h2',toks:=tk}:=by
   have Im:Inv X pq σ (upd H s.heap.objs.size (.tup [x,y])) {s with heap:=s.heap.push {cls:=.type "tuple",data:=.seq #[u,v]},toks:=s.toks}:=
    I.laid (λb o e=>Zd _ e) (Zi _) ⟨by show 2≤sizeLine;decide,[u,v],.cons ru (.cons rv .nil),⟨_,Zo _ rfl,rfl,_,rfl⟩,_,Zo _ rfl,rfl⟩
   refine b0O' (s:={s with heap:=s.heap.push {cls:=.type "tuple",data:=.seq #[u,v]},toks:=s.toks}) Im (ch:=[z,TI,TO,i1,i2]) (λb o hb e=>?_) λb hb=>?_
   ·rcases Heap.get?_push_cases e with⟨rfl,rfl⟩|e'
    ·exact hT2
    ·exact kk2 b o hb e'
   ·obtain⟨f0,f1⟩:=hf b hb;exact⟨by rw[a0A' (λe=>hTz b hb e.symm)];exact f0,f1⟩
  refine⟨.ref s.heap.objs.size,upd H s.heap.objs.size (.tup [x,y]),I2,rfl,⟨s.heap.objs.size,x,y,rfl,hTn,rfl,λzs hq=>by rw[b3W' I hq q1];exact ex,λzs hq=>by rw[b3W' I hq q2];exact ey⟩,
   ⟨b1,(sb.2 TI n1).trans (kk TI _ n1 n5 n6 n7 hTI),⟨u,v,(sb.2 TO n2).trans a2⟩,a3.at λo e=>(sb.2 i1 n3).trans e,a4.at λo e=>(sb.2 i2 n4).trans e⟩,λc hc=>?_⟩
  rw[a0A' (λe=>hTz c hc e.symm)];exact(hf c hc).1
 done:=by
  intro X hP hw hK hc i pq s σ H E I hf st hg;subst hP hw hK;obtain⟨hz,hTI,⟨a,c,hTO⟩,h1,h2⟩:=st;obtain⟨xs,ys,q1,q2,en⟩:=hg;obtain⟨us,r1,s1⟩:=a9t' I q1;obtain⟨ws,r2,s2⟩:=a9t' I q2;have hl1:=r1.length;have hl2:=r2.length
  have Dp:ZApart z TI TO i1 i2 l1 l2:=⟨n1,n2,n3,n4,n5,n6,n7,n8,n9,n10,⟨a2R' I q1 (hf z (by simp)),a2R' I q1 (hf TO (by simp)),a2R' I q1 (hf i1 (by simp)),a2R' I q1 (hf i2 (by simp))⟩,
   ⟨a2R' I q2 (hf z (by simp)),a2R' I q2 (hf TO (by simp)),a2R' I q2 (hf i1 (by simp)),a2R' I q2 (hf i2 (by simp))⟩⟩
  refine a6I' Dp (I.ok.hd hc) hz hTI hTO h1 h2 s1 s2 (en.elim (λen=>.inl (by simp;omega)) λen=>.inr (by simp;omega)) λh' tk kk=>?_;refine⟨rfl,b0O' I (ch:=[z,TI,TO,i1,i2]) (λc o hc e=>?_) hf⟩;simp only[Zj,Z1,or_false,not_or]at hc;exact kk c o hc.1 hc.2.2.1 hc.2.2.2.1 hc.2.2.2.2 e
 self:=λ_ _ _ _ _ st h=>wpAny_pyIter_zip st.1 h
noncomputable def b0P'(b:Int):Bool:=Builtin.Range.rangeFitsLong 0&&Builtin.Range.rangeFitsLong b&&Builtin.Range.rangeFitsLong 1&&Builtin.Range.rangeFitsLong (-1)&&Builtin.Range.rangeFitsLong (0-1)&&Builtin.Range.rangeFitsLong (Builtin.Range.rangeSize 0 b 1)
theorem b2Z'(r:Addr)(b:Int)(t u v:Tok)(hc0:¬(!b0P' b)=true):
  Meets (Builtin.«range.__reversed__» ⟨[.ref r],[]⟩) (λ_ R s=>s.heap.get? r=some {cls:=.type "range",dict:=none,data:=.fields #[.int 0 t,.int b u,.int 1 v],slots:= #[]}∧
   R (.ok (.ret (Value.ref s.heap.objs.size))) {s with heap:=s.heap.push {cls:=Value.type (if b0P' b=true then "range_iterator" else "longrange_iterator"),data:=Data.fields #[rawInt (0+(Builtin.Range.rangeSize 0 b 1-1)*1),rawInt (Builtin.Range.rangeSize 0 b 1),rawInt (-1)]},toks:=s.toks}):=
 .of_wp λprog w A R s h=>by
  obtain⟨hp,g,d,tk,os⟩:=s;obtain⟨hl,h⟩:=h;unfold b0P' at hc0 h
  wp_walk
  rw[if_neg hc0]
  wp_walk
  exact⟨_,rfl,h⟩
theorem b3a'{b:Int}(h1: -(2^62)≤b)(h2:b<2^62):b0P' b=true:=by unfold b0P';rw[rangeSize_one];unfold Builtin.Range.rangeFitsLong;simp only[ZA,Z0];split<;>omega
theorem a5l':isSubtype (.type "range_iterator") (.type "reversed")=pure false:=by rw[isSubtype_type];kernel_rfl
noncomputable def rrObj(n:Nat):Obj:={cls:=.type "range_iterator",data:=.fields #[rawInt ((n:Int)-1),rawInt (n:Int),rawInt (-1)]}
theorem a5Y'{r:Addr}{b:Int}{t u v:Tok}(hr:IsRange s.heap r 0 b 1 t u v)(h1: -(2^62)≤b)(h2:b<2^62)
  (h:Q (.ref s.heap.objs.size) {s with heap:=s.heap.push (rrObj b.toNat)}):wpAny (model prog w) A (call (.builtin "range.__reversed__") [.ref r]) Q E s:=by
 have hT:s.TypeIs (.ref r) "range":=⟨_,hr,rfl⟩;have hs:=b3a' h1 h2;refine call_meets F.slot_range_reversed hT F.entry_range_reversed (F.args_range_reversed_1 _) (b2Z' r b t u v (by rw[hs];decide)) ⟨hr,?_⟩;rw[hs,if_pos rfl];have e:Builtin.Range.rangeSize 0 b 1=(b.toNat:Int):=by rw[rangeSize_one];split<;>omega
 rw[e];have e2:(0+((b.toNat:Int)-1)*1)=(b.toNat:Int)-1:=by omega
 rw[e2];exact h
theorem a9u'{r:Addr}{b:Int}{t u v:Tok}(hr:IsRange s.heap r 0 b 1 t u v)(h1: -(2^62)≤b)(h2:b<2^62)
  (h:Q₁ (.ref s.heap.objs.size) {s with heap:=s.heap.push (rrObj b.toNat)}):
  codeAny (model prog w) A (.call (.builtin "reversed.__new__") ⟨[.type "reversed",.ref r],[]⟩) (wants Q₁ E) s:=by
 have hT:s.TypeIs (.ref r) "range":=⟨_,hr,rfl⟩;refine codeAny_of_tree ?_;show wpAny _ A.in1 (do checkBuiltinCall "reversed.__new__" ⟨[.type "reversed",.ref r],[]⟩;again (.builtin "reversed.__new__" ⟨[.type "reversed",.ref r],[]⟩)) _ _ s;refine Za (wpAny_of_eq (F.newCall_reversed_1 _) (Zf ⟨plainId_quiet F.plain_reversed_new _,codeAny_builtin F.entry_reversed_new ?_⟩));rw[Around.under_plainId F.plain_reversed_new _];unfold Builtin.«reversed.__new__»;refine Za (wpAny_of_eq (newClass_reversed _) ?_)
 try dsimp only
 refine Za (wpAny_of_eq (a:=()) (by first|rfl|kernel_rfl) ?_);refine Za (wpAny_of_eq (a:=()) (by first|rfl|kernel_rfl) ?_)
 try dsimp only
 refine Za (wpAny_specialOf hT F.slot_range_reversed.lookup ?_)
 try dsimp only
 refine Za (wpAny_of_eq (F.slot_range_reversed.bind _) ?_)
 try dsimp only
 first
 |rw[if_neg (show ¬((Value.builtin "range.__reversed__"==Value.none)=true)from Ya)]
 | (show wpAny _ _ (if(Value.builtin "range.__reversed__"==Value.none)=true then _ else _) _ _ _;rw[if_neg (show ¬((Value.builtin "range.__reversed__"==Value.none)=true)from Ya)])
 refine Za (wpAny_rule ?_);refine Za (m:=runValue (.call (.builtin "range.__reversed__") ⟨[.ref r],[]⟩)) (show wpAny _ _ (call (.builtin "range.__reversed__") [.ref r]) _ _ _ from a5Y' hr h1 h2 ?_)
 first
 |exact Zf h
 |exact Za (Zf (Zf h))
theorem a9v'{r:Addr}{b:Int}{t u v:Tok}(hr:IsRange s.heap r 0 b 1 t u v)(h1: -(2^62)≤b)(h2:b<2^62)
  (h:Q (.ref s.heap.objs.size) {s with heap:=s.heap.push (rrObj b.toNat)}):wpAny (model prog w) A (call (.type "reversed") [.ref r]) Q E s:=by
 refine callType_other (U:="range_iterator") (Q₁:=λobj s₁=>obj=.ref s.heap.objs.size∧s₁={s with heap:=s.heap.push (rrObj b.toNat)}) (by decide+kernel) F.create_reversed ⟨_,_,F.mro_reversed⟩ F.made_reversed a5l' (F.typeCall_reversed_1 _) (a9u' hr h1 h2 ⟨rfl,rfl⟩) ?_;rintro obj s₁ ⟨rfl,rfl⟩;exact⟨⟨_,Zo _ rfl,rfl⟩,h⟩
noncomputable def Itd(n:Nat):It:=⟨λi _=>i<n,λi H x H'=>H'=H∧x=.int ((n:Int)-1-i),λi _=>n≤i⟩
theorem b3b'(it:Addr)(n:Nat):Turn P w K tg (Itd n) [it] it (λi h=>IsRangeIter h it (((n:Int)-1)+(i:Nat)*(-1)) ((n:Int)-(i:Nat)) (-1)) where
 mem:=by simp
 obj:=λi h st b hb=>by
  have e:b=it:=by simpa using hb
  subst e;exact⟨_,st,λv z=>by have z':Data.fields _=Data.cell v:=z;cases z'⟩
 keep:=λi h h' st k=>k it (by simp) _ st
 item:=by intro X hP hw hK hc i pq s σ H E I hf st hg;subst hP hw hK;obtain⟨f0,f1,f2,f3,f4,f5⟩:=hf it (by simp);have W:=Walks.range (prog:=X.prog) (w:=X.w) (I.ok.hd hc) it ((n:Int)-1) (-1) n;refine W.item i s _ _ hg st λv h' tk hv st' kk=>?_;obtain⟨t,rfl⟩:=hv;have I1:Inv X pq σ H {s with heap:=h',toks:=tk}:=I.turned (λb o hb e=>kk b o (by simpa using hb) e) f0 f1 f3 f4 f5;refine⟨_,rfl,go_of (s:={s with heap:=h',toks:=tk}) (n:="range_iterator") st' rfl rfl (by decide) ⟨.int ((n:Int)-1-i),H,I1,⟨t,?_⟩,⟨rfl,rfl⟩,st',λb hb=>(hf b hb).1⟩⟩;congr 1;omega
 done:=by intro X hP hw hK hc i pq s σ H E I hf st hg;subst hP hw hK;obtain⟨f0,f1,f2,f3,f4,f5⟩:=hf it (by simp);exact wpAny_pyNext_range_end (I.ok.hd hc) st (by have:n≤i:=hg;omega) λh' eb=>⟨rfl,I.turned (t':=s.toks) (λb o hb e=>eb b o hb e) f0 f1 f3 f4 f5⟩
 self:=λ_ _ _ _ _ st h=>wpAny_pyIter_rangeiter st h
theorem a6J':bootBuiltins (Str.ofString "reversed")=some (.type "reversed"):=by decide+kernel
def iDown(ta:TA):TI:=λσ H R=>ta σ H λvs H1=>∃j:Int,vs=[.int j]∧-(2^62)≤j∧j<2^62∧R (Itd j.toNat) H1
theorem pi_down{a:Expr}{ta:TA}{p1 p2 p3 p4:Pos}(hg1:Gl X "reversed")(hm1:X.mg "reversed"=none)(hg:Gl X "range")(hm:X.mg "range"=none)(ha:PA X [a] ta)(hs:starEach [a] X.env=[(false,eval a X.env)]:=by rfl):
  PI X tg (.Call (.Name "reversed" p1) [.Call (.Name "range" p2) [a] [] p3] [] p4) (iDown ta):=by
 intro pq s σ H R I h;refine Call_ (a5j' I hg1 hm1 a6J' (Yk ?_ rfl rfl));show wpAny _ _ (spliced ((false,eval (.Call (.Name "range" p2) [a] [] p3) X.env)::backTo p4 (starEach [] X.env))) _ _ s;refine Calls.spliced_cons ?_;refine Call_ (a5j' I hg hm boot_range (Yk (thn (ha p3 pq s σ H _ I h) λus s1 ⟨vs,H1,I1,r1,q1⟩=>?_) hs rfl));obtain⟨j,e,q1,q2,q⟩:=q1;subst e;cases r1 with
 |cons r rr=>
  cases rr;obtain⟨t,rfl⟩:=r;refine call_range_1 ?_;have I2:Inv X pq σ H1 {s1 with heap:=s1.heap.push {cls:=.type "range",data:=.fields #[.int 0 s1.toks,.int j t,.int 1 (s1.toks+1)]},toks:=s1.toks+1+1}:=I1.kept λb o e=>Zd _ e;refine Calls.spliced_nil ?_;generalize e0:s1.heap.push {cls:=.type "range",data:=.fields #[.int 0 s1.toks,.int j t,.int 1 (s1.toks+1)]}=h0 at I2⊢;have hr:IsRange h0 s1.heap.objs.size 0 j 1 s1.toks t (s1.toks+1):=by rw[←e0];exact IsRange.new ..
  have I3:Inv X pq σ H1 {s1 with heap:=h0,toks:=s1.toks+1+1}:=I2;refine a9v' (s:={s1 with heap:=h0,toks:=s1.toks+1+1}) hr q1 q2 ?_;have g:(h0.push (rrObj j.toNat)).get? h0.objs.size=some (rrObj j.toNat):=Zo _ rfl;refine wpAny_pyIter_rangeiter (x:=(j.toNat:Int)-1) (left:=(j.toNat:Int)) (step:= -1) g ?_;refine⟨h0.objs.size,[h0.objs.size],_,_,H1,rfl,I3.kept (t':=s1.toks+1+1) λb o e=>Zd _ e,b3b' _ j.toNat,?_,λb hb=>?_,q⟩
  ·have e1:((j.toNat:Int)-1)+((0:Nat):Int)*(-1)=(j.toNat:Int)-1:=by omega
   have e2:(j.toNat:Int)-((0:Nat):Int)=(j.toNat:Int):=by omega
   show IsRangeIter _ _ (((j.toNat:Int)-1)+((0:Nat):Int)*(-1)) ((j.toNat:Int)-((0:Nat):Int)) (-1);rw[e1,e2];exact g
  ·have e:b=h0.objs.size:=by simpa using hb
   subst e;exact I3.fpOk (Zi _) (I3.hok.fresh (Zi _))
structure Chg (K:Fg)(F:La)(μ:La)(H:Hp)(F':La)(μ':La)(H':Hp):Prop where
 tup:∀a vs,SqT K H a vs→SqT K H' a vs
 lst:∀a vs,H a=some (.lst vs)→a∉μ→a∉F→H' a=some (.lst vs)∧a∉μ'∧a∉F'
 frz:∀a vs,Frz K H a vs→Frz K H' a vs
 box:∀(n:Nat) a,μ[n]?=some a→μ'[n]?=some a
 dct:∀a,H a=some (.dK [])→H' a=some (.dK [])
section
variable {F':La}
mutual
theorem Rep.chg(x:Chg K F μ H F' μ' H'):∀(d:D) (v:V),Rep K ⟨mg,F⟩ μ H d v→Rep K ⟨mg,F'⟩ μ' H' d v
 | .non,_,h=>h
 | .bl _,_,h=>h
 | .int _,_,h=>h
 | .str _,_,h=>h
 | .tup ds,v,h=>by unfold Rep at h⊢;obtain⟨a,vs,e,q,r⟩:=h;exact⟨a,vs,e,x.tup a vs q,RepL.chg x ds vs r⟩
 | .lst ds,v,h=>by unfold Rep at h⊢;obtain⟨a,vs,e,q,n,r⟩:=h;obtain⟨h1,h2,h3⟩:=x.lst a vs q n.1 n.2;exact⟨a,vs,e,h1,⟨h2,h3⟩,RepL.chg x ds vs r⟩
 | .scr ds,v,h=>by unfold Rep at h⊢;obtain⟨a,vs,e,q,r⟩:=h;exact⟨a,vs,e,x.frz a vs q,RepL.chg x ds vs r⟩
 | .ref n,v,h=>by unfold Rep at h⊢;obtain⟨a,e,q⟩:=h;exact⟨a,e,x.box n a q⟩
 | .fn y,v,h=>h
 | .ty y,v,h=>h
 | .dct,v,h=>by unfold Rep at h⊢;obtain⟨a,e,q⟩:=h;exact⟨a,e,x.dct a q⟩
theorem RepL.chg(x:Chg K F μ H F' μ' H'):∀(ds:List D) (vs:List V),RepL K ⟨mg,F⟩ μ H ds vs→RepL K ⟨mg,F'⟩ μ' H' ds vs
 | [],vs,h=>h
 |d::ds,vs,h=>by unfold RepL at h⊢;obtain⟨w,ws,e,r,q⟩:=h;exact⟨w,ws,e,Rep.chg x d w r,RepL.chg x ds ws q⟩
end
theorem EnvR.chg(x:Chg K F μ H F' μ' H')(h:EnvR K ⟨mg,F⟩ μ H ρ σ):EnvR K ⟨mg,F'⟩ μ' H' ρ σ:=
 ⟨h.1,λi d e=>let⟨v,a,b⟩:=h.2 i d e;⟨v,a,Rep.chg x _ _ b⟩⟩
theorem Chg.start(h:H acc=none):Chg K F μ H (acc::F) μ (upd H acc o):=by
 have x:Ext μ H μ (upd H acc o):=.laid h;refine⟨λa vs q=>x.sqT q,λa vs q h1 h2=>⟨(x.lst q h1).1,h1,λz=>?_⟩,λa vs q=>x.frz q,λn a q=>q,λa q=>x.keep _ _ q (.inl λ_ z=>by cases z)⟩;rcases Zj.mp z with rfl|z
 ·rw[h]at q;cases q
 ·exact h2 z
theorem Chg.more{xs ys:List V}(ha:acc∈F)(h:H acc=some (.lst xs)):Chg K F μ H F μ (upd H acc (.lst ys)):=by
 have ne:∀{a:Addr} {o:HO},H a=some o→(∀zs,o≠.lst zs)→a≠acc:=λe n z=>by subst z;rw[h]at e;cases e;exact n _ rfl
 refine⟨λa vs q=>?_,λa vs q h1 h2=>⟨?_,h1,h2⟩,λa vs q=>?_,λn a q=>q,λa q=>?_⟩
 ·rcases q with(q| ⟨o,q⟩)|q
  ·exact .inl (.inl (by rw[a0A' (ne q λ_ z=>by cases z)];exact q))
  ·exact .inl (.inr ⟨o,by rw[a0A' (ne q λ_ z=>by cases z)];exact q⟩)
  ·exact .inr q
 ·have:a≠acc:=λz=>by subst z;exact h2 ha
  rw[a0A' this];exact q
 ·rcases q with⟨o,q⟩|q
  ·exact .inl ⟨o,by rw[a0A' (ne q λ_ z=>by cases z)];exact q⟩
  ·exact .inr q
 ·rw[a0A' (ne q λ_ z=>by cases z)];exact q
theorem Chg.out:Chg K (acc::F) μ H F μ H:=
 ⟨λ_ _ q=>q,λa vs q h1 h2=>⟨q,h1,λz=>h2 (Zc _ z)⟩,λ_ _ q=>q,λ_ _ q=>q,λ_ q=>q⟩
theorem Chg.outBox:Chg K (acc::F) μ H F (μ++[acc]) H:=by
 refine⟨λ_ _ q=>q,λa vs q h1 h2=>⟨q,λz=>?_,λz=>h2 (Zc _ z)⟩,λ_ _ q=>q,λn a q=>?_,λ_ q=>q⟩
 ·rcases Zs.mp z with z|z
  ·exact h1 z
  ·have:a=acc:=by simpa using z
   subst this;exact h2 Zb
 ·rw[ZB (Zl.mp q).1];exact q
theorem SOk.start(s:SOk K ⟨mg,F⟩ μ S H)(h:H acc=none):SOk K ⟨mg,acc::F⟩ μ S (upd H acc o):=by
 have x:Ext μ H μ (upd H acc o):=.laid h;refine⟨λa ha=>?_,s.len,s.nd,λn a ds h1 h2=>?_⟩
 ·rcases Zj.mp ha with rfl|ha
  ·exact⟨o,a0U'⟩
  ·obtain⟨o',q⟩:=s.live a ha;exact x.there a o' q
 ·obtain⟨vs,q,r⟩:=s.at_ n a ds h1 h2;exact⟨vs,by rw[a0A' (a0o' q h)];exact q,RepL.chg (.start h) _ _ r⟩
theorem SOk.more{xs ys:List V}(s:SOk K ⟨mg,F⟩ μ S H)(ha:acc∈F)(hm:acc∉μ)(h:H acc=some (.lst xs)):SOk K ⟨mg,F⟩ μ S (upd H acc (.lst ys)):=by
 refine⟨λa hb=>?_,s.len,s.nd,λn a ds h1 h2=>?_⟩
 ·by_cases e:a=acc
  ·subst e;exact⟨_,a0U'⟩
  ·obtain⟨o',q⟩:=s.live a hb;exact⟨o',by rw[a0A' e];exact q⟩
 ·obtain⟨vs,q,r⟩:=s.at_ n a ds h1 h2;have:a≠acc:=λz=>by subst z;exact hm (ZI h1)
  exact⟨vs,by rw[a0A' this];exact q,RepL.chg (.more ha h) _ _ r⟩
theorem SOk.out(s:SOk K ⟨mg,acc::F⟩ μ S H):SOk K ⟨mg,F⟩ μ S H:=
 ⟨λa ha=>s.live a (Zc _ ha),s.len,s.nd,λn a ds h1 h2=>by obtain⟨vs,q,r⟩:=s.at_ n a ds h1 h2;exact⟨vs,q,RepL.chg .out _ _ r⟩⟩
theorem SOk.outBox{vs:List V}(s:SOk K ⟨mg,acc::F⟩ μ S H)(hm:acc∉μ)(h:H acc=some (.lst vs))(r:RepL K ⟨mg,acc::F⟩ μ H ys vs):SOk K ⟨mg,F⟩ (μ++[acc]) (S++[ys]) H:=by
 refine⟨λa ha=>s.live a (Zc _ ha),by simp[s.len],?_,λn a es h1 h2=>?_⟩
 ·rw[Z2]
  exact⟨s.nd,by simp,λa ha b hb=>by
   have:b=acc:=by simpa using hb
   subst this;intro z;subst z;exact hm ha⟩
 ·have hl:=s.len;by_cases hn:n<μ.length
  ·rw[ZB hn]at h1;rw[ZB (by omega)]at h2;obtain⟨ws,q,r'⟩:=s.at_ n a es h1 h2;exact⟨ws,q,RepL.chg .outBox _ _ r'⟩
  ·have e1:n=μ.length:=by
    have:=(Zl.mp h1).1;simp at this;omega
   subst e1;rw[Zv (Zi _)]at h1;rw[Zv (by omega)]at h2;simp[hl]at h1 h2;subst h1;subst h2;exact⟨vs,h,RepL.chg .outBox _ _ r⟩
theorem Ext.more(x:Ext μ H μ1 H1)(h:H acc=none):Ext μ H μ1 (upd H1 acc o):=
 ⟨x.pre,λa u e c=>by rw[a0A' (a0o' e h)];exact x.keep a u e c,λa u e=>by rw[a0A' (a0o' e h)];exact x.there a u e,x.fresh⟩
theorem Ext.outBox(x:Ext μ H μ1 H1)(h:H acc=none):Ext μ H (μ1++[acc]) H1:=by
 obtain⟨r,e⟩:=x.pre;refine⟨⟨r++[acc],by rw[e,Zu]⟩,x.keep,x.there,λa ha=>?_⟩;rcases Zs.mp ha with ha|ha
 ·exact x.fresh a ha
 ·have:a=acc:=by simpa using ha
  subst this;exact .inr h
end
noncomputable def getOf:Its→Store→Nat→Option (Option D)
 | .items xs=>λ_ i=>some xs[i]?
 | .live _ get=>get
def ItOk(K:Fg)(mg:GS)(J:It)(get:Store→Nat→Option (Option D))(μ:La)(H:Hp):Prop:=
 ∀(i:Nat) μ' S' H' F',Chg K mg.F μ H F' μ' H'→SOk K ⟨mg.mg,F'⟩ μ' S' H'→
  (∀x,get S' i=some (some x)→J.go i H'∧∀y H'',J.yld i H' y H''→Ext μ' H' μ' H''∧SOk K ⟨mg.mg,F'⟩ μ' S' H''∧Rep K ⟨mg.mg,F'⟩ μ' H'' x y)∧(get S' i=some none→J.stop i H')
def tI(K:Fg)(mg:Mg)(E:XK)(Φ:FT)(Γ:Str→Option D)(c:CE):TI:=λσ H R=>∃F μ ρ S,SOk K ⟨mg,F⟩ μ S H∧EnvR K ⟨mg,F⟩ μ H ρ σ∧WantG K ⟨mg,F⟩ E (λμ' H' its J=>ItOk K ⟨mg,F⟩ J (getOf its) μ' H') μ H R (denI Φ Γ c ρ S)
theorem Chg.refl:Chg K F μ H F μ H:=⟨λ_ _ q=>q,λ_ _ q h1 h2=>⟨q,h1,h2⟩,λ_ _ q=>q,λ_ _ q=>q,λ_ q=>q⟩
theorem Chg.trans{F1 F2 μ2:La}{H2:Hp}(a:Chg K F μ H F1 μ1 H1)(b:Chg K F1 μ1 H1 F2 μ2 H2):Chg K F μ H F2 μ2 H2:=
 ⟨λx vs q=>b.tup x vs (a.tup x vs q),λx vs q h1 h2=>by obtain⟨p1,p2,p3⟩:=a.lst x vs q h1 h2;exact b.lst x vs p1 p2 p3,λx vs q=>b.frz x vs (a.frz x vs q),λn x q=>b.box n x (a.box n x q),λx q=>b.dct x (a.dct x q)⟩
theorem Chg.of_ext{F':La}(x:Ext μ H μ' H')(hF:∀a∈F',a∈F∨H a=none):Chg K F μ H F' μ' H':=by
 refine⟨λa vs q=>x.sqT q,λa vs q h1 h2=>⟨(x.lst q h1).1,(x.lst q h1).2,λz=>?_⟩,λa vs q=>x.frz q,λn a q=>x.get q,λa q=>x.keep _ _ q (.inl λ_ z=>by cases z)⟩;rcases hF a z with z|z
 ·exact h2 z
 ·rw[q]at z;cases z
section
variable {E:XK}{l:Expr}{pos:Pos}{c:CE}
theorem a5Z'{R:It→Hp→Prop}{xs:List V}(I:Inv X pq σ H s)(hq:SqL X.K H a xs)(q:R (Itl X.K a) H):wpAny (model X.prog X.w) X.A (pyIter (.ref a)) (PIE X pq σ tg R) E' s:=by
 obtain⟨its,rv,p,hz⟩:=I.list hq;refine wpAny_pyIter_list p.isList ?_;refine⟨s.heap.objs.size,[s.heap.objs.size],_,_,H,rfl,I.kept (t':=s.toks) λb o e=>Zd _ e,b2C' a _,⟨_,Zo _ rfl,rfl,rfl⟩,λb hb=>?_,q⟩;have e:b=s.heap.objs.size:=by simpa using hb
 subst e;exact I.fpOk (Zi _) (I.hok.fresh (Zi _))
theorem b5i'{R:It→Hp→Prop}{xs:List V}(I:Inv X pq σ H s)(hq:SqT X.K H a xs)(q:R (Itt X.K a) H):wpAny (model X.prog X.w) X.A (pyIter (.ref a)) (PIE X pq σ tg R) E' s:=by
 obtain⟨its,rv,p,hz⟩:=I.tuple hq;refine wpAny_pyIter_tuple (show s.heap.IsTuple a its.toArray from p) ?_;refine⟨s.heap.objs.size,[s.heap.objs.size],_,_,H,rfl,I.kept (t':=s.toks) λb o e=>Zd _ e,b0h' a _,⟨_,Zo _ rfl,rfl,rfl⟩,λb hb=>?_,q⟩;have e:b=s.heap.objs.size:=by simpa using hb
 subst e;exact I.fpOk (Zi _) (I.hok.fresh (Zi _))
theorem a8D'{mg:GS}{vs:List V}{i:Nat}(r:RepL K mg μ H ds vs)(h:getOf (.items ds) S i=some none):vs.length≤i:=by
 have h1:ds[i]?=none:=by simpa[getOf]using h
 have h2:=Yc.mp h1;have hl:=r.length;omega
theorem a8E'{mg:GS}{vs:List V}(hq:∀F' μ' H',Chg K mg.F μ H F' μ' H'→SqL K H' a vs)(r:RepL K mg μ H ds vs):ItOk K mg (Itl K a) (getOf (.items ds)) μ H:=by
 intro i μ' S' H' F' ch sk;have hl:=r.length;refine⟨λy hy=>?_,λhi=>⟨vs,hq _ _ _ ch,a8D' r hi⟩⟩;have hy:ds[i]?=some y:=by simpa[getOf]using hy
 obtain⟨v,h1,h2⟩:=r.get hy;refine⟨⟨vs,v,hq _ _ _ ch,h1⟩,λz H'' hz=>?_⟩;obtain⟨rfl,hz⟩:=hz;have e:=hz vs (hq _ _ _ ch);rw[h1]at e;cases e;exact⟨.refl,sk,Rep.chg ch _ _ h2⟩
theorem b5j'{mg:GS}{vs:List V}(hq:SqT K H a vs)(r:RepL K mg μ H ds vs):ItOk K mg (Itt K a) (getOf (.items ds)) μ H:=by
 intro i μ' S' H' F' ch sk;have hl:=r.length;refine⟨λy hy=>?_,λhi=>⟨vs,ch.tup _ _ hq,a8D' r hi⟩⟩;have hy:ds[i]?=some y:=by simpa[getOf]using hy
 obtain⟨v,h1,h2⟩:=r.get hy;refine⟨⟨vs,v,ch.tup _ _ hq,h1⟩,λz H'' hz=>?_⟩;obtain⟨rfl,hz⟩:=hz;have e:=hz vs (ch.tup _ _ hq);rw[h1]at e;cases e;exact⟨.refl,sk,Rep.chg ch _ _ h2⟩
theorem b5k'{mg:GS}(hn:μ[n]?=some a):ItOk K mg (Itl K a) (a2g' n) μ H:=by
 intro i μ' S' H' F' ch sk;have hl:n<S'.length:=by rw[←sk.len];exact(Zl.mp (ch.box _ _ hn)).1
 have hy:S'[n]?=some S'[n]:=Ze hl;obtain⟨vs,h1,r⟩:=sk.at_ n a _ (ch.box _ _ hn) hy;have hl:=r.length;refine⟨λy hy'=>?_,λhi=>⟨vs,.of h1,?_⟩⟩
 ·unfold a2g' at hy';rw[hy]at hy';simp only[Option.map_some,Option.some.injEq]at hy';obtain⟨v,h2,h3⟩:=r.get hy';refine⟨⟨vs,v,.of h1,h2⟩,λz H'' hz=>?_⟩;obtain⟨rfl,hz⟩:=hz;have e:=hz vs (.of h1);rw[h2]at e;cases e;exact⟨.refl,sk,h3⟩
 ·unfold a2g' at hi;rw[hy]at hi;simp only[Option.map_some,Option.some.injEq]at hi;have:=Yc.mp hi;omega
theorem i_seq(ha:PE X l (tE X.K X.mg E Φ Γ c)):PI X tg l (tI X.K X.mg E Φ Γ (.seq c)):=by
 intro pq s σ H R I h;obtain⟨F,μ,ρ,S,sk,en,w⟩:=h;refine thn (ha pq s σ H _ I ⟨F,μ,ρ,S,sk,en,WantG.bind w⟩) λu s1 ⟨v,H1,I1,rv,μ1,S1,d,x1,s1k,rd,w1⟩=>?_;cases d with
 |tup ds=>obtain⟨a,vs,rfl,hq,r⟩:=a0I' rd;cases rv;exact b5i' I1 hq (w1 μ1 H1 _ .refl s1k (b5j' hq r))
 |lst ds=>unfold Rep at rd;obtain⟨a,vs,rfl,hq,hn,r⟩:=rd;cases rv;exact a5Z' I1 (.of hq) (w1 μ1 H1 _ .refl s1k (a8E' (λF' μ' H' ch=>.of (ch.lst a vs hq hn.1 hn.2).1) r))
 |scr ds=>unfold Rep at rd;obtain⟨a,vs,rfl,hq,r⟩:=rd;cases rv;exact a5Z' I1 hq.sq (w1 μ1 H1 _ .refl s1k (a8E' (λF' μ' H' ch=>(ch.frz a vs hq).sq) r))
 |ref n=>
  have rd':=rd;unfold Rep at rd;obtain⟨a,rfl,hn⟩:=rd;cases rv;have hl:n<S1.length:=by rw[←s1k.len];exact(Zl.mp hn).1
  obtain⟨vs,h1,r⟩:=s1k.at_ n a _ hn (Ze hl);exact a5Z' I1 (.of h1) (w1 μ1 H1 _ .refl s1k (b5k' hn))
 |_=>exact w1.elim
theorem a4c'(lo:Int)(n:Nat):(a4m' lo n).length=n:=by
 induction n generalizing lo with
 |zero=>rfl
 |succ n ih=>unfold a4m';rw[Zw,ih]
theorem b0Q'(lo:Int)(n i:Nat)(h:i<n):(a4m' lo n)[i]?=some (.int (lo+i)):=by
 induction n generalizing lo i with
 |zero=>omega
 |succ n ih=>
  unfold a4m';cases i with
  |zero=>simp
  |succ i=>rw[Zh,ih (lo+1) i (by omega)];congr 2;omega
theorem a6K'{mg:GS}(lo:Int)(n:Nat):ItOk K mg (Itr lo n) (getOf (.items (a4m' lo n))) μ H:=by
 intro i μ' S' H' F' ch sk;refine⟨λy hy=>?_,λhi=>?_⟩
 ·have hy:(a4m' lo n)[i]?=some y:=by simpa[getOf]using hy
  have hi:i<n:=by have:=(Zl.mp hy).1;rwa [a4c']at this
  rw[b0Q' lo n i hi]at hy;cases hy;refine⟨hi,λz H'' hz=>?_⟩;obtain⟨rfl,rfl⟩:=hz;exact⟨.refl,sk,a1l'⟩
 ·have:(a4m' lo n)[i]?=none:=by simpa[getOf]using hi
  have:=Yc.mp this;rw[a4c']at this;exact this
variable {es:Lx}{cs:List CE}{a b:CE}{r:Expr}
theorem len_is{mg:GS}{Q:List V→Hp→Prop}(w:WantG K mg E (RepL K mg) μ H Q (denL Φ Γ cs ρ S)):WantG K mg E (RepL K mg) μ H (λvs H'=>vs.length=cs.length∧Q vs H') (denL Φ Γ cs ρ S):=by
 cases e:denL Φ Γ cs ρ S with
 |ok ds S'=>rw[e]at w;intro μ' H' vs x s r;refine⟨?_,w μ' H' vs x s r⟩;rw[←r.length,a7J' e]
 |err y S'=>rw[e]at w;exact w
 |fail=>rw[e]at w;exact w
theorem b5l'(O:XOk X cell N sc CX E Φ Γ k)(h:gloB sc "range"=true)(hn:a0T' l=true)(hcs:cs.length=1)(ha:PA X [l] (tL X.K X.mg E Φ Γ cs)):PI X tg (.Call (.Name "range" p2) [l] [] pos) (tI X.K X.mg E Φ Γ (.range cs)):=by
 obtain⟨h1,_,_⟩:=a0Q' h;intro pq s σ H R I ⟨F,μ,ρ,S,sk,en,w⟩;refine b2D' (O.gl h1) (O.mod.bl _ (by decide+kernel)) ha (by rw[a0y' hn];rfl) pq s σ H R I ⟨F,μ,ρ,S,sk,en,(len_is (WantG.bind w)).mono λvs H1 ⟨hl,μ1,S1,ds,x1,s1,r1,w1⟩=>?_⟩;have hl2:=r1.length;split at w1
 ·rename_i j;split at w1
  ·rename_i hj;obtain⟨v,rfl,rv⟩:=r1.one;cases a0b' rv;exact⟨j,rfl,hj.1,hj.2,w1 μ1 H1 _ .refl s1 (a6K' 0 j.toNat)⟩
  ·exact w1.elim
 ·simp only[Zw,List.length_nil]at hl2;omega
 ·exact w1.elim
theorem b5m'(O:XOk X cell N sc CX E Φ Γ k)(h:gloB sc "range"=true)(hn:a0T' l=true)(hn2:a0T' r=true)(hcs:cs.length=2)(ha:PA X [l,r] (tL X.K X.mg E Φ Γ cs)):PI X tg (.Call (.Name "range" p2) [l,r] [] pos) (tI X.K X.mg E Φ Γ (.range cs)):=by
 obtain⟨h1,_,_⟩:=a0Q' h;intro pq s σ H R I ⟨F,μ,ρ,S,sk,en,w⟩;refine b2E' (O.gl h1) (O.mod.bl _ (by decide+kernel)) ha (by rw[a0y' hn,a0y' hn2];rfl) (by rw[a0y' hn2];rfl) pq s σ H R I ⟨F,μ,ρ,S,sk,en,(len_is (WantG.bind w)).mono λvs H1 ⟨hl,μ1,S1,ds,x1,s1,r1,w1⟩=>?_⟩;have hl2:=r1.length;split at w1
 ·simp only[Zw,List.length_nil]at hl2;omega
 ·rename_i i j;split at w1
  ·rename_i hj;obtain⟨v,v',rfl,rv,rv'⟩:=r1.two;cases a0b' rv;cases a0b' rv';exact⟨i,j,rfl,hj,w1 μ1 H1 _ .refl s1 (a6K' i (j-i).toNat)⟩
  ·exact w1.elim
 ·exact w1.elim
theorem a4I'(n:Nat):(downL n).length=n:=by
 induction n with
 |zero=>rfl
 |succ n ih=>unfold downL;rw[Zw,ih]
theorem b3c'(n i:Nat)(h:i<n):(downL n)[i]?=some (.int ((n:Int)-1-i)):=by
 induction n generalizing i with
 |zero=>omega
 |succ n ih=>
  unfold downL;cases i with
  |zero=>rw[Zg];congr 2;omega
  |succ i=>rw[Zh,ih i (by omega)];congr 2;omega
theorem b3d'{mg:GS}(n:Nat):ItOk K mg (Itd n) (getOf (.items (downL n))) μ H:=by
 intro i μ' S' H' F' ch sk;refine⟨λy hy=>?_,λhi=>?_⟩
 ·have hy:(downL n)[i]?=some y:=by simpa[getOf]using hy
  have hi:i<n:=by have:=(Zl.mp hy).1;rwa [a4I']at this
  rw[b3c' n i hi]at hy;cases hy;refine⟨hi,λz H'' hz=>?_⟩;obtain⟨rfl,rfl⟩:=hz;exact⟨.refl,sk,a1l'⟩
 ·have:(downL n)[i]?=none:=by simpa[getOf]using hi
  have:=Yc.mp this;rw[a4I']at this;exact this
theorem i_down(O:XOk X cell N sc CX E Φ Γ k)(h:gloB sc "reversed"=true)(h':gloB sc "range"=true)(hn:a0T' l=true)(ha:PA X [l] (tL X.K X.mg E Φ Γ cs)):PI X tg (.Call (.Name "reversed" p1) [.Call (.Name "range" p2) [l] [] p3] [] pos) (tI X.K X.mg E Φ Γ (.down cs)):=by
 obtain⟨h1,_,_⟩:=a0Q' h;obtain⟨h2,_,_⟩:=a0Q' h';intro pq s σ H R I ⟨F,μ,ρ,S,sk,en,w⟩;refine pi_down (O.gl h1) (O.mod.bl _ (by decide+kernel)) (O.gl h2) (O.mod.bl _ (by decide+kernel)) ha (by rw[a0y' hn];rfl) pq s σ H R I ⟨F,μ,ρ,S,sk,en,(WantG.bind w).mono λvs H1 ⟨μ1,S1,ds,x1,s1,r1,w1⟩=>?_⟩;split at w1
 ·rename_i j;split at w1
  ·rename_i hj;obtain⟨v,rfl,rv⟩:=r1.one;cases a0b' rv;exact⟨j,rfl,hj.1,hj.2,w1 μ1 H1 _ .refl s1 (b3d' j.toNat)⟩
  ·exact w1.elim
 ·exact w1.elim
theorem b0R'{mg:GS}(s:SOk K mg μ S H)(r:Rep K mg μ H d v)(e:seqOf S d=some xs):∃a,v=.ref a∧
  ∀μ' S' H' F',Chg K mg.F μ H F' μ' H'→SOk K ⟨mg.mg,F'⟩ μ' S' H'→∃ys vs,seqOf S' d=some ys∧SqB (isLst d) K H' a vs∧RepL K ⟨mg.mg,F'⟩ μ' H' ys vs:=by
 cases d with
 |tup ds=>obtain⟨a,vs,rfl,hq,q⟩:=a0I' r;exact⟨a,rfl,λμ' S' H' F' ch sk=>⟨ds,vs,rfl,ch.tup _ _ hq,RepL.chg ch _ _ q⟩⟩
 |lst ds=>unfold Rep at r;obtain⟨a,vs,rfl,hq,hn,q⟩:=r;exact⟨a,rfl,λμ' S' H' F' ch sk=>⟨ds,vs,rfl,SqL.of (ch.lst a vs hq hn.1 hn.2).1,RepL.chg ch _ _ q⟩⟩
 |scr ds=>unfold Rep at r;obtain⟨a,vs,rfl,hq,q⟩:=r;exact⟨a,rfl,λμ' S' H' F' ch sk=>⟨ds,vs,rfl,(ch.frz a vs hq).sq,RepL.chg ch _ _ q⟩⟩
 |ref n=>
  unfold Rep at r;obtain⟨a,rfl,hn⟩:=r;refine⟨a,rfl,λμ' S' H' F' ch sk=>?_⟩;have hl:n<S'.length:=by rw[←sk.len];exact(Zl.mp (ch.box _ _ hn)).1
  obtain⟨vs,h1,q⟩:=sk.at_ n a _ (ch.box _ _ hn) (Ze hl);exact⟨_,vs,Ze hl,SqL.of h1,q⟩
 |_=>unfold seqOf at e;cases e
theorem a3n'(h:a9q' d=some xs)(S:Store):seqOf S d=some xs:=by unfold a9q' at h;split at h<;>first|exact h|cases h
theorem b3e'{e:D}{its:Its}(h:zipOf S d e=some its):(∃xs ys,seqOf S d=some xs∧seqOf S e=some ys)∧∀S' i,(∃xs ys,seqOf S' d=some xs∧seqOf S' e=some ys)→getOf its S' i=a5X' d e S' i:=by
 unfold zipOf at h;split at h
 ·rename_i xs ys e1 e2;cases h;refine⟨⟨xs,ys,a3n' e1 S,a3n' e2 S⟩,λS' i _=>?_⟩;show some (List.zipWith (λx y=>D.tup [x,y]) xs ys)[i]?=_;unfold a5X';rw[a3n' e1 S',a3n' e2 S',List.getElem?_zipWith]
  show some _=some (match xs[i]?,ys[i]? with
   |some x,some y=>some (D.tup [x,y])
   |_,_=>none)
  cases xs[i]? <;>cases ys[i]? <;>rfl
 ·split at h
  ·rename_i xs ys e1 e2;cases h;exact⟨⟨xs,ys,e1,e2⟩,λS' i _=>rfl⟩
  ·cases h
theorem b5n'{mg:GS}{e:D}{u:V}{its:Its}(sk:SOk K mg μ S H)(rd:Rep K mg μ H d v)(re:Rep K mg μ H e u)(h:zipOf S d e=some its):
  ∃a b,v=.ref a∧u=.ref b∧(∃vs,SqB (isLst d) K H a vs)∧(∃vs,SqB (isLst e) K H b vs)∧ItOk K mg (Itz K (isLst d) (isLst e) a b) (getOf its) μ H:=by
 obtain⟨⟨xs,ys,e1,e2⟩,hg⟩:=b3e' h;obtain⟨a,rfl,ka⟩:=b0R' sk rd e1;obtain⟨b,rfl,kb⟩:=b0R' sk re e2;obtain⟨_,va,_,qa,_⟩:=ka μ S H mg.F .refl sk;obtain⟨_,vb,_,qb,_⟩:=kb μ S H mg.F .refl sk;refine⟨a,b,rfl,rfl,⟨va,qa⟩,⟨vb,qb⟩,λi μ' S' H' F' ch sk'=>?_⟩;obtain⟨xs',vs,f1,q1,r1⟩:=ka μ' S' H' F' ch sk';obtain⟨ys',ws,f2,q2,r2⟩:=kb μ' S' H' F' ch sk';rw[hg S' i ⟨xs',ys',f1,f2⟩];unfold a5X';rw[f1,f2];have l1:=r1.length;have l2:=r2.length;refine⟨λy hy=>?_,λhy=>⟨vs,ws,q1,q2,?_⟩⟩
 ·have hy:=Z6 hy;cases g1:xs'[i]? with
  |none=>rw[g1]at hy;cases hy
  |some p=>
   cases g2:ys'[i]? with
   |none=>rw[g1,g2]at hy;cases hy
   |some q=>rw[g1,g2]at hy;cases hy;obtain⟨v1,k1,rp⟩:=r1.get g1;obtain⟨v2,k2,rq⟩:=r2.get g2;refine⟨⟨vs,ws,v1,v2,q1,q2,k1,k2⟩,λz H'' hz=>?_⟩;obtain⟨T,x',y',rfl,hT,rfl,z1,z2⟩:=hz;have e3:=z1 vs q1;rw[k1]at e3;cases e3;have e4:=z2 ws q2;rw[k2]at e4;cases e4;refine⟨.laid hT,sk'.laid hT,?_⟩;unfold Rep;exact⟨T,[v1,v2],rfl,SqT.of a0U',.cons (Rep.mono (.laid hT) _ _ rp) (.cons (Rep.mono (.laid hT) _ _ rq) .nil)⟩
 ·have hy:=Z6 hy;cases g1:xs'[i]? with
  |none=>exact .inl (by have:=Yc.mp g1;omega)
  |some p=>
   cases g2:ys'[i]? with
   |none=>exact .inr (by have:=Yc.mp g2;omega)
   |some q=>rw[g1,g2]at hy;cases hy
theorem ne5{i j:Nat}(h:i≠j):n+i≠n+j:=λe=>h (Nat.add_left_cancel e)
theorem ne5'{j:Nat}(h:0≠j):n≠n+j:=λe=>h (Nat.add_left_cancel (n:=n) (by rw[Nat.add_zero];exact e))
theorem ne5''{j:Nat}(h:0≠j):n+j≠n:=λe=>ne5' h e.symm
theorem b5o':bootBuiltins "zip"=some (.type "zip"):=by decide+kernel
theorem i_zip(O:XOk X cell N sc CX E Φ Γ k)(h:gloB sc "zip"=true)(ht:isTup tg=true)(hn:a0T' l=true)(hn2:a0T' r=true)(ha:PA X [l,r] (tL X.K X.mg E Φ Γ cs)):PI X tg (.Call (.Name "zip" p2) [l,r] [] pos) (tI X.K X.mg E Φ Γ (.zip cs)):=by
 obtain⟨h1,_,_⟩:=a0Q' h;intro pq s σ H R I ⟨F,μ,ρ,S,sk,en,w⟩;refine Call_ (a5j' I (O.gl h1) (O.mod.bl _ (by decide+kernel)) b5o' (Yk (thn (ha pos pq s σ H _ I ⟨F,μ,ρ,S,sk,en,WantG.bind w⟩) λus s1 ⟨vs,H1,I1,rv,μ1,S1,ds,x1,s1k,r1,w1⟩=>?_) (a0y' hn) (by rw[a0y' hn2];rfl)));split at w1
 ·rename_i d e;obtain⟨v,u,rfl,rd,re⟩:=r1.two;cases ez:zipOf S1 d e with
  |none=>rw[ez]at w1;exact w1.elim
  |some its=>
   rw[ez]at w1;obtain⟨a,b,rfl,rfl,⟨va,qa⟩,⟨vb,qb⟩,ok⟩:=b5n' s1k rd re ez;cases rv with
   |cons p q=>
    cases q with
    |cons p' q'=>
     cases q';cases p;cases p';obtain⟨as,ra,sa⟩:=a9t' I1 qa;obtain⟨bs,rb,sb⟩:=a9t' I1 qb;refine b5g' sa sb λh' z1 z2 z3 z4 z5 z6 kk=>?_;refine wpAny_pyIter_zip z1 ?_;have I2:Inv X pq σ H1 {s1 with heap:=h'}:=I1.kept (t':=s1.toks) kk;cases tg with
     |Tuple ts x1 tp=>
      refine⟨s1.heap.objs.size+4,[s1.heap.objs.size+4,s1.heap.objs.size+2,s1.heap.objs.size+3,s1.heap.objs.size,s1.heap.objs.size+1],_,_,H1,rfl,I2,
       b5h' (isLst d) (isLst e) (s1.heap.objs.size+4) (s1.heap.objs.size+2) (s1.heap.objs.size+3) s1.heap.objs.size (s1.heap.objs.size+1) a b (ne5 (by decide)) (ne5 (by decide)) (ne5' (by decide)) (ne5 (by decide)) (ne5 (by decide)) (ne5'' (by decide)) (ne5 (by decide)) (ne5'' (by decide)) (ne5 (by decide)) (ne5' (by decide)),⟨z1,z2,⟨_,_,z3⟩,z4,z5⟩,λc hc=>?_,w1 μ1 H1 _ .refl s1k ok⟩
      have hc':s1.heap.objs.size≤c:=by
       simp only[Zj,Z1,or_false]at hc;rcases hc with rfl|rfl|rfl|rfl|rfl
       ·exact Nat.le_add_right _ _
       ·exact Nat.le_add_right _ _
       ·exact Nat.le_add_right _ _
       ·exact Zi _
       ·exact Nat.le_add_right _ _
      exact I1.fpOk hc' (I1.hok.fresh hc')
     |_=>cases ht
 ·exact w1.elim
end
noncomputable def a6L'(ifs:Lx)(env:Env):Sem Bool:=forIn ifs true (λc r=>if r=true then do let ok ←isTrue c env (eval c env);pure (ForInStep.yield ok)else pure (ForInStep.yield r))
noncomputable def cRest(elt:Expr)(gens:List Comprehension)(scope:Scope)(pos:Pos)(d:Nat)(acc:Value)(env:Env):Sem Unit:=match gens[d+1]? with
 |some g'=>do
   let x ←eval g'.iter env
   standAt g'.iter.pos
   let x ←if g'.is_async !=0 then foldedIterable g'.iter x else foldedSetIterable g'.iter env x
   let _ ←runOwn (.compStart (.ListComp elt gens scope pos) (d+1) (←holding [x] (if g'.is_async !=0 then asyncIter x else pyIter x)) acc env) env
 |none=>do let _ ←call (.builtin "list.append") [acc,←eval elt env]
theorem a3K'{pos:Pos}{d:Nat}{it acc:Value}{t i:Expr}{fs:Lx}(h:gens[d]?=some ⟨t,i,fs,0⟩):
  compTurn (.ListComp elt gens scope pos) d it acc env=(standAt i.pos>>=λ_=>pyNext it>>=λr=>match r with
   |none=>pure (.done .next)
   |some v=>letOwnedTupleGo t it v>>=λ_=>assign t env v>>=λ_=>(a6L' fs env>>=λok=>if ok=true then cRest elt gens scope pos d acc env else pure ())>>=λ_=>
    again (.compLoop (.ListComp elt gens scope pos) d it acc env)):=by
 unfold compTurn;simp only[h];show(standAt i.pos>>=λ_=>pyNext it>>=_)=_;congr 1;funext _;congr 1;funext r;cases r with
 |none=>rfl
 |some v=>
  show(letOwnedTupleGo t it v>>=λ_=>assign t env v>>=λ_=>_>>=λok=>_)=_;congr 1;funext _;congr 1;funext _
  conv=>rhs;rw[bind_assoc]
  unfold a6L';refine congrArg (λk=>_>>=k) (funext λok=>?_);cases ok with
  |true=>
   simp only[if_true];unfold cRest;cases gens[d+1]? with
   |none=>rfl
   |some g'=>
    by_cases hb:(g'.is_async !=0)=true
    ·simp only[if_pos hb,bind_assoc,pure_bind]
    ·simp only[if_neg hb,bind_assoc,pure_bind]
  |false=>simp only[ZT,if_false,pure_bind]
theorem a7K'{R:Result→Shared→Prop}{pos:Pos}{d:Nat}{it acc:Value}{t i:Expr}{fs:Lx}(hg:gens[d]?=some ⟨t,i,fs,0⟩)
  (h0:codeAny (model prog w) A (.compLoop (.ListComp elt gens scope pos) d it acc env) R s)
  (h:wpAny (model prog w) A (pyIter it) (λit' s'=>codeAny (model prog w) A (.compLoop (.ListComp elt gens scope pos) d it' acc env) R s') (notedBy (model prog w) A env λx s'=>R (.error x) s') s):
  codeAny (model prog w) A (.compStart (.ListComp elt gens scope pos) d it acc env) R s:=by
 refine codeAny_of_tree ?_;show wpAny _ _ ((compStart (.ListComp elt gens scope pos) d it acc env).onRaise (λx=>do noteFrame x env;standAt theWindowsPlace)) _ _ s;refine wpAny_notedAt ?_;unfold compStart;have e1:(clausesOf (.ListComp elt gens scope pos))[d]?=some ⟨t,i,fs,0⟩:=hg;rw[e1];show wpAny _ _ (ask>>=_) _ _ s;refine Za (wpAny_askSetting (wpAny_ite ?_));split
 ·first
   |exact Za (Zf (Zf (And.intro rfl h0)))
   |exact Zf (And.intro rfl h0)
 ·first
   |exact Za (wpAny_rule (Za (wpAny_standAt (Za (wpAny_mono h (λit' s' h'=>Zf (And.intro rfl h')) λ_ _ x=>x)))))
   | (refine Za (wpAny_rule ?_);show wpAny _ _ (standAt i.pos>>=_) _ _ s;exact Za (wpAny_standAt (Za (wpAny_mono h (λit' s' h'=>Zf (And.intro rfl h')) λ_ _ x=>x))))
section
variable {pos:Pos}{d:Nat}
theorem pb_when{fs:Lx}{ts:List TT}{tu:TU}(ht:PTs X fs ts)(hb:PB X (cRest elt gens scope pos d (.ref acc) X.env) tu):
  PB X (a6L' fs X.env>>=λok=>if ok=true then cRest elt gens scope pos d (.ref acc) X.env else pure ()) (tWhen ts tu):=by
 intro pq s σ H Q I h;refine Za (thn (b0F' fs ts ht pq s σ H _ I h) λb s1 ⟨H1,I1,q1⟩=>?_);cases b with
 |false=>rw[if_neg (by decide)]at q1;rw[if_neg (by decide)];exact Zf ⟨σ,H1,I1,q1⟩
 |true=>rw[if_pos rfl]at q1;rw[if_pos rfl];exact hb pq s1 σ H1 Q I1 q1
theorem pb_last(hg:gens[d+1]?=none)(he:PE X elt te):PB X (cRest elt gens scope pos d (.ref acc) X.env) (tEmit acc te):=by intro pq s σ H Q I h;unfold cRest;rw[hg];show wpAny _ _ (eval elt X.env>>=λx=>call (.builtin "list.append") [.ref acc,x]>>=λ_=>pure ()) _ _ s;refine Za (thn (he pq s σ H _ I h) λu s2 ⟨v,H2,I2,r2,ys,ha,hz,q2⟩=>?_);refine Za (thn (a8u' pq s2 σ H2 (.ref acc) [v] (.ref acc) [u] (λ_ H'=>Q σ H') I2 rfl (.cons r2 .nil) ⟨acc,ys,v,rfl,rfl,ha,hz,q2⟩) λ_ s3 ⟨_,H3,I3,_,q3⟩=>?_);exact Zf ⟨σ,H3,I3,q3⟩
theorem b5p'{t i:Expr}{fs:Lx}{g:TG}{tb:TU}(hx:X.xe=λ_ _=>False)(hc:X.calm=true)(hg:gens[d+1]?=some ⟨t,i,fs,0⟩)(hi:PI X t i wi)(hs:∀x,foldedSetIterable i X.env x=pure x)(hgt:PG X t g)
  (hb:PB X (a6L' fs X.env>>=λok=>if ok=true then cRest elt gens scope pos (d+1) (.ref acc) X.env else pure ()) tb):PB X (cRest elt gens scope pos d (.ref acc) X.env) (tInner wi g tb):=by
 intro pq s σ H Q I h;unfold cRest;rw[hg];show wpAny _ _ (eval i X.env>>=λx=>standAt i.pos>>=λ_=>foldedSetIterable i X.env x>>=λx=>holding [x] (pyIter x)>>=λit=>runOwn (.compStart (.ListComp elt gens scope pos) (d+1) it (.ref acc) X.env) X.env>>=λ_=>pure ()) _ _ s;refine Za (thn (hi pq s σ H _ I h) λv s1 h1=>Za (wpAny_standAt (Za ?_)));rw[hs];refine Zf (Za (wpAny_holding (thn h1 λitv s2 h2=>Za ?_)));obtain⟨it,fp,tn,J,H2,e,I2,T,st2,f2,W⟩:=h2;subst e
 have loop:codeAny (model X.prog X.w) X.A (.compLoop (.ListComp elt gens scope pos) (d+1) (.ref it) (.ref acc) X.env) (λr s'=>match r with
   | .ok f=>∃σ' H',Inv X pq σ' H' s'∧Q σ' H'
   | .error e=>cameBackBy (model X.prog X.w) X.A X.env X.xe e s') s2:=
  a8y' (Fin:=Q) hx hc (a3K' hg) T hgt hb I2 st2 f2 W λs' σ' H' I' _ q=>⟨σ',H',I',q⟩
 refine wpAny_runOwn (h:=none) ?_
 refine codeAny_mono (R:=λr s'=>match r with
   | .ok f=>∃σ' H',Inv X pq σ' H' s'∧Q σ' H'
   | .error e=>cameBackBy (model X.prog X.w) X.A X.env X.xe e s') (a7K' hg loop (T.self _ 0 _ _ _ st2 loop)) λr s' q=>?_
 cases r with
 |ok f=>exact Zf q
 |error e=>exact q
end
noncomputable def gVs:List CT→TGs
 | []=>gNil
 |t::ts=>match t with
  | .var i=>gCons (gName i) (gVs ts)
  | .tup _=>λ_ _ _ _=>False
def gCT(K:Fg):CT→TG
 | .var i=>gName i
 | .tup ts=>gTup K ts.length (gVs ts)
section
variable {E:XK}
theorem nm_ok(O:XOk X cell N sc CX E Φ Γ k){i:Nat}{p:Pos}(h:sdT cell N sc (.var i)=true):PG X (.Name (N.getD i "") p) (gName i):=by
 have h1:=(andB h).1;have h2:=(andB h).2;generalize N.getD i ""=x at h1 h2;simp only[ZA,Bool.or_eq_true,beq_iff_eq]at h1 h2
 have hl:L2.Loc X.env.scope x:=by
  unfold L2.Loc;rw[O.sc];rcases h2 with z|z
  ·exact .inl z
  ·exact .inr z.2
 refine pg_name (by rw[O.n];exact O.nd) (by rw[O.n];exact h1) hl ?_;rcases h2 with z|z
 ·exact .inr (by rw[O.sc];exact z)
 ·exact .inl (O.fn x z.1)
theorem a6a'{env:Env}:∀{ts:List CT} {es:Lx},((assignEach (emTL ts N es) env).length=ts.length∧(assignEach (emTL ts N es) env).findIdx? (·.1)=none)
 | [],_=>⟨rfl,rfl⟩
 |t::ts,es=>by
  have ih:=a6a' (env:=env) (ts:=ts) (es:=es.tail);have e:assignEach (emTL (t::ts) N es) env=(false,assign (emT t N (es.headD dE)) env)::assignEach (emTL ts N es.tail) env:=by cases t<;>rfl
  rw[e];exact⟨by rw[Zw,ih.1,Zw],by rw[List.findIdx?_cons,ih.2];rfl⟩
theorem gs_pg(O:XOk X cell N sc CX E Φ Γ k):∀{ts:List CT} {es:Lx},sdTL cell N sc ts=true→PGs X (emTL ts N es) (gVs ts)
 | [],es,h=>pgs_nil
 |t::ts,es,h=>by
  cases t with
  |tup _=>exact λ_ _ _ _ _ _ _ _ _ z=>z.elim
  |var i=>exact b4G' (nm_ok O (andB h).1) (gs_pg O (andB h).2)
theorem g_pg(O:XOk X cell N sc CX E Φ Γ k){t:CT}(h:sdT cell N sc t=true):PG X (emT t N e) (gCT X.K t):=by
 cases t with
 |var i=>exact nm_ok O h
 |tup ts=>exact pg_tup O.calm (gs_pg O h) a6a'.1 a6a'.2
theorem gs_do{F μ:La}{H:Hp}{K:Fg}{mg:Mg}{ρ':Rho}{Q:L2.St→Hp→Prop}:∀{ts:List CT} {ds:List D} {vs:List V} {ρ:Rho} {σ:L2.St},asgVs ts ds ρ=some ρ'→RepL K ⟨mg,F⟩ μ H ds vs→EnvR K ⟨mg,F⟩ μ H ρ σ→(∀σ',EnvR K ⟨mg,F⟩ μ H ρ' σ'→Q σ' H)→gVs ts vs σ H Q
 | [],ds,vs,ρ,σ,h,r,en,q=>by
  cases ds with
  |nil=>cases h;unfold RepL at r;exact⟨r,q σ en⟩
  |cons _ _=>cases h
 |t::ts,ds,vs,ρ,σ,h,r,en,q=>by
  cases t with
  |tup _=>cases h
  |var i=>
   cases ds with
   |nil=>cases h
   |cons d ds=>obtain⟨v,w,rfl,r1,rl⟩:=r.uncons;exact⟨v,w,rfl,gs_do (ts:=ts) h rl (en.set r1) q⟩
theorem a6b'{ρ':Rho}:∀{ts:List CT} {ds:List D} {ρ:Rho},asgVs ts ds ρ=some ρ'→ts.length=ds.length∧ρ'.length=ρ.length
 | [],ds,ρ,h=>by
  cases ds with
  |nil=>cases h;exact⟨rfl,rfl⟩
  |cons _ _=>cases h
 |t::ts,ds,ρ,h=>by
  cases t with
  |tup _=>cases h
  |var i=>
   cases ds with
   |nil=>cases h
   |cons d ds=>have:=a6b' (ts:=ts) h;exact⟨congrArg Nat.succ this.1,by rw[this.2,List.length_set]⟩
theorem a8F'{ρ':Rho}{j:Nat}:∀{ts:List CT} {ds:List D} {ρ:Rho},asgVs ts ds ρ=some ρ'→(∀i∈a4F' ts,i≠j)→ρ'[j]?=ρ[j]?
 | [],ds,ρ,h,hj=>by
  cases ds with
  |nil=>cases h;rfl
  |cons _ _=>cases h
 |t::ts,ds,ρ,h,hj=>by
  cases t with
  |tup _=>cases h
  |var i=>
   cases ds with
   |nil=>cases h
   |cons d ds=>rw[a8F' (ts:=ts) h λk hk=>hj k (Zc _ hk),List.getElem?_set_ne (hj i Zb)]
theorem g_do{Q:L2.St→Hp→Prop}{t:CT}(h:asgCT t d ρ=some ρ')(r:Rep K ⟨mg,F⟩ μ H d v)(en:EnvR K ⟨mg,F⟩ μ H ρ σ)
  (q:∀σ',EnvR K ⟨mg,F⟩ μ H ρ' σ'→Q σ' H):gCT K t v σ H Q:=by
 cases t with
 |var i=>cases h;exact q _ (en.set r)
 |tup ts=>
  cases d with
  |tup ds=>obtain⟨a,vs,rfl,hq,rl⟩:=a0I' r;exact⟨a,vs,rfl,hq,by rw[←rl.length];exact(a6b' (ts:=ts) h).1.symm,gs_do (ts:=ts) h rl en q⟩
  |_=>cases h
end
theorem b3f'{l:List Nat}{i:Nat}(h:isNew ρ l=true)(hi:i∈l):ρ[i]?=some none:=by
 unfold isNew at h;have:=ZQ.mp h i hi;split at this
 ·assumption
 ·cases this
theorem asg_get{t:CT}(h:asgCT t d ρ=some ρ'):ρ'.length=ρ.length∧∀j,(∀i∈slots t,i≠j)→ρ'[j]?=ρ[j]? :=by
 cases t with
 |var i=>cases h;exact⟨List.length_set,λj hj=>List.getElem?_set_ne (hj i Zb)⟩
 |tup ts=>
  cases d with
  |tup ds=>exact⟨(a6b' (ts:=ts) h).2,λj hj=>a8F' (ts:=ts) h hj⟩
  |_=>cases h
theorem b5q'{mg:GS}{t:CT}(h:a0h' t d ρ=some ρ')(en:EnvR K mg μ H ρ' σ):EnvR K mg μ H ρ σ:=by
 unfold a0h' at h;by_cases hn:isNew ρ (slots t)=true
 ·rw[if_pos hn]at h;have g:=asg_get h;refine⟨by rw[←en.1,g.1],λj d' e=>en.2 j d' ?_⟩;rw[g.2 j λi hi z=>by subst z;rw[b3f' hn hi]at e;cases e];exact e
 ·rw[if_neg hn]at h;cases h
theorem b0S'{t:CT}(h:a0h' t d ρ=some ρ'):asgCT t d ρ=some ρ':=by
 unfold a0h' at h;split at h
 ·exact h
 ·cases h
structure CSt (K:Fg)(mg:Mg)(F:La)(acc:Addr)(B:La→Hp→Prop)(μ0:La)(H0:Hp)(μ:La)(S:Store)(H:Hp)(ρ:Rho)(σ:L2.St)(ds:List D)(vs:List V):Prop where
 n0:H0 acc=none
 ext:Ext μ0 H0 μ H
 sok:SOk K ⟨mg,acc::F⟩ μ S H
 nin:acc∉μ
 env:EnvR K ⟨mg,acc::F⟩ μ H ρ σ
 at_:H acc=some (.lst vs)
 rep:RepL K ⟨mg,acc::F⟩ μ H ds vs
 b:B μ H
def Keep(K:Fg)(F:La)(B:La→Hp→Prop):Prop:=∀μ H μ1 H1,B μ H→Chg K F μ H F μ1 H1→B μ1 H1
def WantB(K:Fg)(mg:Mg)(F:La)(acc:Addr)(B:La→Hp→Prop)(μ0:La)(H0:Hp)(ρ:Rho)(Q:L2.St→Hp→Prop):Res (List D)→Prop
 | .ok ds' S'=>∀μ' H' σ' vs',CSt K mg F acc B μ0 H0 μ' S' H' ρ σ' ds' vs'→Q σ' H'
 |_=>False
noncomputable def tB(K:Fg)(mg:Mg)(Φ:FT)(Γ:Str→Option D)(c:CE)(acc:Addr):TU:=λσ H Q=>∃F B μ0 H0 μ ρ S ds vs,Keep K (acc::F) B∧CSt K mg F acc B μ0 H0 μ S H ρ σ ds vs∧WantB K mg F acc B μ0 H0 ρ Q (denB Φ Γ c ρ ds S)
noncomputable def stepC(Φ:FT)(Γ:Str→Option D)(ifs:List CE)(body:CE)(ρ:Rho)(ds:List D)(S:Store):Res (List D):=(denTs Φ Γ ifs ρ S).bind λk S3=>if k=true then denB Φ Γ body ρ ds S3 else .ok ds S3
noncomputable def tC(K:Fg)(mg:Mg)(Φ:FT)(Γ:Str→Option D)(ifs:List CE)(c:CE)(acc:Addr):TU:=λσ H Q=>∃F B μ0 H0 μ ρ S ds vs,Keep K (acc::F) B∧CSt K mg F acc B μ0 H0 μ S H ρ σ ds vs∧WantB K mg F acc B μ0 H0 ρ Q (stepC Φ Γ ifs c ρ ds S)
section
variable {vs:List V}
theorem CSt.next(hB:Keep K (acc::F) B)(c:CSt K mg F acc B μ0 H0 μ S H ρ σ ds vs)(x:Ext μ H μ1 H1)(s:SOk K ⟨mg,acc::F⟩ μ1 S1 H1):CSt K mg F acc B μ0 H0 μ1 S1 H1 ρ σ ds vs where
 n0:=c.n0
 ext:=c.ext.trans x
 sok:=s
 nin:=λz=>by
  rcases x.fresh acc z with z|z
  ·exact c.nin z
  ·rw[c.at_]at z;cases z
 env:=c.env.mono x
 at_:=x.keep acc _ c.at_ (.inr c.nin)
 rep:=RepL.mono x _ _ c.rep
 b:=hB μ H μ1 H1 c.b (.of_ext x λ_ z=>.inl z)
theorem CSt.put(hB:Keep K (acc::F) B)(c:CSt K mg F acc B μ0 H0 μ S H ρ σ ds vs)(r:Rep K ⟨mg,acc::F⟩ μ H d v):CSt K mg F acc B μ0 H0 μ S (upd H acc (.lst (vs++[v]))) ρ σ (ds++[d]) (vs++[v]):=by
 have ch:Chg K (acc::F) μ H (acc::F) μ (upd H acc (.lst (vs++[v]))):=.more Zb c.at_
 exact{
  n0:=c.n0
  ext:=c.ext.more c.n0
  sok:=c.sok.more Zb c.nin c.at_
  nin:=c.nin
  env:=c.env.chg ch
  at_:=a0U'
  rep:=RepL.append (RepL.chg ch _ _ c.rep) (.cons (Rep.chg ch _ _ r) .nil)
  b:=hB _ _ _ _ c.b ch}
theorem b3g'{E:XK}:∀{cs:List CE} {σ:L2.St} {Q:Bool→Hp→Prop},SOk X.K ⟨X.mg,F⟩ μ S H→EnvR X.K ⟨X.mg,F⟩ μ H ρ σ→WantG X.K ⟨X.mg,F⟩ E (λ_ _ a b=>a=b) μ H Q (denTs Φ Γ cs ρ S)→b2R' (cs.map (tT X.K X.mg E Φ Γ)) σ H Q:=by
 intro cs
 induction cs generalizing μ H S with
 |nil=>exact λsk en w=>w μ H true .refl sk rfl
 |cons c cs ih=>
  intro σ Q sk en w;unfold denTs at w;refine⟨F,μ,ρ,S,sk,en,(WantG.bind w).mono λk H1 zz=>ex34 zz λμ1 S1 k' x1 s1 e1 w1=>?_⟩;subst e1;cases k' with
  |true=>rw[if_pos rfl]at w1⊢;exact ih s1 (en.mono x1) w1
  |false=>rw[if_neg (by decide)]at w1⊢;exact w1 μ1 H1 _ .refl s1 rfl
end
section
variable {E:XK}
theorem PB.weak{body:Sem Unit}{t t':TU}(h:PB X body t)(w:∀σ H Q,t' σ H Q→t σ H Q):PB X body t':=λpq s σ H Q I q=>h pq s σ H Q I (w σ H Q q)
theorem a9w'{vs:List V}{ifs:List CE}{c:CE}{Q:L2.St→Hp→Prop}
  (hB:Keep K (acc::F) B) (st:CSt K mg F acc B μ0 H0 μ S H ρ σ ds vs) (w:WantB K mg F acc B μ0 H0 ρ Q (stepC Φ Γ ifs c ρ ds S)):
  WantG K ⟨mg,acc::F⟩ E (λ_ _ a b=>a=b) μ H (λb H1=>if b=true then tB K mg Φ Γ c acc σ H1 Q else Q σ H1) (denTs Φ Γ ifs ρ S):=by
 unfold stepC at w;cases e:denTs Φ Γ ifs ρ S with
 |ok k S3=>
  rw[e]at w;intro μ1 H1 b x s eb;subst eb;have st1:=st.next hB x s;cases k with
  |true=>exact⟨F,B,μ0,H0,μ1,ρ,S3,ds,vs,hB,st1,w⟩
  |false=>exact w μ1 H1 σ vs st1
 |err y S3=>rw[e]at w;exact w.elim
 |fail=>rw[e]at w;exact w.elim
theorem b5r'{pos:Pos}{d:Nat}{fs:Lx}{ifs:List CE}{c:CE}(ht:PTs X fs (ifs.map (tT X.K X.mg E Φ Γ)))(hb:PB X (cRest elt gens scope pos d (.ref acc) X.env) (tB X.K X.mg Φ Γ c acc)):
  PB X (a6L' fs X.env>>=λok=>if ok=true then cRest elt gens scope pos d (.ref acc) X.env else pure ()) (tC X.K X.mg Φ Γ ifs c acc):=
 PB.weak (pb_when ht hb) λσ H Q zz=>ex93 zz λF B μ0 H0 μ ρ S ds vs hB st w=>b3g' st.sok st.env (a9w' hB st w)
theorem c_emit{pos:Pos}{d:Nat}{c:CE}(hg:gens[d+1]?=none)(he:PE X elt (tE X.K X.mg E Φ Γ c)):PB X (cRest elt gens scope pos d (.ref acc) X.env) (tB X.K X.mg Φ Γ (.emit c) acc):=
 PB.weak (pb_last hg he) λσ H Q zz=>ex93 zz λF B μ0 H0 μ ρ S ds vs hB st w=>by
  refine⟨acc::F,μ,ρ,S,st.sok,st.env,?_⟩;simp only[denB]at w;cases e:den Φ Γ c ρ S with
  |ok y S1=>
   rw[e]at w;intro μ1 H1 v x s r;have st1:=st.next hB x s;have w':WantB X.K X.mg F acc B μ0 H0 ρ Q (if ds.length<big then .ok (ds++[y]) S1 else .fail):=w;by_cases hl:ds.length<big
   ·rw[if_pos hl]at w';refine⟨vs,st1.at_,by rw[a9p',←st1.rep.length];exact hl,w' μ1 _ σ _ (st1.put hB r)⟩
   ·rw[if_neg hl]at w';exact w'.elim
  |err y S1=>rw[e]at w;exact w.elim
  |fail=>rw[e]at w;exact w.elim
end
noncomputable def b0T':Its→Nat
 | .items xs=>xs.length+1
 | .live f _=>f
theorem a5A'(step:D→List D→Store→Res (List D))(xs:List D):∀(n i:Nat) (acc:List D) (S:Store),i+n=xs.length→compB step (λ_ i=>some xs[i]?) (n+1) i acc S=compD step (xs.drop i) acc S
 |0,i,acc,S,h=>by rw[List.drop_eq_nil_of_le (by omega)];unfold compB;have:xs[i]?=none:=Yc.mpr (by omega);rw[this];rfl
 |n+1,i,acc,S,h=>by
  have hi:i<xs.length:=by omega
  rw[Z8 hi];unfold compB;rw[Ze hi];show(step xs[i] acc S).bind _=(step xs[i] acc S).bind _;congr 1;funext acc' S';exact a5A' step xs n (i+1) acc' S' (by omega)
theorem b0U'(step:D→List D→Store→Res (List D))(its:Its)(acc:List D)(S:Store):compI step its acc S=compB step (getOf its) (b0T' its) 0 acc S:=by
 cases its with
 |items xs=>exact(a5A' step xs xs.length 0 acc S (by omega)).symm
 |live f get=>rfl
noncomputable def stepN(Φ:FT)(Γ:Str→Option D)(tg:CT)(ifs:List CE)(body:CE)(ρ:Rho):D→List D→Store→Res (List D):=λx acc S2=>match a0h' tg x ρ with
 |some ρ'=>stepC Φ Γ ifs body ρ' acc S2
 |none=>.fail
theorem CSt.back{B':La→Hp→Prop}{vs:List V}(c:CSt K mg F acc B μ0 H0 μ S H ρ σ ds vs)(b:B' μ H)(e:EnvR K ⟨mg,acc::F⟩ μ H ρ' σ'):CSt K mg F acc B' μ0 H0 μ S H ρ' σ' ds vs:=
 ⟨c.n0,c.ext,c.sok,c.nin,e,c.at_,c.rep,b⟩
theorem b0V'{tg:CT}{ifs:List CE}{body:CE}{x:D}(h:a0h' tg x ρ=some ρ'):stepN Φ Γ tg ifs body ρ x ds S=stepC Φ Γ ifs body ρ' ds S:=by unfold stepN;rw[h]
theorem b0W'{tg:CT}{ifs:List CE}{body:CE}{x:D}(h:a0h' tg x ρ=none):stepN Φ Γ tg ifs body ρ x ds S=.fail:=by unfold stepN;rw[h]
theorem b3X'{Fi:La}{μi:La}{Hi:Hp}{get:Store→Nat→Option (Option D)}{tg:CT}{ifs:List CE}{body:CE}{Q:L2.St→Hp→Prop}(hB:Keep K (acc::F) B)(ok:ItOk K ⟨mg,Fi⟩ J get μi Hi)
        {vs:List V} (ch:Chg K Fi μi Hi (acc::F) μ H) (st:CSt K mg F acc B μ0 H0 μ S H ρ σ ds vs) (w:WantB K mg F acc B μ0 H0 ρ Q (compB (stepN Φ Γ tg ifs body ρ) get n 0 ds S)):
  ∃W:Nat→Nat→L2.St→Hp→Prop,(∃m,W 0 m σ H)∧∀i m σ H,W i m σ H→
   (J.stop i H∧Q σ H)∨(J.go i H∧∃Nx:L2.St→Hp→Prop,(∀σ' H',Nx σ' H'→∃m',m'<m∧W (i+1) m' σ' H')∧∀x H',J.yld i H x H'→gCT K tg x σ H' λσ2 H2=>tC K mg Φ Γ ifs body acc σ2 H2 Nx):=by
 refine⟨λi m σ H=>∃μ S ds vs,Chg K Fi μi Hi (acc::F) μ H∧CSt K mg F acc B μ0 H0 μ S H ρ σ ds vs∧WantB K mg F acc B μ0 H0 ρ Q (compB (stepN Φ Γ tg ifs body ρ) get m i ds S),⟨n,μ,S,ds,vs,ch,st,w⟩,?_⟩;rintro i m σ H ⟨μ,S,ds,vs,ch,st,w⟩;cases m with
 |zero=>exact w.elim
 |succ m=>
  unfold compB at w;obtain⟨k1,k2⟩:=ok i μ S H (acc::F) ch st.sok;cases e:get S i with
  |none=>rw[e]at w;exact w.elim
  |some o=>
   cases o with
   |none=>rw[e]at w;exact .inl ⟨k2 e,w μ H σ vs st⟩
   |some x=>
    rw[e]at w;obtain⟨go,yld⟩:=k1 x e;refine .inr ⟨go,λσ' H'=>∃μ S ds vs,Chg K Fi μi Hi (acc::F) μ H'∧CSt K mg F acc B μ0 H0 μ S H' ρ σ' ds vs∧WantB K mg F acc B μ0 H0 ρ Q (compB (stepN Φ Γ tg ifs body ρ) get m (i+1) ds S),λσ' H' q=>⟨m,Nat.lt_succ_self m,q⟩,λy H' hy=>?_⟩;obtain⟨x1,s1,r1⟩:=yld y H' hy;have st1:=st.next hB x1 s1;have ch1:Chg K Fi μi Hi (acc::F) μ H':=ch.trans (.of_ext x1 λ_ z=>.inl z);have w':WantB K mg F acc B μ0 H0 ρ Q ((stepN Φ Γ tg ifs body ρ x ds S).bind λacc' S'=>compB (stepN Φ Γ tg ifs body ρ) get m (i+1) acc' S'):=w;cases ea:a0h' tg x ρ with
    |none=>rw[b0W' ea]at w';exact w'.elim
    |some ρ'=>
     rw[b0V' ea]at w';refine g_do (b0S' ea) r1 st1.env λσ2 en2=>?_;refine⟨F,λμ H=>B μ H∧Chg K Fi μi Hi (acc::F) μ H,μ0,H0,μ,ρ',S,ds,vs,λμa Ha μb Hb q c=>⟨hB _ _ _ _ q.1 c,q.2.trans c⟩,st1.back (B':=λμ H=>B μ H∧Chg K Fi μi Hi (acc::F) μ H) ⟨st1.b,ch1⟩ en2,?_⟩;cases es:stepC Φ Γ ifs body ρ' ds S with
     |ok ds' S'=>rw[es]at w';intro μ' H2 σ' vs' st';exact⟨μ',S',ds',vs',st'.b.2,st'.back st'.b.1 (b5q' ea st'.env),w'⟩
     |err z S'=>rw[es]at w';exact w'.elim
     |fail=>rw[es]at w';exact w'.elim
section
variable {E:XK}
theorem c_inner{pos:Pos}{d:Nat}{t i:Expr}{fs:Lx}{tg:CT}{it:CE}{ifs:List CE}{body:CE}(hx:X.xe=λ_ _=>False)(hc:X.calm=true)(hg:gens[d+1]?=some ⟨t,i,fs,0⟩)
  (hi:PI X t i (tI X.K X.mg E Φ Γ it)) (hs:∀x,foldedSetIterable i X.env x=pure x) (hgt:PG X t (gCT X.K tg))
  (hb:PB X (a6L' fs X.env>>=λok=>if ok=true then cRest elt gens scope pos (d+1) (.ref acc) X.env else pure ()) (tC X.K X.mg Φ Γ ifs body acc)):PB X (cRest elt gens scope pos d (.ref acc) X.env) (tB X.K X.mg Φ Γ (.inner tg it ifs body) acc):=
 PB.weak (b5p' hx hc hg hi hs hgt hb) λσ H Q zz=>ex93 zz λF B μ0 H0 μ ρ S ds vs hB st w=>by
  refine⟨acc::F,μ,ρ,S,st.sok,st.env,?_⟩;simp only[denB]at w;cases e:denI Φ Γ it ρ S with
  |ok its S1=>rw[e]at w;intro μ1 H1 J x s ok;have st1:=st.next hB x s;have w':WantB X.K X.mg F acc B μ0 H0 ρ Q (compI (stepN Φ Γ tg ifs body ρ) its ds S1):=w;rw[b0U']at w';exact b3X' hB ok .refl st1 w'
  |err y S1=>rw[e]at w;exact w.elim
  |fail=>rw[e]at w;exact w.elim
noncomputable def csOf(fr:List (Option Nat)):L2.St→L2.St:=λσ=>fr.map λj=>j.bind λj=>(σ[j]?).join
theorem env_cs{mg:GS}(en:EnvR K mg μ H ρ σ):EnvR K mg μ H (fr.map λj=>j.bind λj=>(ρ[j]?).join) (csOf fr σ):=by
 refine⟨by simp[csOf],λi d e=>?_⟩;rw[ZW]at e;cases e1:fr[i]? with
 |none=>rw[e1]at e;cases e
 |some o=>
  rw[e1]at e;have e:=Z6 e;cases o with
  |none=>cases e
  |some j=>
   have e2:(ρ[j]?).join=some d:=e;cases e3:ρ[j]? with
   |none=>rw[e3]at e2;cases e2
   |some o=>rw[e3]at e2;have e4:o=some d:=e2;subst e4;obtain⟨v,k1,k2⟩:=en.2 j d e3;exact⟨v,by unfold csOf;rw[ZW,e1];show some ((σ[j]?).join)=_;rw[k1];rfl,k2⟩
theorem c_comp{tg0:Expr}{box:Bool}{tg:CT}{it:CE}{ifs:List CE}{body:CE}{Q:VK}(h:tE X.K X.mg E Φ Γ (.comp box N' fr tg it ifs body) σ H Q):
  tComp (csOf fr) (tI X.K X.mg E Φ Γ it) (gCT X.K tg) (tC X.K X.mg Φ Γ ifs body) σ H Q:=by
 obtain⟨F,μ,ρ,S,sk,en,w⟩:=h;refine⟨F,μ,ρ,S,sk,en,?_⟩;simp only[den]at w;refine WantG.mono (Rel:=λμ' H' its J=>ItOk X.K ⟨X.mg,F⟩ J (getOf its) μ' H') (WantG.bind w) λJ H1 h acc hacc=>?_;obtain⟨μ1,S1,its,x1,s1,ok,w1⟩:=h
 have st:CSt X.K X.mg F acc (λμ H=>Chg X.K F μ1 H1 (acc::F) μ H) μ1 H1 μ1 S1 (upd H1 acc (.lst [])) (fr.map λj=>j.bind λj=>(ρ[j]?).join) (csOf fr σ) [] []:={
  n0:=hacc
  ext:=.laid hacc
  sok:=s1.start hacc
  nin:=s1.notin hacc
  env:=(env_cs (en.mono x1)).chg (.start hacc)
  at_:=a0U'
  rep:=.nil
  b:=.start hacc}
 refine b3X' (Q:=λ_ H=>Q (.ref acc) H) (B:=λμ H=>Chg X.K F μ1 H1 (acc::F) μ H) (n:=b0T' its) (λμa Ha μb Hb q c=>q.trans c) ok (.start hacc) st ?_;have w2:WantG X.K ⟨X.mg,F⟩ E (Rep X.K ⟨X.mg,F⟩) μ1 H1 Q ((compI (stepN Φ Γ tg ifs body (fr.map λj=>j.bind λj=>(ρ[j]?).join)) its [] S1).noErr.bind λys S5=>if box=true then .ok (.ref S5.length) (S5++[ys])else .ok (.lst ys) S5):=w1;rw[b0U']at w2;cases e:compB (stepN Φ Γ tg ifs body (fr.map λj=>j.bind λj=>(ρ[j]?).join)) (getOf its) (b0T' its) 0 [] S1 with
 |ok ys S5=>
  rw[e]at w2;intro μ' H' σ' vs' st';have hF:acc∉F:=s1.notF hacc;cases box with
  |false=>refine w2 μ' H' (.ref acc) st'.ext st'.sok.out ?_;unfold Rep;exact⟨acc,vs',rfl,st'.at_,⟨st'.nin,hF⟩,RepL.chg .out _ _ st'.rep⟩
  |true=>refine w2 (μ'++[acc]) H' (.ref acc) (st'.ext.outBox hacc) (st'.sok.outBox st'.nin st'.at_ st'.rep) ?_;unfold Rep;refine⟨acc,rfl,?_⟩;have hl:=st'.sok.len;rw[Zv (by omega)];simp[hl]
 |err y S5=>rw[e]at w2;exact w2.elim
 |fail=>rw[e]at w2;exact w2.elim
end
noncomputable def setO(led:Bool):Obj:={cls:=.type "set",dict:=none,data:=.set #[] 0 (.fresh 0 0 led)}
theorem b5s':bootBuiltins "set"=some (.type "set"):=by decide+kernel
theorem b3Y':∀{xs:List D},xs.all (hasTy .int)=true→xs=(xs.filterMap asInt).map D.int
 | [],_=>rfl
 |x::xs,h=>by
  simp only[List.all_cons,ZA]at h;cases x with
  |int i=>simp only[List.filterMap_cons,asInt,ZE];rw[←b3Y' h.2]
  |_=>simp[hasTy]at h
theorem b0X'{K:Fg}{mg:GS}{μ:La}{H:Hp}:∀{ns:Li} {vs:List V},RepL K mg μ H (ns.map D.int) vs→vs=ns.map V.int
 | [],vs,r=>by unfold RepL at r;subst r;rfl
 |n::ns,vs,r=>by obtain⟨v,ws,rfl,r1,r2⟩:=r.uncons;cases a0b' r1;rw[b0X' r2];rfl
section
variable {R:Result→Shared→Prop}{P:Nat→Value→Prop}{St:Nat→Heap→Prop}
end
def Ris(xs:Array Nat):Prop:=∀i j (hi:i<xs.size) (hj:j<xs.size),i<j→xs[i]<xs[j]
theorem b5t'{xs:Array Nat}(h:Ris xs)(j:Nat):∀(f lo hi:Nat),hi-lo≤f→lo≤hi→hi≤xs.size→(∀i (hx:i<xs.size),i<lo→xs[i]<j)→(∀i (hx:i<xs.size),hi≤i→j≤xs[i])→
  lo≤SetTable.below.go xs j f lo hi∧SetTable.below.go xs j f lo hi≤hi∧(∀i (hx:i<xs.size),i<SetTable.below.go xs j f lo hi→xs[i]<j)∧(∀i (hx:i<xs.size),SetTable.below.go xs j f lo hi≤i→j≤xs[i]):=by
 intro f
 induction f with
 |zero=>
  intro lo hi hf hl hs h1 h2;have:lo=hi:=by omega
  subst this;exact⟨Zi _,Zi _,h1,h2⟩
 |succ f ih=>
  intro lo hi hf hl hs h1 h2;unfold SetTable.below.go;split
  ·rename_i hlt;have hm:(lo+hi)/2<xs.size:=by omega
   have hg:xs.getD ((lo+hi)/2) j=xs[(lo+hi)/2]:=by simp[Array.getD,hm]
   dsimp only;rw[hg];split
   ·rename_i hx
    obtain⟨a,b,c,d⟩:=ih ((lo+hi)/2+1) hi (by omega) (by omega) hs (λi hi' hlt'=>by
     by_cases e:i=(lo+hi)/2
     ·subst e;exact hx
     ·exact Nat.lt_trans (h i _ hi' hm (by omega)) hx) h2
    exact⟨by omega,b,c,d⟩
   ·rename_i hx
    obtain⟨a,b,c,d⟩:=ih lo ((lo+hi)/2) (by omega) (by omega) (by omega) h1 (λi hi' hle=>by
     by_cases e:i=(lo+hi)/2
     ·subst e;omega
     ·exact ZP (by omega) (Nat.le_of_lt (h _ i hm hi' (by omega))))
    exact⟨a,by omega,c,d⟩
  ·have:lo=hi:=by omega
   subst this;exact⟨Zi _,Zi _,h1,h2⟩
theorem a6M'{xs:Array Nat}(h:Ris xs)(j:Nat):SetTable.below xs j≤xs.size∧(∀i (hx:i<xs.size),i<SetTable.below xs j→xs[i]<j)∧(∀i (hx:i<xs.size),SetTable.below xs j≤i→j≤xs[i]):=by obtain⟨_,b,c,d⟩:=b5t' h j xs.size 0 xs.size (by omega) (by omega) (Zi _) (λi _ h=>by omega) (λi hx h=>by omega);exact⟨b,c,d⟩
theorem b0Y'{xs:Array Nat}(h:Ris xs){i:Nat}(hi:i<xs.size):SetTable.below xs (xs[i]+1)=i+1:=by
 obtain⟨a,b,c⟩:=a6M' h (xs[i]+1)
 have h1:i<SetTable.below xs (xs[i]+1):=by
  by_cases e:i<SetTable.below xs (xs[i]+1)
  ·exact e
  ·have:=c i hi (by omega);omega
 by_cases e:i+1<SetTable.below xs (xs[i]+1)
 ·have hs:i+1<xs.size:=by omega
  have:=b (i+1) hs e;have:=h i (i+1) hi hs (by omega);omega
 ·omega
theorem b0Z'(xs:Array Nat)(h:Ris xs):SetTable.below xs 0=0:=by
 obtain⟨a,b,c⟩:=a6M' h 0;by_cases e:0<SetTable.below xs 0
 ·have:=b 0 (by omega) e;omega
 ·omega
theorem b5u'{l:List Nat}(h:l.Pairwise (· < ·)):Ris l.toArray:=λi j hi hj hij=>by have:=List.pairwise_iff_getElem.mp h i j (by simpa using hi) (by simpa using hj) hij;simpa using this
def byT(w:World):Bool:=w.params.followText "set-order"
theorem b1a'(v:Value){R:Vs}(fin:R (.ref s.heap.objs.size) {s with heap:=s.heap.push (setO (!byT w))}):codeAny (model prog w) A (.call (.builtin "set.__new__") ⟨[.type "set",v],[]⟩) (wants R E) s:=by
 refine codeAny_of_tree (Za (m:=checkBuiltinCall "set.__new__" ⟨[.type "set",v],[]⟩) (wpAny_of_eq (F.newCall_set_1 v) (Zf ⟨plainId_quiet F.plain_set_new _,codeAny_builtin F.entry_set_new ?_⟩)));rw[Around.under_plainId F.plain_set_new _];have self:=sub_set_self;unfold Builtin.«set.__new__» Builtin.Frozenset.newClass;cases s;dsimp only
 wp_walk
 exact wpAny_askSetting (Zf (Za (wpAny_alloc (Zf (Zf fin)))))
noncomputable def keyI(e:Int×Value):Int:=match e.2 with
 | .int k _=>k
 |_=>0
section
theorem el_int{l:List (Int×Value)}(h:ElemsOf (intKind prog w) l):∀e∈l,∃t,e.2=.int (keyI e) t:=λe he=>by obtain⟨⟨k,hk,_⟩,_⟩:=h e he;obtain⟨t,ht⟩:=Value.isInt_shape hk;refine⟨t,?_⟩;unfold keyI;rw[ht]
theorem el_has{l:List (Int×Value)}(h:ElemsOf (intKind prog w) l)(k:Int):(∃e∈l,(intKind prog w).is k e.2=true)↔k∈l.map keyI:=by
 rw[Zy];constructor
 ·rintro⟨e,he,hk⟩;obtain⟨t,ht⟩:=Value.isInt_shape hk;exact⟨e,he,by unfold keyI;rw[ht]⟩
 ·rintro⟨e,he,rfl⟩;obtain⟨t,ht⟩:=el_int h e he;exact⟨e,he,by rw[ht];exact intKind_is _ _ _ _⟩
variable {R:Result→Shared→Prop}{P:Nat→Value→Prop}{St:Nat→Heap→Prop}
end
noncomputable def cT(led:Bool)(ks:List Nat):SetTable:={mask:=if ks.length≤4 then 7 else 31,place:=ks.toArray,dummies:= #[],finger:=0,led:=led,moves:=if ks.length≤4 then 0 else 1,plain:=true}
noncomputable def pows:List Nat→List (List Nat)
 | []=>[[]]
 |a::l=>pows l++(pows l).map (a:: ·)
noncomputable def insK(v:Nat)(ks:List Nat):List Nat:=ks.takeWhile (· <v)++v::ks.dropWhile (· <v)
noncomputable def tP(led:Bool)(v:Nat)(ks:List Nat):SetTable:=((cT led ks).put v).1
theorem b1b':∀led:Bool,∀ks∈pows [0,1,2,3,4,5,6,7],∀v∈[0,1,2,3,4,5,6,7],v∉ks→
  (cT led ks).freeSlot (v:Int)=some (v,false)∧((cT led ks).put v).2=(ks.takeWhile (· <v)).length∧(tP led v ks).fits (ks.length+1)=true∧(tP led v ks).plain=true∧
  ((tP led v ks).tooFull=false→tP led v ks=cT led (insK v ks))∧
  ((tP led v ks).tooFull=true→(tP led v ks).relaid ((insK v ks).map λk:Nat=>(k:Int)).toArray (SetTable.grown (ks.length+1))=some (cT led (insK v ks),Array.range (ks.length+1))∧(cT led (insK v ks)).fits (ks.length+1)=true∧coversAll (Array.range (ks.length+1)) (ks.length+1)=true):=by
 decide+kernel
abbrev p8:List (List Nat):=pows [0,1,2,3,4,5,6,7]
theorem a1P':∀ks∈p8,ks.Pairwise (· < ·)∧(∀k∈ks,k<8)∧ks.length≤8∧(∀led:Bool,(cT led ks).fits ks.length=true)∧∀v∈[0,1,2,3,4,5,6,7],v∉ks→insK v ks∈p8:=by decide+kernel
theorem hash8:∀v∈[0,1,2,3,4,5,6,7],hashInt (v:Nat)=((v:Nat):Int):=by decide+kernel
theorem low8{v:Nat}(h:v<8):v∈[0,1,2,3,4,5,6,7]:=by
 have:v=0∨v=1∨v=2∨v=3∨v=4∨v=5∨v=6∨v=7:=by omega
 rcases this with rfl|rfl|rfl|rfl|rfl|rfl|rfl|rfl<;>decide
theorem take_w(v:Nat)(ks:List Nat):ks.take (ks.takeWhile (· <v)).length=ks.takeWhile (· <v)∧ks.drop (ks.takeWhile (· <v)).length=ks.dropWhile (· <v):=by have h:ks.takeWhile (· <v)++ks.dropWhile (· <v)=ks:=List.takeWhile_append_dropWhile;generalize ks.takeWhile (· <v)=x at h⊢;generalize ks.dropWhile (· <v)=y at h⊢;subst h;simp
def entK(k:Nat):Int×Int:=((k:Int),(k:Int))
def entOf(e:Int×Value):Int×Int:=(e.1,keyI e)
theorem ins_ent{v:Nat}{tok:Tok}(h:es.toList.map entOf=ks.map entK):(SetTable.insertAt es (ks.takeWhile (· <v)).length ((v:Int),.int v tok)).toList.map entOf=(insK v ks).map entK:=by rw[SetTable.toList_insertAt,List.map_append,ZE,List.map_take,List.map_drop,h,←List.map_take,←List.map_drop,(take_w v ks).1,(take_w v ks).2];unfold insK;rw[List.map_append,ZE];rfl
theorem b3h'(es:Array α):(Array.range es.size).filterMap (es[·]?)=es:=by apply Array.ext';rw[Array.toList_filterMap,Array.toList_range];exact filterMap_getElem?_range es
theorem lay_c{v:Nat}{x:Value}(hk:ks∈p8)(hv:v<8)(hn:v∉ks)(hs:es.size=ks.length):layNew (cT led ks) es (v:Int) x=(SetTable.insertAt es (ks.takeWhile (· <v)).length ((v:Int),x),tP led v ks,false,false):=by
 obtain⟨h1,h2,h3,_⟩:=b1b' led ks hk v (low8 hv) hn;unfold layNew;rw[h1];dsimp only;have hz:(SetTable.insertAt es ((cT led ks).put v).2 ((v:Int),x)).size=ks.length+1:=by rw[←Zt,(SetTable.insertAt_perm es _ _).length_eq,Zt,Array.size_push,hs]
 rw[hz,←h2];unfold SetTable.orStandIn;rw[if_pos (show((cT led ks).put v).1.fits (ks.length+1)=true from h3),show((cT led ks).put v).1.fits (ks.length+1)=true from h3];rfl
theorem relay_c{es1:Array (Int×Value)}{v:Nat}(hk:ks∈p8)(hv:v<8)(hn:v∉ks)(h:es1.toList.map entOf=(insK v ks).map entK)(full:(tP led v ks).tooFull=true):relayAll (tP led v ks) es1 (SetTable.grown es1.size)=(es1,cT led (insK v ks),false):=by
 obtain⟨_,_,_,_,_,h6⟩:=b1b' led ks hk v (low8 hv) hn;obtain⟨h7,h8,h9⟩:=h6 full
 have hs:es1.size=ks.length+1:=by
  have:=congrArg List.length h;rw[Zm,Zm,Zt]at this;have h2:(insK v ks).length=ks.length+1:=by unfold insK;rw[Zp,Zw,←Nat.add_assoc,←Zp,List.takeWhile_append_dropWhile]
  omega
 have hh:es1.map (·.1)=((insK v ks).map λk:Nat=>(k:Int)).toArray:=by apply Array.ext';rw[Array.toList_map];have:=congrArg (List.map (·.1)) h;rw[Z3,Z3]at this;exact this
 unfold relayAll;rw[hh,hs,h7];dsimp only;rw[←hs,b3h',hs,h8,h9];rfl
structure SetC (prog:Program)(w:World)(h:Heap)(a:Addr)(ks:List Nat)(es:Array (Int×Value)):Prop where
 obj:∃o ep,h.get? a=some o∧o.ExactSet∧o.data=.set es ep (cT (!byT w) ks)
 ent:es.toList.map entOf=ks.map entK
 els:ElemsOf (intKind prog w) es.toList
 pow:ks∈p8
theorem SetC.size(x:SetC prog w h a ks es):es.size=ks.length:=by have:=congrArg List.length x.ent;rw[Zm,Zm,Zt]at this;exact this
theorem SetC.kept(x:SetC prog w h a ks es)(k:∀o,h.get? a=some o→h'.get? a=some o):SetC prog w h' a ks es:=by obtain⟨⟨o,ep,q,r⟩,z1,z2,z3⟩:=x;exact⟨⟨o,ep,k o q,r⟩,z1,z2,z3⟩
theorem SetC.born(h:Heap):SetC prog w (h.push (setO (!byT w))) h.objs.size [] #[]:=⟨⟨_,0,Zo _ rfl,⟨rfl,rfl,rfl⟩,rfl⟩,rfl,λe he=>by simp at he,by decide+kernel⟩
theorem b1c'{o:Obj}{es':Array (Int×Value)}{t t':SetTable}(g:h.get? a=some o)(ex:o.ExactSet)(d:o.data=.set es ep t):
  ∃o',(h.update a (Obj.putSet es' t')).get? a=some o'∧o'.ExactSet∧o'.data=.set es' (ep+1) t':=by
 have e:(h.update a (Obj.putSet es' t')).get? a=some (Obj.putSet es' t' o):=Heap.get?_update_self _ g (by rw[putSet_of es' t' d];rfl);rw[putSet_of es' t' d]at e;exact⟨_,e,ex,rfl⟩
theorem add_c{v:Nat}{tok:Tok}{Q:Bool→Shared→Prop}(x:SetC prog w s.heap a ks es)(hv:v<8)
  (fin:∀h' ks' es' b,Heap.SameBut a s.heap h'→SetC prog w h' a ks' es'→(∀k,k∈ks'↔k∈ks∨k=v)→Q b {s with heap:=h'}):
  wpAny (model prog w) A (setAddHashed a (.int v tok) ((intKind prog w).hash v)) Q E s:=by
 obtain⟨⟨o,ep,g,ex,d⟩,ent,el,pw⟩:=id x;have hs:=x.size;obtain⟨_,low,len,fitA,more⟩:=a1P' ks pw;have fit:(cT (!byT w) ks).fits es.size=true:=by rw[hs];exact fitA _
 have few:es.size<scanBound:=by rw[hs];unfold scanBound;omega
 have hk:(intKind prog w).is (v:Int) (.int v tok)=true:=intKind_is _ _ _ _
 have gave:∀(b:Bool) (z:Shared) (Q':Unit→Shared→Prop),Q' () z→wpAny (model prog w) A (match b with|true=>rule "set.scan.the-table-gave-way"|false=>pure ()) Q' E z:=λb z Q' q=>by
  cases b
  ·exact Zf q
  ·exact wpAny_rule q
 have hmem:(∃e∈es.toList,(intKind prog w).is (v:Int) e.2=true)↔v∈ks:=by
  rw[el_has el];have:=congrArg (List.map (·.2)) ent;rw[Z3,Z3]at this;rw[show es.toList.map keyI=ks.map λk:Nat=>(k:Int)from this,Zy];constructor
  ·rintro⟨k,hk,e⟩;have:k=v:=by omega
   exact this▸hk
  ·exact λh=>⟨v,h,rfl⟩
 have hhash:(intKind prog w).hash (v:Int)=(v:Int):=hash8 v (low8 hv);unfold setAddHashed setAddHashedIn;refine wpAny_holding (Za (wpAny_setState_of g d fit ?_));dsimp only;rw[byScan_of (knd:=intKind prog w) rfl few el,if_pos rfl];unfold setAddByScan;refine Za (Za (wpAny_rule (Za (wpAny_setScan_of hk g d fit el ?_))));cases hr:List.findIdx? (λe=>(intKind prog w).is (v:Int) e.2) es.toList with
 |some j=>obtain⟨hj,hp,_⟩:=List.findIdx?_eq_some_iff_getElem.mp hr;have hin:=hmem.mp ⟨_,ZY hj,hp⟩;exact Zf (Zf (fin s.heap ks es false (Heap.SameBut.refl a s.heap) x λk=>⟨.inl,λz=>z.elim id λe=>e▸hin⟩))
 |none=>
  have no:v∉ks:=λz=>by obtain⟨e,he,q⟩:=hmem.mpr z;have:=List.findIdx?_eq_none_iff.mp hr e he;rw[q]at this;cases this
  obtain⟨_,_,ft,pl,nf,fu⟩:=b1b' (!byT w) ks pw v (low8 hv) no;have hby:hashByValue 8 (.int v tok)=pure true:=hashByValue_scannable 8 rfl
  have hins:∀k,k∈insK v ks↔k∈ks∨k=v:=λk=>by
   unfold insK;rw[Zs,Zj];have:ks.takeWhile (· <v)++ks.dropWhile (· <v)=ks:=List.takeWhile_append_dropWhile;rw[←congrArg (k∈ ·) this];rw[Zs];constructor
   ·rintro(h|h|h)
    ·exact .inl (.inl h)
    ·exact .inr h
    ·exact .inl (.inr h)
   ·rintro((h|h)|h)
    ·exact .inl h
    ·exact .inr (.inr h)
    ·exact .inr (.inl h)
  have ent1:=ins_ent (v:=v) (tok:=tok) ent;have el1:ElemsOf (intKind prog w) (SetTable.insertAt es (ks.takeWhile (· <v)).length ((v:Int),.int v tok)).toList:=by have p:=SetTable.insertAt_perm es (ks.takeWhile (· <v)).length ((v:Int),Value.int v tok);rw[Array.toList_push]at p;have q:=el.push hk (x:=.int v tok) rfl;rw[hhash]at q;exact q.perm p
  have pw1:=more v (low8 hv) no;dsimp only;rw[hhash,lay_c pw hv no hs];generalize SetTable.insertAt es (ks.takeWhile (· <v)).length ((v:Int),Value.int v tok)=es1 at ent1 el1⊢
  have few1:es1.size<scanBound:=by
   have:=congrArg List.length ent1;rw[Zm,Zm,Zt]at this;have h2:(insK v ks).length=ks.length+1:=by unfold insK;rw[Zp,Zw,←Nat.add_assoc,←Zp,List.takeWhile_append_dropWhile]
   unfold scanBound;omega
  dsimp only;refine Za (gave false s _ ?_);rw[if_pos pl];refine Za ?_;rw[hby];refine Zf ?_;simp only[if_true];refine Za (wpAny_storeSet_of g d ?_ (fits_of_scanBound few1));obtain⟨o1,g1,ex1,d1⟩:=b1c' (es':=es1) (t':=tP (!byT w) v ks) g ex d;have sb1:=Yo s.heap a (Obj.putSet es1 (tP (!byT w) v ks));cases hf:(tP (!byT w) v ks).tooFull with
  |true=>simp only[Bool.not_false,Bool.and_self,if_true];rw[relay_c pw hv no ent1 hf];refine Za (gave false _ _ (Za (wpAny_storeSet_of g1 d1 (Zf (Zf ?_)) (fits_of_scanBound few1))));obtain⟨o2,g2,ex2,d2⟩:=b1c' (es':=es1) (t':=cT (!byT w) (insK v ks)) g1 ex1 d1;exact fin _ _ es1 true (sb1.trans (Yo _ a _)) ⟨⟨o2,_,g2,ex2,d2⟩,ent1,el1,pw1⟩ hins
  |false=>simp only[Bool.not_false,Bool.and_false,ZT,if_false];rw[nf hf]at d1;exact Zf (Zf (fin _ _ es1 true sb1 ⟨⟨o1,_,g1,ex1,d1⟩,ent1,el1,pw1⟩ hins))
theorem a8G'{α:Type}(f:Nat→Nat):∀(n k:Nat) (left:List α) (out:Array α),left.length=n→(pickOrder.go f n k left out).toList.Perm (out.toList++left)
 |0,k,left,out,h=>by have:left=[]:=ZL h;subst this;unfold pickOrder.go;simp
 |n+1,k,left,out,h=>by
  have hl:f k%left.length<left.length:=Nat.mod_lt _ (by omega);unfold pickOrder.go;rw[Ze hl];dsimp only;refine(a8G' f n (k+1) _ _ (by rw[List.length_eraseIdx_of_lt hl];omega)).trans ?_;rw[Array.toList_push,Zu];refine List.Perm.append_left _ ?_;have:left=left.take (f k%left.length)++left[f k%left.length]::left.drop (f k%left.length+1):=by rw[←Z8 hl,List.take_append_drop]
  rw[List.eraseIdx_eq_take_drop_succ];refine List.Perm.trans ?_ (List.Perm.of_eq this.symm);rw[List.singleton_append];exact(List.perm_middle).symm
theorem b5v'(f:Nat→Nat)(xs:Array α):(pickOrder f xs).toList.Perm xs.toList:=by have:=a8G' f xs.size 0 xs.toList #[] (by simp);simpa[pickOrder]using this
noncomputable def walkE(w:World)(a:Addr)(ep:Nat)(es:Array (Int×Value)):List (Int×Value):=if byT w=true then(pickOrder (w.params.setOrder a ep) es).toList else es.toList
noncomputable def slotE(w:World)(ks:List Nat):Nat→Nat
 |0=>0
 |i+1=>if byT w=true then 0 else ks.getD i 0+1
theorem a3o'(w:World)(a:Addr)(ep:Nat)(es:Array (Int×Value)):(walkE w a ep es).Perm es.toList:=by
 unfold walkE;split
 ·exact b5v' _ _
 ·exact .refl _
theorem next_c{o:Obj}{i:Nat}{Q:Option (Value×Nat)→Shared→Prop}(x:SetC prog w s.heap a ks es)(g:s.heap.get? a=some o)(d:o.data=.set es ep (cT (!byT w) ks))(hi:i≤es.size)
  (fin:Q (((walkE w a ep es)[i]?).map λe=>(e.2,slotE w ks (i+1))) s):wpAny (model prog w) A (setNext a (slotE w ks i) i ep) Q E s:=by
 obtain⟨ris,low,len,fitA,_⟩:=a1P' ks x.pow;have hs:=x.size;have fit:(cT (!byT w) ks).fits es.size=true:=by rw[hs];exact fitA _
 unfold setNext;refine Za (wpAny_setState_of g d fit ?_);dsimp only;refine Za (m:=setsByText) (Za (wpAny_askSetting (Zf ?_)));cases hb:byT w with
 |true=>
  have hb':w.params.followText "set-order"=true:=hb;show wpAny _ _ (if(w.params.followText "set-order")=true then _ else _) _ _ _;rw[if_pos hb'];simp only[bne_self_eq_false,ZT,if_false];refine Za ?_;unfold setWalk;refine Za (wpAny_setState_of g d fit ?_);dsimp only;refine Za (m:=setsByText) (Za (wpAny_askSetting (Zf ?_)));show wpAny _ _ (if(w.params.followText "set-order")=true then _ else _) _ _ _;rw[if_pos hb'];refine Za (wpAny_askSetting (Zf (Zf ?_)));have e1:walkE w a ep es=(pickOrder (w.params.setOrder a ep) es).toList:=by unfold walkE;rw[if_pos hb]
  have e2:slotE w ks (i+1)=slotE w ks i:=by
   cases i with
   |zero=>simp[slotE,hb]
   |succ i=>simp[slotE,hb]
  rw[e1,e2,ZS]at fin;exact fin
 |false=>
  have hb':w.params.followText "set-order"=false:=hb;show wpAny _ _ (if(w.params.followText "set-order")=true then _ else _) _ _ _;rw[if_neg (by rw[hb'];simp)];split
  ·rename_i z;exact Bool.noConfusion (show false=true from z)
  refine Za ?_;show wpAny _ _ (if(false:Bool)=true then _ else pure ()) _ _ _;rw[if_neg (by simp)];refine Zf (Zf ?_);have hr:Ris ks.toArray:=b5u' ris;have e1:walkE w a ep es=es.toList:=by unfold walkE;rw[if_neg (by rw[hb];simp)]
  have hbe:SetTable.below ks.toArray (slotE w ks i)=i:=by
   cases i with
   |zero=>exact b0Z' _ hr
   |succ i=>
    have hlt:i<ks.length:=by omega
    have e:slotE w ks (i+1)=ks.toArray[i]'(by simpa using hlt)+1:=by show(if byT w=true then 0 else ks.getD i 0+1)=_;rw[hb];simp[hlt]
    rw[e];exact b0Y' hr _
  rw[e1,ZS]at fin;have hp:(cT (!false) ks).place=ks.toArray:=rfl;rw[hp,hbe];by_cases hlt:i<es.size
  ·have hlk:i<ks.length:=by omega
   have e2:slotE w ks (i+1)=ks[i]+1:=by show(if byT w=true then 0 else ks.getD i 0+1)=_;rw[hb];simp[hlk]
   rw[Array.getElem?_eq_getElem hlt]at fin⊢;rw[e2]at fin;simpa[hlk]using fin
  ·rw[Array.getElem?_eq_none (by omega)]at fin⊢;exact fin
theorem a5B':Slot "set_iterator" "__next__" "set_iterator.__next__":=.of (owner:="set_iterator") (n:="__next__") (by rw[typeLookup_type,builtinLookup_eq_fast];kernel_rfl) (by decide+kernel) (by decide+kernel) (by decide+kernel) (by first|exact .inl (by decide+kernel)|exact .inr (by decide+kernel)) (by rw[isSubtype_type];kernel_rfl)
theorem b1d':Slot "set_iterator" "__iter__" "set_iterator.__iter__":=.of (owner:="set_iterator") (n:="__iter__") (by rw[typeLookup_type,builtinLookup_eq_fast];kernel_rfl) (by decide+kernel) (by decide+kernel) (by decide+kernel) (by first|exact .inl (by decide+kernel)|exact .inr (by decide+kernel)) (by rw[isSubtype_type];kernel_rfl)
theorem b3i':entryFor table "set_iterator.__iter__"=some Builtin.«dict_keyiterator.__iter__»:=entryFor_alias (id':="dict_keyiterator.__iter__") (by kernel_rfl) rfl (by decide+kernel) (by kernel_rfl)
theorem b5w'(v:Value):argsOk "set_iterator.__iter__" ⟨[v],[]⟩:=by unfold argsOk;kernel_rfl
theorem b1e':entryFor table "set_iterator.__next__"=some Builtin.«set_iterator.__next__»:=entryFor_of_tree (by kernel_rfl)
theorem b3Z'(v:Value):argsOk "set_iterator.__next__" ⟨[v],[]⟩:=by unfold argsOk;kernel_rfl
theorem a6c':entryFor table "set.__iter__"=some Builtin.«frozenset.__iter__»:=entryFor_alias (id':="frozenset.__iter__") (by kernel_rfl) rfl (by decide+kernel) (by kernel_rfl)
def IsSI(h:Heap)(it a:Addr)(sl i n ep:Nat):Prop:=∃o,h.get? it=some o∧o.cls=.type "set_iterator"∧o.data=.fields #[.int sl 0,.int i 0,.ref a,.int n 0,.int ep 0]
theorem si_new{o:Obj}(x:SetC prog w s.heap a ks es)(g:s.heap.get? a=some o)(ex:o.ExactSet)(d:o.data=.set es ep (cT (!byT w) ks))
  (fin:Q (.ref s.heap.objs.size) {s with heap:=s.heap.push {cls:=.type "set_iterator",data:=.fields #[.int 0 0,.int 0 0,.ref a,.int es.size 0,.int ep 0]}}):wpAny (model prog w) A (pyIter (.ref a)) Q E s:=by
 obtain⟨_,_,_,fitA,_⟩:=a1P' ks x.pow;have fit:(cT (!byT w) ks).fits es.size=true:=by rw[x.size];exact fitA _
 have ty:s.TypeIs (.ref a) "set":=⟨o,g,ex.1⟩;refine wpAny_pyIter_slot ty F.slot_set_iter (Ye F.slot_set_iter ty a6c' ?_ (F.args_set_iter_1 _));unfold Builtin.«frozenset.__iter__» Builtin.Frozenset.slot0 Builtin.Frozenset.sizeOf;refine Za (Za (Zf (Zf ?_)));refine Za (Za (wpAny_setEntries_of g d fit (Zf ?_)));refine Za ?_;unfold setDrawn;refine Za (wpAny_setState_of g d fit ?_);dsimp only;refine Za (m:=setsByText) (Za (wpAny_askSetting (Zf (Zf ?_))));rw[if_neg (show ¬_ from λz=>by have z:(!(w.params.followText "set-order")&&false)=true:=z;rw[Bool.and_false]at z;cases z)];refine Za (Zf (Za (wpAny_setEpoch_of g d fit ?_)));exact Za (Yh (Zf ⟨_,rfl,"set_iterator",_,⟨_,Zo _ rfl,rfl⟩,a5B'.lookup,fin⟩))
theorem si_item{o:Obj}{i:Nat}{e:Int×Value}{Q:Ov→Shared→Prop}(hit:IsSI s.heap it a (slotE w ks i) i es.size ep)(x:SetC prog w s.heap a ks es)(g:s.heap.get? a=some o)(d:o.data=.set es ep (cT (!byT w) ks))
  (hx:(walkE w a ep es)[i]?=some e) (fin:∀h',IsSI h' it a (slotE w ks (i+1)) (i+1) es.size ep→Heap.SameBut it s.heap h'→Q (some e.2) {s with heap:=h'}):wpAny (model prog w) A (pyNext (.ref it)) Q E s:=by
 obtain⟨oi,gi,ci,di⟩:=id hit;obtain⟨_,_,_,fitA,_⟩:=a1P' ks x.pow;have fit:(cT (!byT w) ks).fits es.size=true:=by rw[x.size];exact fitA _
 have ty:s.TypeIs (.ref it) "set_iterator":=⟨oi,gi,ci⟩;have hi:i≤es.size:=by have h1:=(Zl.mp hx).1;rw[(a3o' w a ep es).length_eq,Zt]at h1;omega
 unfold pyNext;refine Za (wpAny_attempt (Yj (name:=Str.ofString "__next__") ty a5B' (Ye a5B' ty b1e' ?_ (b3Z' _))));unfold Builtin.«set_iterator.__next__»;refine Za (Zf ?_);refine Za (wpAny_fieldsOf gi di ?_);dsimp only;refine Za (wpAny_setEntries_of g d fit ?_);rw[if_neg (by simp)];refine Za (m:=setNext a (Int.toNat (slotE w ks i:Nat)) (Int.toNat (i:Nat)) (Int.toNat (ep:Nat))) ?_;rw[Int.toNat_natCast,Int.toNat_natCast,Int.toNat_natCast];refine next_c x g d hi ?_;rw[hx];dsimp only[Option.map_some];refine Za (wpAny_setField gi di (by simp) ?_);have g1:=Heap.get?_update_self (Obj.mapFields (·.setIfInBounds 0 (rawInt (slotE w ks (i+1):Nat)))) gi (Obj.isFreed_of_fields (Obj.data_mapFields di _));have d1:=Obj.data_mapFields di (·.setIfInBounds 0 (rawInt (slotE w ks (i+1):Nat)));refine Za (wpAny_setField (s:={s with heap:=s.heap.update it (Obj.mapFields (·.setIfInBounds 0 (rawInt (slotE w ks (i+1):Nat))))}) g1 d1 (by simp) ?_);have g2:=Heap.get?_update_self (Obj.mapFields (·.setIfInBounds 1 (rawInt ((i:Int)+1)))) g1 (Obj.isFreed_of_fields (Obj.data_mapFields d1 _));have d2:=Obj.data_mapFields d1 (·.setIfInBounds 1 (rawInt ((i:Int)+1)));refine Zf ⟨_,rfl,Zf (fin _ ⟨_,g2,?_,?_⟩ ((Yo _ it _).trans (Yo _ it _)))⟩
 ·rw[Obj.cls_mapFields,Obj.cls_mapFields];exact ci
 ·rw[d2];simp[rawInt]
theorem si_end{o:Obj}{Q:Ov→Shared→Prop}(calm:A.handled=none)(hit:IsSI s.heap it a (slotE w ks es.size) es.size es.size ep)(x:SetC prog w s.heap a ks es)(g:s.heap.get? a=some o)(d:o.data=.set es ep (cT (!byT w) ks))
  (fin:∀h',Heap.ExtBut it s.heap h'→Q none {s with heap:=h'}):wpAny (model prog w) A (pyNext (.ref it)) Q E s:=by
 obtain⟨oi,gi,ci,di⟩:=id hit;obtain⟨_,_,_,fitA,_⟩:=a1P' ks x.pow;have fit:(cT (!byT w) ks).fits es.size=true:=by rw[x.size];exact fitA _
 have ty:s.TypeIs (.ref it) "set_iterator":=⟨oi,gi,ci⟩;unfold pyNext;refine Za (wpAny_attempt (Yj (name:=Str.ofString "__next__") ty a5B' (Ye a5B' ty b1e' ?_ (b3Z' _))));unfold Builtin.«set_iterator.__next__»;refine Za (Zf ?_);refine Za (wpAny_fieldsOf gi di ?_);dsimp only;refine Za (wpAny_setEntries_of g d fit ?_);rw[if_neg (by simp)];refine Za (m:=setNext a (Int.toNat (slotE w ks es.size:Nat)) (Int.toNat (es.size:Nat)) (Int.toNat (ep:Nat))) ?_;rw[Int.toNat_natCast,Int.toNat_natCast,Int.toNat_natCast];refine next_c x g d (Zi _) ?_;rw[List.getElem?_eq_none (by rw[(a3o' w a ep es).length_eq,Zt];exact Zi _)];dsimp only[Option.map_none];refine Za (wpAny_setField gi di (by simp) (Za ?_));simp only[newExc,newTuple];refine Za (Yh (Za (m:=firstArgMember _ _) (wpAny_of_eq (a:=Value.none) (by first|rfl| (simp only[firstArgMember];rfl)) (Yh ?_ (by size_fits)))) (by size_fits));simp only[raiseNew];refine Za (wpAny_handled ?_);rw[show A.in1.handled=none from calm];refine Za (Zf (wpAny_throw ?_));exact Za (wpAny_isInstance (T:="StopIteration") (b:=true) ⟨_,Zo _ rfl,rfl⟩ isSubtype_stop (Zf (fin _ (((Yo ..).extBut.push _).push _))))
theorem Walks.setC(calm:A.handled=none){h0:Heap}(hne:a≠it){o:Obj}(x:SetC prog w h0 a ks es)(d:o.data=.set es ep (cT (!byT w) ks)):
  Walks prog w A it [it,a] [it] es.size (λi v=>∃e,(walkE w a ep es)[i]?=some e∧v=e.2) (λi h=>IsSI h it a (slotE w ks i) i es.size ep∧h.get? a=some o∧SetC prog w h a ks es) where
 sub:=λb hb=>by simp at hb;simp[hb]
 frame:=λi h h' st k=>by obtain⟨⟨oi,gi,ri⟩,g,y⟩:=st;exact⟨⟨oi,k it (by simp) oi gi,ri⟩,k a (by simp) o g,y.kept λo' e=>k a (by simp) o' e⟩
 item:=λi s Q E hi st hQ=>by
  have hl:i<(walkE w a ep es).length:=by rw[(a3o' w a ep es).length_eq,Zt];exact hi
  refine si_item st.1 st.2.2 st.2.1 d (e:=(walkE w a ep es)[i]) (Ze hl) λh' hit' sb=>?_;refine hQ _ h' s.toks ⟨_,Ze hl,rfl⟩ ⟨hit',sb.extBut a o hne st.2.1,st.2.2.kept λo' e=>sb.extBut a o' hne e⟩ λb o hb e=>sb.extBut b o (λh=>hb (by simp[h])) e
 done:=λs Q E st hQ=>si_end calm st.1 st.2.2 st.2.1 d λh' he=>hQ h' s.toks λb o hb e=>he b o (λh=>hb (by simp[h])) e
 self:=λi s Q E st hQ=>by obtain⟨⟨oi,gi,ci,di⟩,_,_⟩:=st;have ty:s.TypeIs (.ref it) "set_iterator":=⟨oi,gi,ci⟩;exact wpAny_pyIter_slot ty b1d' (Ye b1d' ty b3i' (Zf ⟨_,rfl,"set_iterator",_,ty,a5B'.lookup,hQ⟩) (b5w' _))
theorem a9x'{Q:Lv→Shared→Prop}(calm:A.handled=none)(x:SetC prog w s.heap a ks es)
  (fin:∀(h':Heap) (tk:Nat) (vs:Lv),(∀b o,s.heap.get? b=some o→h'.get? b=some o)→vs.Perm (es.toList.map (·.2))→Q vs {s with heap:=h',toks:=tk}):wpAny (model prog w) A (collect (.ref a)) Q E s:=by
 obtain⟨o,ep,g,ex,d⟩:=x.obj;obtain⟨_,_,len,_,_⟩:=a1P' ks x.pow;have ha:=Zr g;unfold collect;refine Za (wpAny_runValue (codeAny_builtin F.entry_proto_collect ?_));rw[Around.under_plainId F.plain_proto_collect];refine Za (m:=newList []) (Yh (Zf ⟨plainId_quiet F.plain_list_iadd _,codeAny_builtin F.entry_list_iadd ?_⟩));rw[Around.under_plainId F.plain_list_iadd];generalize hS:s.heap.objs.size=S;have hl:(s.heap.push {cls:=.type "list",data:=.seq ([]:Lv).toArray}).get? S=some {cls:=.type "list",data:=.seq #[]}:=by rw[←hS];exact Zo _ rfl
 have g1:(s.heap.push {cls:=.type "list",data:=.seq ([]:Lv).toArray}).get? a=some o:=Zd _ g;have x1:SetC prog w (s.heap.push {cls:=.type "list",data:=.seq ([]:Lv).toArray}) a ks es:=x.kept λ_ e=>Zd _ e;have k1:∀b o,s.heap.get? b=some o→(s.heap.push {cls:=.type "list",data:=.seq ([]:Lv).toArray}).get? b=some o:=λ_ _ e=>Zd _ e;generalize s.heap.push {cls:=.type "list",data:=.seq ([]:Lv).toArray}=h1 at hl g1 x1 k1⊢;have ty:Shared.TypeIs {s with heap:=h1} (.ref a) "set":=⟨o,g1,ex.1⟩;show wpAny _ A.in1 (Builtin.List.listExtendWith (.ref S) (.ref a) (.ref S)) _ _ _;unfold Builtin.List.listExtendWith;refine Za (wpAny_typeOf ty ?_)
 rw[if_neg (by
  have:S≠a:=by rw[←hS];exact Nat.ne_of_gt ha
  simp[Builtin.List.listSameRef,this])]
 refine Za (si_new x1 g1 ex d ?_);have hn1:S<h1.objs.size:=Zr hl;have ha1:a<h1.objs.size:=Zr g1;have k2:∀b o,h1.get? b=some o→(h1.push {cls:=.type "set_iterator",data:=.fields #[.int 0 0,.int 0 0,.ref a,.int es.size 0,.int ep 0]}).get? b=some o:=λ_ _ e=>Zd _ e;have hit:IsSI (h1.push {cls:=.type "set_iterator",data:=.fields #[.int 0 0,.int 0 0,.ref a,.int es.size 0,.int ep 0]}) h1.objs.size a (slotE w ks 0) 0 es.size ep:=⟨_,Zo _ rfl,rfl,rfl⟩;show wpAny _ A.in1 _ _ _ {s with heap:=h1.push {cls:=.type "set_iterator",data:=.fields #[.int 0 0,.int 0 0,.ref a,.int es.size 0,.int ep 0]}};generalize h1.push {cls:=.type "set_iterator",data:=.fields #[.int 0 0,.int 0 0,.ref a,.int es.size 0,.int ep 0]}=h2 at k2 hit⊢;have ty2:Shared.TypeIs {s with heap:=h2} (.ref a) "set":=⟨o,k2 a o g1,ex.1⟩;refine Za (wpAny_holding ?_);unfold Builtin.List.listLengthHint;refine Za (wpAny_specialOf ty2 F.slot_set_len.lookup ?_);have sp:splitId "set.__len__"=some ("set","__len__"):=by decide+kernel
 dsimp only;rw[sp];dsimp only;refine Za (wpAny_isInstance (b:=true) ty2 (by rw[isSubtype_type];kernel_rfl) ?_);rw[if_neg (show ¬((!true)=true)by decide)];refine wpAny_ite ?_;rw[if_pos]
 rotate_left
 ·decide+kernel
 refine Za (wpAny_typeOf ty2 (Zf ?_));refine wpAny_ite ?_;rw[if_pos]
 rotate_left
 ·decide+kernel
 refine Za (wpAny_rule ?_);have hl2:=k2 S _ hl;refine Za (m:=Builtin.List.listTouch (.ref S)) (Za (m:=updateSeq S (·.push .none)) (wpAny_updateSeq hl2 rfl ?_));have hl3:=Heap.get?_update_self (Obj.mapSeq (·.push Value.none)) hl2 rfl;refine wpAny_updateSeq hl3 rfl ?_;have hl4:=Heap.get?_update_self (Obj.mapSeq (·.pop)) hl3 rfl;have k4:∀b o,b≠S→h2.get? b=some o→((h2.update S (Obj.mapSeq (·.push Value.none))).update S (Obj.mapSeq (·.pop))).get? b=some o:=λb o nb e=>(Heap.get?_update_other _ _ (Ne.symm nb)).trans ((Heap.get?_update_other _ _ (Ne.symm nb)).trans e);have hSa:a≠S:=by rw[←hS];exact ZJ ha
 have hSi:h1.objs.size≠S:=Nat.ne_of_gt hn1;have out:S∉[h1.objs.size,a]:=by simp only[Zj,Z1,or_false,not_or];exact⟨Ne.symm hSi,Ne.symm hSa⟩
 have W:=(Walks.setC (A:=A.in1) (prog:=prog) (w:=w) (by simpa using calm) (ZJ ha1) (it:=h1.objs.size) (o:=o) (ep:=ep) x1 d).toS;refine Zf ⟨plainId_quiet F.plain_extend_loop _,codeAny_extend_loopS W (by rw[x.size,sizeLine_eq];omega) S out _ es.size 0 _ _ _ rfl (Nat.zero_le _) ⟨?_,k4 a o hSa (k2 a o g1),?_⟩ hl4 ?_ λs' acc' c' mv hS' it'=>?_⟩
 ·obtain⟨oi,gi,ri⟩:=hit;exact⟨oi,k4 _ oi hSi gi,ri⟩
 ·exact x1.kept λo' e=>k4 a o' hSa (k2 a o' e)
 ·exact ItemsOf.nil _
 ·refine Za (wpAny_load hS' (Zf ?_));obtain⟨h',g',d',tk',os'⟩:=s';obtain⟨mh,mg,md,mo,_⟩:=mv;have eg:g'=s.gens:=mg;have ed:d'=s.drawn:=md;have eo:os'=s.os:=mo;subst eg ed eo;refine fin h' tk' _ (λb o' e=>?_) ?_
  ·have hb:=Zr (k1 b o' e);have hb0:=Zr e;have nS:b≠S:=by rw[←hS];exact ZJ hb0
   refine mh b o' ?_ (k4 b o' nS (k2 b o' (k1 b o' e)));simp only[Zj,Z1,or_false,not_or];exact⟨nS,ZJ hb⟩
  ·have el:acc'.toList=(walkE w a ep es).map (·.2):=by
    refine List.ext_getElem? λj=>?_;rw[ZS,ZW];have hz:(walkE w a ep es).length=es.size:=by rw[(a3o' w a ep es).length_eq,Zt]
    by_cases hj:j<acc'.size
    ·obtain⟨e,h1,h2⟩:=it'.2 j _ (Array.getElem?_eq_getElem hj);rw[Array.getElem?_eq_getElem hj,h1,h2];rfl
    ·have h0:=it'.1;rw[Array.getElem?_eq_none (by omega),List.getElem?_eq_none (by omega)];rfl
   rw[el];exact(a3o' w a ep es).map _
section
variable {R:Result→Shared→Prop}{P:Nat→Value→Prop}{St:Nat→Heap→Prop}
theorem fill_c(W:Walks prog w A.in1 I fp wr n P St)(S:Addr)(out:S∉fp)(val:Nat→Int)(hval:∀i v,P i v→∃t,v=.int (val i) t)(low:∀i,i<n→0≤val i∧val i<8):
  ∀(k i:Nat) (s:Shared) (ks:List Nat) (es:Array (Int×Value)),n-i=k→i≤n→St i s.heap→SetC prog w s.heap S ks es→(∀k:Nat,k∈ks↔∃j,j<i∧val j=k)→
  (∀h' tk ks' es',(∀b o,b∉wr→b≠S→s.heap.get? b=some o→h'.get? b=some o)→SetC prog w h' S ks' es'→(∀k:Nat,k∈ks'↔∃j,j<n∧val j=k)→R (.ok (.ret .none)) {s with heap:=h',toks:=tk})→
  codeAny (model prog w) A (.builtin "set.update.loop" ⟨[.ref S,.ref I],[]⟩) R s:=by
 have nS:S∉wr:=λz=>out (W.sub S z);intro k
 induction k with
 |zero=>
  intro i s ks es e0 e1 ist x pm fin;obtain rfl:i=n:=by omega
  exact codeAny_builtin F.entry_set_update_loop (by rw[Around.under_plainId F.plain_set_update_loop];exact Za (W.done s _ _ ist λh' tk kp=>Zf (fin h' tk ks es (λb o nb _ e=>kp b o nb e) (x.kept λo e=>kp S o nS e) pm)))
 |succ k ih=>
  intro i s ks es e0 e1 ist x pm fin;have lt:i<n:=by omega
  refine codeAny_builtin F.entry_set_update_loop ?_;rw[Around.under_plainId F.plain_set_update_loop];refine Za (W.item i s _ _ lt ist λv h' tk pv ist' kp=>?_);obtain⟨t,rfl⟩:=hval i v pv;have x1:SetC prog w h' S ks es:=x.kept λo e=>kp S o nS e;obtain⟨u,hu⟩:∃u:Nat,val i=(u:Int):=⟨(val i).toNat,by have:=low i lt;omega⟩;have hu8:u<8:=by have:=low i lt;omega
  refine Za (m:=holding [Value.int (val i) t] (setAdd S (.int (val i) t))) (wpAny_holding ?_);unfold setAdd;refine wpAny_holding (Za ((intKind prog w).pyHash (k:=val i) (intKind_is _ _ _ _) ?_));rw[hu];refine add_c (s:={s with heap:=h',toks:=tk+1}) x1 hu8 λh2 ks2 es2 b sb x2 how=>?_
  have pm2:∀k:Nat,k∈ks2↔∃j,j<i+1∧val j=k:=λk=>by
   rw[how k,pm k];constructor
   ·rintro(⟨j,hj,e⟩|rfl)
    ·exact⟨j,by omega,e⟩
    ·exact⟨i,by omega,hu⟩
   ·rintro⟨j,hj,e⟩;by_cases z:j=i
    ·subst z;exact .inr (by omega)
    ·exact .inl ⟨j,by omega,e⟩
  refine Zf ⟨plainId_quiet F.plain_set_update_loop _,ih (i+1) _ ks2 es2 (by omega) lt (W.frame _ _ _ ist' λb fb o e=>?_) x2 pm2 λh3 tk3 ks3 es3 kp3 x3 pm3=>?_⟩
  ·rw[sb.2 b λz=>out (z▸fb)];exact e
  ·refine fin h3 tk3 ks3 es3 (λb o nb db e=>kp3 b o nb db ?_) x3 pm3;rw[sb.2 b db];exact kp b o nb e
end
theorem a6N'{vs:Av}(hh:A.handled=none)(ht:s.heap.IsTuple t vs)(hi:IntsAre vs.toList ns)(low:∀n∈ns,0≤n∧n<8)
  (h:∀(h':Heap) (tk:Nat),(∃ks es,SetC prog w h' s.heap.objs.size ks es∧∀k:Nat,k∈ks↔(k:Int)∈ns)→
   (∀b o,b<s.heap.objs.size→s.heap.get? b=some o→h'.get? b=some o)→Q (.ref s.heap.objs.size) {s with heap:=h',toks:=tk}):wpAny (model prog w) A (call (.type "set") [.ref t]) Q E s:=by
 obtain⟨c,tl,hmro⟩:=F.called_set.mro;have hmade:=F.called_set.made;have hsub:=F.called_set.sub;refine wpAny_call (codeAny_of_tree ?_);show wpAny _ _ (callAny (.type "set") _) _ _ _;refine Zf ⟨Code.quiet_builtin _ (by decide+kernel),codeAny_builtin F.entry_type_call ?_⟩;rw[Around.under_plain (weight_type_call_type "set" [.ref t] []) rfl];have g1:=F.called_set.notType;have g2:=F.called_set.canCreate;have g3:=F.typeCall_set_1 (.ref t)
 repeat(any_goals (first|assumption|wp_step))
 refine codeAny_mono (b1a' (.ref t) (E:=E) (R:=λobj s₁=>obj=.ref s.heap.objs.size∧s₁={s with heap:=s.heap.push (setO (!byT w))}) ⟨rfl,rfl⟩) λr s₁ hr=>?_;cases r with
 |error e=>exact hr
 |ok fl=>
  cases fl with
  |ret obj=>
   obtain⟨rfl,rfl⟩:=hr;generalize hled:(!byT w)=led;have hS:(s.heap.push (setO led)).get? s.heap.objs.size=some (setO led):=Zo _ rfl;have hT:Shared.TypeIs {s with heap:=s.heap.push (setO led)} (.ref s.heap.objs.size) "set":=⟨_,hS,rfl⟩;have hli:=F.called_set.init.lookup;have hbi:=F.called_set.init.bind (.ref s.heap.objs.size)
   repeat(any_goals (first|assumption|wp_step))
   refine codeAny_mono (codeAny_call_builtin (R:=wants (λr s₂=>r=.none∧∃h' tk,s₂={s with heap:=h',toks:=tk}∧(∃ks es,SetC prog w h' s.heap.objs.size ks es∧∀k:Nat,k∈ks↔(k:Int)∈ns)∧
     (∀b o,b<s.heap.objs.size→s.heap.get? b=some o→h'.get? b=some o)) E) F.called_set.init.plain F.entry_set_init (check_set_init_1 hT ?_)) λr₂ s₂ hr₂=>?_
   ·obtain⟨⟨ocls,odict,odata,oslots⟩,hol,hcl,nl,hdl⟩:=ht;simp only at hcl hdl;subst hcl;subst hdl;have hol':(s.heap.push (setO led)).get? t=some {cls:=.type "tuple",dict:=odict,data:=.seq vs nl,slots:=oslots}:=Zd _ hol;have q1:=F.sub_tuple_set;have q2:=F.sub_tuple_frozenset;have q3:(Value.type "tuple"==Value.type "dict")=false:=by decide
    have hl1:(s.heap.push (setO led)).IsTuple t vs:=⟨_,hol',rfl,nl,rfl⟩;unfold Builtin.«set.__init__» noKeywords Builtin.Frozenset.updateFrom;generalize hPI:pyIter=PI
    wp_walk
    subst hPI;refine wpAny_pyIter_tuple hl1 (Za (wpAny_runValue ?_));have hlS:t<s.heap.objs.size:=Zr hol;have hh3:A.in1.in1.in1.handled=none:=by simp[hh]
    have hz:(s.heap.push (setO led)).objs.size=s.heap.objs.size+1:=Heap.size_push ..;have hneI:t≠(s.heap.push (setO led)).objs.size:=by rw[hz];exact ZJ (Nat.lt_succ_of_lt hlS)
    have hSf:s.heap.objs.size∉[(s.heap.push (setO led)).objs.size,t]:=by rw[hz];simp only[Zj,Z1,or_false,not_or];exact⟨ZJ (Nat.lt_succ_self _),Nat.ne_of_gt hlS⟩
    have xB:SetC prog w (s.heap.push (setO led)) s.heap.objs.size [] #[]:=by rw[←hled];exact SetC.born s.heap
    have hlen:vs.size=ns.length:=by rw[←Zt];exact hi.length
    refine fill_c (Walks.tuple hh3 _ t hneI vs) s.heap.objs.size hSf (λi=>ns.getD i 0) (λi v hv=>hi.int_at i v (by rw[ZS];exact hv)) (λi hlt=>low _ (by rw[ZZ,Ze (by omega)];exact ZY _)) (vs.size-0) 0 _ [] #[] (by omega) (Nat.zero_le _) ⟨⟨_,Zo _ rfl,rfl,rfl⟩,(hl1.push _)⟩ (xB.kept λo e=>Zd _ e) (λk=>⟨λz=>(by cases z),λ⟨i,z,_⟩=>(by omega)⟩) ?hR
    case hR=>intro h' tk' ks' es' kp x' pm';refine Zf (Zf ⟨rfl,h',tk',rfl,⟨ks',es',x',λk=>(pm' k).trans ⟨λ⟨i,z,e⟩=>by rw[←e,ZZ,Ze (by omega)];exact ZY _,λz=>by obtain⟨i,hi',e⟩:=ZX.mp z;exact⟨i,by omega,by rw[ZZ,Ze hi'];exact e⟩⟩⟩,λb o hb e=>kp b o ?_ (ZJ hb) (Zd _ (Zd _ e))⟩);simp only[Zj,Z1,or_false];rw[hz];exact ZJ (Nat.lt_succ_of_lt hb)
   ·cases r₂ with
    |error e=>exact hr₂
    |ok fl₂=>
     cases fl₂ with
     |ret r=>
      obtain⟨rfl,h',tk,rfl,hS',hk'⟩:=hr₂
      repeat(any_goals (first|assumption|wp_step))
      exact h _ _ hS' hk'
     |_=>exact hr₂.elim
  |_=>exact hr.elim
theorem a6d'{vs:Av}(hh:A.handled=none)(ht:s.heap.IsList t vs)(hi:IntsAre vs.toList ns)(low:∀n∈ns,0≤n∧n<8)
  (h:∀(h':Heap) (tk:Nat),(∃ks es,SetC prog w h' s.heap.objs.size ks es∧∀k:Nat,k∈ks↔(k:Int)∈ns)→
   (∀b o,b<s.heap.objs.size→s.heap.get? b=some o→h'.get? b=some o)→Q (.ref s.heap.objs.size) {s with heap:=h',toks:=tk}):wpAny (model prog w) A (call (.type "set") [.ref t]) Q E s:=by
 obtain⟨c,tl,hmro⟩:=F.called_set.mro;have hmade:=F.called_set.made;have hsub:=F.called_set.sub;refine wpAny_call (codeAny_of_tree ?_);show wpAny _ _ (callAny (.type "set") _) _ _ _;refine Zf ⟨Code.quiet_builtin _ (by decide+kernel),codeAny_builtin F.entry_type_call ?_⟩;rw[Around.under_plain (weight_type_call_type "set" [.ref t] []) rfl];have g1:=F.called_set.notType;have g2:=F.called_set.canCreate;have g3:=F.typeCall_set_1 (.ref t)
 repeat(any_goals (first|assumption|wp_step))
 refine codeAny_mono (b1a' (.ref t) (E:=E) (R:=λobj s₁=>obj=.ref s.heap.objs.size∧s₁={s with heap:=s.heap.push (setO (!byT w))}) ⟨rfl,rfl⟩) λr s₁ hr=>?_;cases r with
 |error e=>exact hr
 |ok fl=>
  cases fl with
  |ret obj=>
   obtain⟨rfl,rfl⟩:=hr;generalize hled:(!byT w)=led;have hS:(s.heap.push (setO led)).get? s.heap.objs.size=some (setO led):=Zo _ rfl;have hT:Shared.TypeIs {s with heap:=s.heap.push (setO led)} (.ref s.heap.objs.size) "set":=⟨_,hS,rfl⟩;have hli:=F.called_set.init.lookup;have hbi:=F.called_set.init.bind (.ref s.heap.objs.size)
   repeat(any_goals (first|assumption|wp_step))
   refine codeAny_mono (codeAny_call_builtin (R:=wants (λr s₂=>r=.none∧∃h' tk,s₂={s with heap:=h',toks:=tk}∧(∃ks es,SetC prog w h' s.heap.objs.size ks es∧∀k:Nat,k∈ks↔(k:Int)∈ns)∧
     (∀b o,b<s.heap.objs.size→s.heap.get? b=some o→h'.get? b=some o)) E) F.called_set.init.plain F.entry_set_init (check_set_init_1 hT ?_)) λr₂ s₂ hr₂=>?_
   ·obtain⟨⟨ocls,odict,odata,oslots⟩,hol,hcl,nl,hdl⟩:=ht;simp only at hcl hdl;subst hcl;subst hdl;have hol':(s.heap.push (setO led)).get? t=some {cls:=.type "list",dict:=odict,data:=.seq vs nl,slots:=oslots}:=Zd _ hol;have q1:=F.sub_list_set;have q2:=F.sub_list_frozenset;have q3:(Value.type "list"==Value.type "dict")=false:=by decide
    have hl1:(s.heap.push (setO led)).IsList t vs:=⟨_,hol',rfl,nl,rfl⟩;unfold Builtin.«set.__init__» noKeywords Builtin.Frozenset.updateFrom;generalize hPI:pyIter=PI
    wp_walk
    subst hPI;refine wpAny_pyIter_list hl1 (Za (wpAny_runValue ?_));have hlS:t<s.heap.objs.size:=Zr hol;have hh3:A.in1.in1.in1.handled=none:=by simp[hh]
    have hz:(s.heap.push (setO led)).objs.size=s.heap.objs.size+1:=Heap.size_push ..;have hneI:t≠(s.heap.push (setO led)).objs.size:=by rw[hz];exact ZJ (Nat.lt_succ_of_lt hlS)
    have hSf:s.heap.objs.size∉[(s.heap.push (setO led)).objs.size,t]:=by rw[hz];simp only[Zj,Z1,or_false,not_or];exact⟨ZJ (Nat.lt_succ_self _),Nat.ne_of_gt hlS⟩
    have xB:SetC prog w (s.heap.push (setO led)) s.heap.objs.size [] #[]:=by rw[←hled];exact SetC.born s.heap
    have hlen:vs.size=ns.length:=by rw[←Zt];exact hi.length
    refine fill_c (Walks.list hh3 _ t hneI vs) s.heap.objs.size hSf (λi=>ns.getD i 0) (λi v hv=>hi.int_at i v (by rw[ZS];exact hv)) (λi hlt=>low _ (by rw[ZZ,Ze (by omega)];exact ZY _)) (vs.size-0) 0 _ [] #[] (by omega) (Nat.zero_le _) ⟨⟨_,Zo _ rfl,rfl,rfl⟩,(hl1.push _)⟩ (xB.kept λo e=>Zd _ e) (λk=>⟨λz=>(by cases z),λ⟨i,z,_⟩=>(by omega)⟩) ?hR
    case hR=>intro h' tk' ks' es' kp x' pm';refine Zf (Zf ⟨rfl,h',tk',rfl,⟨ks',es',x',λk=>(pm' k).trans ⟨λ⟨i,z,e⟩=>by rw[←e,ZZ,Ze (by omega)];exact ZY _,λz=>by obtain⟨i,hi',e⟩:=ZX.mp z;exact⟨i,by omega,by rw[ZZ,Ze hi'];exact e⟩⟩⟩,λb o hb e=>kp b o ?_ (ZJ hb) (Zd _ (Zd _ e))⟩);simp only[Zj,Z1,or_false];rw[hz];exact ZJ (Nat.lt_succ_of_lt hb)
   ·cases r₂ with
    |error e=>exact hr₂
    |ok fl₂=>
     cases fl₂ with
     |ret r=>
      obtain⟨rfl,h',tk,rfl,hS',hk'⟩:=hr₂
      repeat(any_goals (first|assumption|wp_step))
      exact h _ _ hS' hk'
     |_=>exact hr₂.elim
  |_=>exact hr.elim
theorem a6O'{vs:Av}(hh:A.handled=none)(ht:s.heap.IsList t vs∨s.heap.IsTuple t vs)(hi:IntsAre vs.toList ns)(low:∀n∈ns,0≤n∧n<8)
  (h:∀(h':Heap) (tk:Nat),(∃ks es,SetC prog w h' s.heap.objs.size ks es∧∀k:Nat,k∈ks↔(k:Int)∈ns)→
   (∀b o,b<s.heap.objs.size→s.heap.get? b=some o→h'.get? b=some o)→Q (.ref s.heap.objs.size) {s with heap:=h',toks:=tk}):wpAny (model prog w) A (call (.type "set") [.ref t]) Q E s:=
 ht.elim (λq=>a6d' hh q hi low h) λq=>a6N' hh q hi low h
end Py
section
set_option autoImplicit false
namespace Srt
noncomputable def gallop':Bool→Keyed→Array Keyed→Nat→Nat→Nat→StateT SortSt Sem (Option Nat):=sortPriv%PySem.Builtin.gallop
noncomputable def b5x':Array Keyed→Array Keyed→StateT SortSt Sem (Array Keyed):=sortPriv%PySem.Builtin.mergeLo
noncomputable def b5y':Array Keyed→Array Keyed→StateT SortSt Sem (Array Keyed):=sortPriv%PySem.Builtin.mergeHi
def dK:Keyed:=(Value.none,Value.none)
structure Cmp (prog:Program)(w:World)(A:Around)(s:Shared)(κ:SortKind)(P:Keyed→Prop)(K:Keyed→Nat):Prop where
 lt:∀x,P x→∀y,P y→∀(Q:Bool→Shared→Prop) (E:Vs),Q (decide (K x<K y)) s→wpAny (model prog w) A (keyLt' κ x.1 y.1) Q E s
noncomputable def R(K:Keyed→Nat)(xs:Array Keyed)(i:Nat):Nat:=K (xs.getD i dK)
section
variable {st:SortSt}{P:Keyed→Prop}{K:Keyed→Nat}
theorem getD_of{xs:Array Keyed}{i:Nat}(h:i<xs.size):xs.getD i dK=xs[i]:=by unfold Array.getD;rw[dif_pos h];rfl
theorem R_of{xs:Array Keyed}{i:Nat}(h:i<xs.size):R K xs i=K xs[i]:=by unfold R;rw[getD_of h]
theorem b1f'(C:Cmp prog w A s κ P K){x y:Keyed}(hx:P x)(hy:P y)(hk:kindOf st=κ){Q:Option Bool→SortSt→Prop}(h:Q (some (decide (K x<K y))) st):wpS (model prog w) A E s (lt' x y) Q st:=by rw[lt'_eq];refine Zq (wpS_get ?_);rw[hk];refine Zq (wpS_lift (wpAny_attempt (C.lt x hx y hy _ _ ⟨rfl,?_⟩)));exact Zx h
theorem a0m'{xs:Array Keyed}{i:Nat}(hi:i<xs.size){Q:Keyed→SortSt→Prop}(h:Q xs[i] st):wpS (model prog w) A E s (elem' xs i) Q st:=by rw[elem'_eq,getElem?_pos xs i hi];exact Zx h
noncomputable def thr(K:Keyed→Nat)(left:Bool)(key:Keyed):Nat:=if left=true then K key else K key+1
theorem a2n'(C:Cmp prog w A s κ P K){left:Bool}{arr:Array Keyed}{i:Nat}(ha:∀x∈arr.toList,P x)(hy:P key)(hk:kindOf st=κ)(hi:i<arr.size){Q:Option Bool→SortSt→Prop}(h:Q (some (decide (R K arr i<thr K left key))) st):
  wpS (model prog w) A E s (elem' arr i>>=λx=>if left=true then lt' x key else lt' key x>>=λr=>pure (r.map λb=> !b)) Q st:=by
 refine Zq (a0m' hi ?_);have hx:P arr[i]:=ha _ (by simp);rw[R_of hi]at h;cases left with
 |true=>exact b1f' C hx hy hk h
 |false=>
  refine Zq (b1f' C hy hx hk ?_);refine Zx ?_;have e:(!decide (K key<K arr[i]))=decide (K arr[i]<thr K false key):=by rw[←decide_not];exact decide_eq_decide.mpr (by show ¬K key<K arr[i]↔K arr[i]<K key+1;lia)
  show Q (some (!decide (K key<K arr[i]))) st;rw[e];exact h
theorem a1H'(C:Cmp prog w A s κ P K){left:Bool}{arr:Array Keyed}{base hint:Nat}(ha:∀x∈arr.toList,P x)(hy:P key)(hk:kindOf st=κ)(hz:base+n≤arr.size)(hh:hint<n)
  (hs:∀i j,i≤j→j<n→R K arr (base+i)≤R K arr (base+j)) {Q:Option Nat→SortSt→Prop}
  (h:∀k,k≤n→(∀i,i<k→R K arr (base+i)<thr K left key)→(∀i,k≤i→i<n→thr K left key≤R K arr (base+i))→Q (some k) st):wpS (model prog w) A E s (gallop' left key arr base n hint) Q st:=by
 have last:∀lo hi:Nat,lo≤hi→hi≤n→(∀i,i<lo→R K arr (base+i)<thr K left key)→(∀i,hi≤i→i<n→thr K left key≤R K arr (base+i))→
   ∀{f:Nat→Option (Option Nat)×Nat×Nat→StateT SortSt Sem (ForInStep (Option (Option Nat)×Nat×Nat))} {g:Option (Option Nat)×Nat×Nat→StateT SortSt Sem (Option Nat)},
   (∀x lo hi,lo<hi→hi≤n→∀Q',(R K arr (base+(lo+(hi-lo)/2))<thr K left key→Q' (.yield (none,lo+(hi-lo)/2+1,hi)) st)→(¬R K arr (base+(lo+(hi-lo)/2))<thr K left key→Q' (.yield (none,lo,lo+(hi-lo)/2)) st)→wpS (model prog w) A E s (f x (none,lo,hi)) Q' st)→
   (∀x lo hi,hi≤lo→f x (none,lo,hi)=pure (.done (none,lo,hi)))→(∀lo hi,g (none,lo,hi)=pure (some hi))→wpS (model prog w) A E s (forIn [:n] (none,lo,hi) f>>=g) Q st:=by
  intro lo hi h1 h2 h3 h4 f g hf hd hg
  refine Zq (wpS_mono (Yg (I:=λx c st'=>st'=st∧∃lo hi,c=(none,lo,hi)∧lo≤hi∧hi≤n∧hi-lo≤n-x∧(∀i,i<lo→R K arr (base+i)<thr K left key)∧(∀i,hi≤i→i<n→thr K left key≤R K arr (base+i)))
   (Q:=λc st'=>st'=st∧∃hi,c=(none,hi,hi)∧hi≤n∧(∀i,i<hi→R K arr (base+i)<thr K left key)∧(∀i,hi≤i→i<n→thr K left key≤R K arr (base+i))) ?_ ?_ ⟨rfl,lo,hi,rfl,h1,h2,by lia,h3,h4⟩) ?_)
  ·rintro x c st' _ hx ⟨rfl,lo,hi,rfl,k1,k2,k3,k4,k5⟩;by_cases hlt:hi≤lo
   ·rw[hd x lo hi hlt];have:lo=hi:=by lia
    subst this;exact Zx ⟨rfl,lo,rfl,k2,k4,k5⟩
   ·refine hf x lo hi (by lia) k2 _ (λhm=>⟨rfl,_,_,rfl,by lia,k2,by lia,λi hi'=>?_,k5⟩) (λhm=>⟨rfl,_,_,rfl,by lia,by lia,by lia,k4,λi h1 h2=>?_⟩)
    ·have:=hs i (lo+(hi-lo)/2) (by lia) (by lia);lia
    ·have:=hs (lo+(hi-lo)/2) i (by lia) (by lia);lia
  ·rintro c st' ⟨rfl,lo,hi,rfl,k1,k2,k3,k4,k5⟩;have:lo=hi:=by lia
   subst this;exact⟨rfl,lo,rfl,k2,k4,k5⟩
  ·rintro c st' ⟨rfl,hi,rfl,k2,k4,k5⟩;rw[hg];exact Zx (h hi k2 k4 k5)
 refine Zq (a2n' C ha hy hk (by lia) ?_);by_cases hr:R K arr (base+hint)<thr K left key
 ·rw[ZR hr]
  refine Zq (wpS_mono (Yg (I:=λx c st'=>st'=st∧∃l o,c=(none,l,o)∧l<o∧x+1≤o∧hint+l<n∧R K arr (base+(hint+l))<thr K left key)
   (Q:=λc st'=>st'=st∧∃l o,c=(none,l,o)∧l<o∧hint+l<n∧R K arr (base+(hint+l))<thr K left key∧(n-hint≤o∨(hint+o<n∧thr K left key≤R K arr (base+(hint+o))))) ?_ ?_ ⟨rfl,0,1,rfl,by lia,by lia,by lia,hr⟩) ?_)
  ·rintro x c st' _ hx ⟨rfl,l,o,rfl,k1,k2,k3,k4⟩;dsimp only;by_cases ho:o≥n-hint
   ·rw[if_pos ho];exact Zx ⟨rfl,l,o,rfl,k1,k3,k4,.inl ho⟩
   ·rw[if_neg ho];refine Zq (a2n' C ha hy hk (by lia) ?_);by_cases hm:R K arr (base+(hint+o))<thr K left key
    ·rw[ZR hm];exact Zx ⟨rfl,o,2*o+1,rfl,by lia,by lia,by lia,hm⟩
    ·rw[ZO hm];exact Zx ⟨rfl,l,o,rfl,k1,k3,k4,.inr ⟨by lia,by lia⟩⟩
  ·rintro c st' ⟨rfl,l,o,rfl,k1,k2,k3,k4⟩;exact⟨rfl,l,o,rfl,k1,k3,k4,.inl (by lia)⟩
  ·rintro c st' ⟨rfl,l,o,rfl,k1,k3,k4,k5⟩;refine last (hint+l+1) (hint+min o (n-hint)) (by lia) (by lia) (λi hi=>?_) (λi h1 h2=>?_) (λx lo hi h1 h2 Q' q1 q2=>?_) (λx lo hi h1=>if_pos h1) (λlo hi=>rfl)
   ·have:=hs i (hint+l) (by lia) (by lia);lia
   ·rcases k5 with k5| ⟨k5,k6⟩
    ·lia
    ·have:=hs (hint+o) i (by lia) (by lia);lia
   ·dsimp only;rw[if_neg (by lia)];refine Zq (a2n' C ha hy hk (by lia) ?_);by_cases hm:R K arr (base+(lo+(hi-lo)/2))<thr K left key
    ·rw[ZR hm];exact Zx (q1 hm)
    ·rw[ZO hm];exact Zx (q2 hm)
 ·rw[ZO hr]
  refine Zq (wpS_mono (Yg (I:=λx c st'=>st'=st∧∃l o,c=(none,l,o)∧l<o∧x+1≤o∧l≤hint∧thr K left key≤R K arr (base+(hint-l)))
   (Q:=λc st'=>st'=st∧∃l o,c=(none,l,o)∧l<o∧l≤hint∧thr K left key≤R K arr (base+(hint-l))∧(hint+1≤o∨(o≤hint∧R K arr (base+(hint-o))<thr K left key))) ?_ ?_ ⟨rfl,0,1,rfl,by lia,by lia,by lia,by simpa using hr⟩) ?_)
  ·rintro x c st' _ hx ⟨rfl,l,o,rfl,k1,k2,k3,k4⟩;dsimp only;by_cases ho:o≥hint+1
   ·rw[if_pos ho];exact Zx ⟨rfl,l,o,rfl,k1,k3,k4,.inl ho⟩
   ·rw[if_neg ho];refine Zq (a2n' C ha hy hk (by lia) ?_);by_cases hm:R K arr (base+(hint-o))<thr K left key
    ·rw[ZR hm];exact Zx ⟨rfl,l,o,rfl,k1,k3,k4,.inr ⟨by lia,hm⟩⟩
    ·rw[ZO hm];exact Zx ⟨rfl,o,2*o+1,rfl,by lia,by lia,by lia,by lia⟩
  ·rintro c st' ⟨rfl,l,o,rfl,k1,k2,k3,k4⟩;exact⟨rfl,l,o,rfl,k1,k3,k4,.inl (by lia)⟩
  ·rintro c st' ⟨rfl,l,o,rfl,k1,k3,k4,k5⟩;refine last (hint+1-min o (hint+1)) (hint-l) (by lia) (by lia) (λi hi=>?_) (λi h1 h2=>?_) (λx lo hi h1 h2 Q' q1 q2=>?_) (λx lo hi h1=>if_pos h1) (λlo hi=>rfl)
   ·rcases k5 with k5| ⟨k5,k6⟩
    ·lia
    ·have:=hs i (hint-o) (by lia) (by lia);lia
   ·have:=hs (hint-l) i (by lia) (by lia);lia
   ·dsimp only;rw[if_neg (by lia)];refine Zq (a2n' C ha hy hk (by lia) ?_);by_cases hm:R K arr (base+(lo+(hi-lo)/2))<thr K left key
    ·rw[ZR hm];exact Zx (q1 hm)
    ·rw[ZO hm];exact Zx (q2 hm)
end
end Srt
end
section
set_option autoImplicit false
namespace Srt
section
variable {K:Keyed→Nat}
def LS(K:Keyed→Nat)(l:List Keyed):Prop:=l.Pairwise λx y=>K x≤K y
def Good(K:Keyed→Nat)(tot:List Keyed)(r:Array Keyed):Prop:=r.toList.Perm tot∧LS K r.toList
structure MI (K:Keyed→Nat)(tot o ra rb:List Keyed):Prop where
 perm:(o++ra++rb).Perm tot
 so:LS K o
 sa:LS K ra
 sb:LS K rb
 oa:∀x∈o,∀y∈ra,K x≤K y
 ob:∀x∈o,∀y∈rb,K x≤K y
variable {tot o ra rb c:List Keyed}
theorem MI.stepA(h:MI K tot o (c++ra) rb)(hc:∀x∈c,∀y∈rb,K x≤K y):MI K tot (o++c) ra rb:=by
 have sa:=ZH.mp h.sa;refine⟨?_,ZH.mpr ⟨h.so,sa.1,λx hx y hy=>h.oa x hx y (ZG _ hy)⟩,sa.2.1,h.sb,λx hx y hy=>?_,λx hx y hy=>?_⟩
 ·have:=h.perm
  rwa [←Zu]at this
 ·rcases Zs.mp hx with z|z
  ·exact h.oa x z y (Zz _ hy)
  ·exact sa.2.2 x z y hy
 ·rcases Zs.mp hx with z|z
  ·exact h.ob x z y hy
  ·exact hc x z y hy
theorem MI.stepB(h:MI K tot o ra (c++rb))(hc:∀x∈c,∀y∈ra,K x≤K y):MI K tot (o++c) ra rb:=by
 have sb:=ZH.mp h.sb;refine⟨?_,ZH.mpr ⟨h.so,sb.1,λx hx y hy=>h.ob x hx y (ZG _ hy)⟩,h.sa,sb.2.1,λx hx y hy=>?_,λx hx y hy=>?_⟩
 ·refine List.Perm.trans ?_ h.perm;rw[Zu,Zu,Zu];refine List.Perm.append_left _ ?_;rw[←Zu,←Zu];exact List.Perm.append_right _ List.perm_append_comm
 ·rcases Zs.mp hx with z|z
  ·exact h.oa x z y hy
  ·exact hc x z y hy
 ·rcases Zs.mp hx with z|z
  ·exact h.ob x z y (Zz _ hy)
  ·exact sb.2.2 x z y hy
theorem MI.done(h:MI K tot o ra []):(o++ra++[]).Perm tot∧LS K (o++ra++[]):=by refine⟨h.perm,?_⟩;rw[Yd];exact ZH.mpr ⟨h.so,h.sa,h.oa⟩
theorem MI.last(h:MI K tot o ra rb)(hb:∀y∈rb,∀z∈ra,K y≤K z):(o++rb++ra).Perm tot∧LS K (o++rb++ra):=by
 refine⟨List.Perm.trans ?_ h.perm,ZH.mpr ⟨ZH.mpr ⟨h.so,h.sb,h.ob⟩,h.sa,λx hx y hy=>?_⟩⟩
 ·rw[Zu,Zu];exact List.Perm.append_left _ List.perm_append_comm
 ·rcases Zs.mp hx with z|z
  ·exact h.oa x z y hy
  ·exact hb x z y hy
theorem a6e'{a:Array Keyed}{i:Nat}:(a.extract i).toList=a.toList.drop i:=by rw[Array.toList_extract];unfold List.extract;rw[List.take_of_length_le (by simp)]
theorem b1g'{a:Array Keyed}{i:Nat}:(a.extract i (i+k)).toList=(a.toList.drop i).take k:=by rw[Array.toList_extract];unfold List.extract;rw[Nat.add_sub_cancel_left]
theorem a8H'{a:Array Keyed}{i:Nat}(h:i<a.size):a.toList.drop i=a[i]::a.toList.drop (i+1):=by rw[Z8 (by simpa using h)];rfl
theorem a6P'{a:Array Keyed}{i:Nat}:a.toList.drop i=(a.toList.drop i).take k++a.toList.drop (i+k):=by rw[←List.drop_drop,List.take_append_drop]
theorem LS.mono{a:Array Keyed}(h:LS K a.toList){i j:Nat}(hij:i≤j)(hj:j<a.size):R K a i≤R K a j:=by
 rw[R_of hj,R_of (show i<a.size by lia)];rcases Nat.lt_or_ge i j with z|z
 ·exact List.pairwise_iff_getElem.mp h i j (by simp;lia) (by simpa using hj) z
 ·have:i=j:=by lia
  subst this;exact Zi _
theorem a2o'{a:Array Keyed}{i:Nat}{x:Keyed}(h:x∈(a.toList.drop i).take k):∃j,j<k∧i+j<a.size∧K x=R K a (i+j):=by obtain⟨j,hj,rfl⟩:=ZX.mp h;simp only[Yf,List.length_drop,Zt]at hj;refine⟨j,by lia,by lia,?_⟩;rw[R_of (show i+j<a.size by lia)];simp
theorem a7L'{a:Array Keyed}{i:Nat}{x:Keyed}(h:x∈a.toList.drop i):∃j,i≤j∧j<a.size∧K x=R K a j:=by obtain⟨j,hj,rfl⟩:=ZX.mp h;simp only[List.length_drop,Zt]at hj;refine⟨i+j,by lia,by lia,?_⟩;rw[R_of (show i+j<a.size by lia)];simp
end
noncomputable def a0J'(st:SortSt)(g:Nat):SortSt:=SortSt.mk' (kindOf st) (arrOf st) (pendingOf st) g (failedOf st)
section
variable {st:SortSt}{P:Keyed→Prop}{K:Keyed→Nat}
structure ML (K:Keyed→Nat)(a b out:Array Keyed)(ia ib:Nat):Prop where
 mi:MI K (a.toList++b.toList) out.toList (a.toList.drop ia) (b.toList.drop ib)
 la:ia+1<a.size
 lb:ib<b.size
variable {a b out:Array Keyed}{ia ib:Nat}
theorem a4v'(h:MI K (a.toList++b.toList) out.toList (a.toList.drop ia) (b.toList.drop ib))(e:ib=b.size):Good K (a.toList++b.toList) (out++a.extract ia++b.extract ib):=by have e1:b.toList.drop ib=[]:=List.drop_eq_nil_of_le (by simp;lia);unfold Good;rw[Z5,Z5,a6e',a6e',e1];rw[e1]at h;exact h.done
theorem a4w'(hl:∀y∈b.toList,K y<R K a (a.size-1))(h:MI K (a.toList++b.toList) out.toList (a.toList.drop ia) (b.toList.drop ib))(e:ia+1=a.size):Good K (a.toList++b.toList) (out++b.extract ib++a.extract ia):=by unfold Good;rw[Z5,Z5,a6e',a6e'];refine h.last λy hy z hz=>?_;obtain⟨j,h1,h2,e2⟩:=a7L' (K:=K) hz;have:=hl y (List.mem_of_mem_drop hy);rw[e2,show j=a.size-1 by lia];lia
theorem mi_a(h:MI K (a.toList++b.toList) out.toList (a.toList.drop ia) (b.toList.drop ib))(hi:ia<a.size)(hc:∀y∈b.toList.drop ib,K a[ia]≤K y):MI K (a.toList++b.toList) (out.push a[ia]).toList (a.toList.drop (ia+1)) (b.toList.drop ib):=by
 rw[Array.toList_push];refine MI.stepA (c:=[a[ia]]) ?_ λx hx y hy=>?_
 ·rw[a8H' hi]at h;exact h
 ·rw[ZN.mp hx];exact hc y hy
theorem mi_b(h:MI K (a.toList++b.toList) out.toList (a.toList.drop ia) (b.toList.drop ib))(hi:ib<b.size)(hc:∀y∈a.toList.drop ia,K b[ib]≤K y):MI K (a.toList++b.toList) (out.push b[ib]).toList (a.toList.drop ia) (b.toList.drop (ib+1)):=by
 rw[Array.toList_push];refine MI.stepB (c:=[b[ib]]) ?_ λx hx y hy=>?_
 ·rw[a8H' hi]at h;exact h
 ·rw[ZN.mp hx];exact hc y hy
theorem mi_as(h:MI K (a.toList++b.toList) out.toList (a.toList.drop ia) (b.toList.drop ib))(hc:∀i,i<k→∀y∈b.toList.drop ib,R K a (ia+i)≤K y):MI K (a.toList++b.toList) (out++a.extract ia (ia+k)).toList (a.toList.drop (ia+k)) (b.toList.drop ib):=by
 rw[Z5,b1g'];refine MI.stepA ?_ λx hx y hy=>?_
 ·rw[←a6P'];exact h
 ·obtain⟨j,h1,h2,e⟩:=a2o' (K:=K) hx;rw[e];exact hc j h1 y hy
theorem mi_bs(h:MI K (a.toList++b.toList) out.toList (a.toList.drop ia) (b.toList.drop ib))(hc:∀i,i<k→∀y∈a.toList.drop ia,R K b (ib+i)≤K y):MI K (a.toList++b.toList) (out++b.extract ib (ib+k)).toList (a.toList.drop ia) (b.toList.drop (ib+k)):=by
 rw[Z5,b1g'];refine MI.stepB ?_ λx hx y hy=>?_
 ·rw[←a6P'];exact h
 ·obtain⟨j,h1,h2,e⟩:=a2o' (K:=K) hx;rw[e];exact hc j h1 y hy
end
end Srt
end
section
set_option autoImplicit false
namespace Srt
abbrev GS7:=Option (Array Keyed)×Array Keyed×Nat×Nat×Nat×Nat×Nat
noncomputable def YG(K:Keyed→Nat)(a b:Array Keyed)(st:SortSt)(n:Nat)(c:GS7)(st':SortSt):Prop:=(∃g,st'=a0J' st g)∧∃out ja jb mg ac bc,c=(none,out,ja,jb,mg,ac,bc)∧ML K a b out ja jb∧n≤ja+jb
noncomputable def DG(K:Keyed→Nat)(a b:Array Keyed)(st:SortSt)(n:Nat)(c:GS7)(st':SortSt):Prop:=(∃g,st'=a0J' st g)∧((∃r c',c=(some r,c')∧Good K (a.toList++b.toList) r)∨∃out ja jb mg ac bc,c=(none,out,ja,jb,mg,ac,bc)∧ML K a b out ja jb∧n≤ja+jb)
def Post{γ:Type}(D Y:γ→SortSt→Prop):ForInStep γ→SortSt→Prop:=λr st'=>match r with
 | .done c=>D c st'
 | .yield c=>Y c st'
theorem sel0{X:Type _}{p:X→Prop}{c:Prop}{dc:Decidable c}{f:Nat→X}{o2:Nat}(key:∀o,p (f o)):∀o1,p (if c then f o1 else f o2):=λo1=>by split<;>exact key _
theorem sel1{X:Type _}{p:X→Prop}{c:Prop}{dc:Decidable c}{dc1:∀j,Decidable (c1 j)}{x1 f:Array Keyed→Nat→X}{C H:Array Keyed→Nat→Prop}(key:∀o j,C o j→p (f o j))(h0:¬c→C o2 j2)(h1:∀o j,H o j→c1 j→p (x1 o j))(h3:∀o j,H o j→¬c1 j→C o j):
  ∀j1 o1,H o1 j1→p (if c then(if c1 j1 then x1 o1 j1 else f o1 j1)else f o2 j2):=λj1 o1 h=>by
 by_cases hc:c
 ·rw[if_pos hc];by_cases hc1:c1 j1
  ·rw[if_pos hc1];exact h1 _ _ h hc1
  ·rw[if_neg hc1];exact key _ _ (h3 _ _ h hc1)
 ·rw[if_neg hc];exact key _ _ (h0 hc)
theorem sel2{X:Type _}{p:X→Prop}{c:Prop}{c2:Nat→Prop}{dc:Decidable c}{dc1:∀j,Decidable (c1 j)}{dc2:∀j,Decidable (c2 j)}{x1 x2 f:Array Keyed→Nat→X}{C H:Array Keyed→Nat→Prop}(key:∀o j,C o j→p (f o j))(h0:¬c→C o2 j2)(h1:∀o j,H o j→c1 j→p (x1 o j))(h2:∀o j,H o j→¬c1 j→¬c2 j)(h3:∀o j,H o j→¬c1 j→C o j):
  ∀j1 o1,H o1 j1→p (if c then(if c1 j1 then x1 o1 j1 else if c2 j1 then x2 o1 j1 else f o1 j1)else f o2 j2):=λj1 o1 h=>by
 by_cases hc:c
 ·rw[if_pos hc];by_cases hc1:c1 j1
  ·rw[if_pos hc1];exact h1 _ _ h hc1
  ·rw[if_neg hc1,if_neg (h2 _ _ h hc1)];exact key _ _ (h3 _ _ h hc1)
 ·rw[if_neg hc];exact key _ _ (h0 hc)
section
variable {st:SortSt}{P:Keyed→Prop}{K:Keyed→Nat}{a b:Array Keyed}
theorem a9y'(C:Cmp prog w A s κ P K)(hk:kindOf st=κ)(ha:∀x∈a.toList,P x)(hb:∀x∈b.toList,P x)(sa:LS K a.toList)(sb:LS K b.toList)(a1:1≤a.size)(b1:1≤b.size)
  (h0:R K b 0<R K a 0) (hl:∀y∈b.toList,K y<R K a (a.size-1)) {Q:Array Keyed→SortSt→Prop} (h:∀r g,Good K (a.toList++b.toList) r→Q r (a0J' st g)):wpS (model prog w) A E s (b5x' a b) Q st:=by
 have hB:∀{i:Nat} (hi:i<b.size),R K b i=K b[i]:=λhi=>R_of hi;have hA:∀{i:Nat} (hi:i<a.size),R K a i=K a[i]:=λhi=>R_of hi;have pA:∀{i:Nat} (hi:i<a.size),P a[i]:=λhi=>ha _ (by simp);have pB:∀{i:Nat} (hi:i<b.size),P b[i]:=λhi=>hb _ (by simp);have lA:∀{i j:Nat},i≤j→j<a.size→R K a i≤R K a j:=λh1 h2=>sa.mono h1 h2;have lB:∀{i j:Nat},i≤j→j<b.size→R K b i≤R K b j:=λh1 h2=>sb.mono h1 h2
 have dA:∀{i:Nat} {c:Nat},(∀j,i≤j→j<a.size→c≤R K a j)→∀y∈a.toList.drop i,c≤K y:=λhc y hy=>by obtain⟨j,h1,h2,e⟩:=a7L' (K:=K) hy;rw[e];exact hc j h1 h2
 have dB:∀{i:Nat} {c:Nat},(∀j,i≤j→j<b.size→c≤R K b j)→∀y∈b.toList.drop i,c≤K y:=λhc y hy=>by obtain⟨j,h1,h2,e⟩:=a7L' (K:=K) hy;rw[e];exact hc j h1 h2
 have hlb:∀{i:Nat} (hi:i<b.size),R K b i<R K a (a.size-1):=λhi=>by rw[hB hi];exact hl _ (by simp)
 have m0:MI K (a.toList++b.toList) #[b[0]].toList (a.toList.drop 0) (b.toList.drop 1):=by have m:MI K (a.toList++b.toList) (#[]:Array Keyed).toList (a.toList.drop 0) (b.toList.drop 0):=⟨.refl _,.nil,sa,sb,λx hx=>by simp at hx,λx hx=>by simp at hx⟩;exact mi_b m (by lia) (dA λj h1 h2=>by rw[←hB];have:=lA (i:=0) (j:=j) (by lia) h2;lia)
 have kg:∀g,kindOf (a0J' st g)=κ:=λg=>hk;have gg:∀g g',a0J' (a0J' st g) g'=a0J' st g':=λ_ _=>rfl;refine Zq (wpS_lift (wpAny_rule ⟨rfl,?_⟩));refine Zq (a0m' (by lia) ?_);dsimp only;by_cases e1:1=b.size
 ·rw[if_pos (by simpa using e1)];exact Zx (h _ (gallopOf st) (a4v' m0 e1))
 rw[if_neg (by simpa using e1)];by_cases e2:0+1=a.size
 ·rw[if_pos (by simpa using e2)];exact Zx (h _ (gallopOf st) (a4w' hl m0 e2))
 rw[if_neg (by simpa using e2)];refine Zq (wpS_get ?_)
 refine Zq (wpS_mono (Yg (I:=λx c st'=>(∃g,st'=a0J' st g)∧∃out ia ib mg,c=(none,out,ia,ib,mg)∧ML K a b out ia ib∧x≤ia+ib)
  (Q:=λc st'=>(∃g,st'=a0J' st g)∧∃r c',c=(some r,c')∧Good K (a.toList++b.toList) r) ?_ ?_ ⟨⟨gallopOf st,rfl⟩,_,_,_,_,rfl,⟨m0,by lia,by lia⟩,by lia⟩) ?_)
 case _=>
  rintro x c st' _ hx ⟨⟨g,rfl⟩,out,ia,ib,mg,rfl,m,hp⟩;dsimp only
  refine Zq (wpS_mono (Yg (I:=λy c st'=>st'=a0J' st g∧∃out ia' ib' ac bc,c=(none,out,ia',ib',ac,bc)∧ML K a b out ia' ib'∧ia+ib+y≤ia'+ib')
   (Q:=λc st'=>st'=a0J' st g∧((∃r c',c=(some r,c')∧Good K (a.toList++b.toList) r)∨∃out ia' ib' ac bc,c=(none,out,ia',ib',ac,bc)∧ML K a b out ia' ib'∧ia+ib+1≤ia'+ib')) ?_ ?_ ⟨rfl,_,_,_,_,_,rfl,m,by lia⟩) ?_)
  ·rintro y c st' _ hy ⟨rfl,out,ia',ib',ac,bc,rfl,m,hp'⟩;have la:=m.la;have lb:=m.lb;dsimp only;refine Zq (a0m' lb ?_);refine Zq (a0m' (by lia) ?_);refine Zq (b1f' C (pB lb) (pA (by lia)) (kg g) ?_);by_cases hw:K b[ib']<K a[ia']
   ·rw[ZR hw];refine Zq (a0m' lb ?_);have m':=mi_b m.mi lb (dA λj h1 h2=>by have:=lA h1 h2;rw[hA (show ia'<a.size by lia)]at this;lia);by_cases e:ib'+1=b.size
    ·rw[if_pos (by simpa using e)];exact Zx ⟨rfl,.inl ⟨_,_,rfl,a4v' m' e⟩⟩
    ·rw[if_neg (by simpa using e)];by_cases hg:bc+1≥mg
     ·rw[if_pos hg];exact Zx ⟨rfl,.inr ⟨_,_,_,_,_,rfl,⟨m',la,by lia⟩,by lia⟩⟩
     ·rw[if_neg hg];exact Zx ⟨rfl,_,_,_,_,_,rfl,⟨m',la,by lia⟩,by lia⟩
   ·rw[ZO hw];refine Zq (a0m' (by lia) ?_);have m':=mi_a m.mi (show ia'<a.size by lia) (dB λj h1 h2=>by have:=lB h1 h2;rw[hB lb]at this;lia);by_cases e:ia'+1+1=a.size
    ·rw[if_pos (by simpa using e)];exact Zx ⟨rfl,.inl ⟨_,_,rfl,a4w' hl m' e⟩⟩
    ·rw[if_neg (by simpa using e)];by_cases hg:ac+1≥mg
     ·rw[if_pos hg];exact Zx ⟨rfl,.inr ⟨_,_,_,_,_,rfl,⟨m',by lia,lb⟩,by lia⟩⟩
     ·rw[if_neg hg];exact Zx ⟨rfl,_,_,_,_,_,rfl,⟨m',by lia,lb⟩,by lia⟩
  ·rintro c st' ⟨rfl,out,ia',ib',ac,bc,rfl,m,hp'⟩;have la:=m.la;have lb:=m.lb;exfalso;lia
  ·rintro c st' ⟨rfl,⟨r,c',rfl,gd⟩| ⟨out,ia',ib',ac,bc,rfl,m,hp'⟩⟩
   ·exact Zx ⟨⟨g,rfl⟩,r,_,rfl,gd⟩
   ·refine Zq (wpS_lift (wpAny_rule ⟨rfl,?_⟩));refine Zq (wpS_mono (Yg (I:=λy=>YG K a b st (ia'+ib'+y)) (Q:=DG K a b st (ia'+ib')) ?_ ?_ ⟨⟨g,rfl⟩,_,_,_,_,_,_,rfl,m,by dsimp only;lia⟩) ?_)
    ·rintro y c st' _ hy ⟨⟨g1,rfl⟩,out,ja,jb,mg1,ac1,bc1,rfl,m,hq⟩;have la:=m.la;have lb:=m.lb;dsimp only;show wpS (model prog w) A E s _ (Post (DG K a b st (ia'+ib')) (YG K a b st (ia'+ib'+(y+1)))) (a0J' st g1);generalize mg1-1=q;revert q;refine sel0 (p:=λm=>wpS (model prog w) A E s m (Post (DG K a b st (ia'+ib')) (YG K a b st (ia'+ib'+(y+1)))) (a0J' st g1)) λmg2=>?_;refine Zq (wpS_modify (show wpS _ _ _ _ _ _ (a0J' st mg2)from ?_));refine Zq (a0m' lb ?_);refine Zq (a1H' C ha (pB lb) (kg mg2) (by lia) (by lia) (λi j h1 h2=>lA (by lia) (by lia)) λk k1 k2 k3=>?_);have t1:thr K false b[jb]=R K b jb+1:=by rw[hB lb];rfl
     rw[t1]at k2 k3
     have kn:k<a.size-ja:=by
      rcases Nat.lt_or_ge k (a.size-ja)with z|z
      ·exact z
      ·have h1:=k2 (a.size-ja-1) (by lia);have e:=hlb lb;rw[show ja+(a.size-ja-1)=a.size-1 by lia]at h1;lia
     have z0:∀j,ja+k≤j→j<a.size→R K b jb≤R K a j:=λj h1 h2=>by have:=k3 (j-ja) (by lia) (by lia);rw[show ja+(j-ja)=j by lia]at this;lia
     have mk:=mi_as m.mi (k:=k) λi hi y hy=>by have h1:=k2 i hi;have:=dB (i:=jb) (c:=R K b jb) (λj h1 h2=>lB h1 h2) y hy;lia
     dsimp only;have H1:MI K (a.toList++b.toList) (out++a.extract ja (ja+k)).toList (a.toList.drop (ja+k)) (b.toList.drop jb)∧ja≤ja+k∧ja+k<a.size∧∀j,ja+k≤j→j<a.size→R K b jb≤R K a j:=⟨mk,by lia,by lia,z0⟩;have c0:¬k>0→ML K a b out ja jb∧ia'+ib'+y≤ja+jb∧∀i,ja≤i→i<a.size→R K b jb≤R K a i:=λhk0=>⟨m,hq,λj h1 h2=>z0 j (by lia) h2⟩;revert H1;generalize ja+k=ja1;generalize out++a.extract ja ja1=out1;revert out1 ja1;refine sel2 (p:=λm=>wpS (model prog w) A E s m (Post (DG K a b st (ia'+ib')) (YG K a b st (ia'+ib'+(y+1)))) (a0J' st mg2)) (C:=λo j=>ML K a b o j jb∧ia'+ib'+y≤j+jb∧∀i,j≤i→i<a.size→R K b jb≤R K a i) (H:=λo j=>MI K (a.toList++b.toList) o.toList (a.toList.drop j) (b.toList.drop jb)∧ja≤j∧j<a.size∧∀i,j≤i→i<a.size→R K b jb≤R K a i) (λout ja hC=>?_) c0 (λo j hH e=>?_) (λo j hH e=>?_) (λo j hH e=>?_)
     rotate_left
     ·exact Zx ⟨⟨mg2,rfl⟩,.inl ⟨_,_,rfl,a4w' hl hH.1 (by simpa using e)⟩⟩
     ·have:=hH.2.2.1;simp;lia
     ·exact⟨⟨hH.1,by have:=hH.2.2.1;simp at e;lia,lb⟩,by have:=hH.2.1;lia,hH.2.2.2⟩
     clear mk z0 kn k2 k3 hq m;obtain⟨m,hq,hge⟩:=hC;have la:=m.la;refine Zq (a0m' lb ?_);have m':=mi_b m.mi lb (dA λj h1 h2=>by rw[←hB lb];exact hge j h1 h2);by_cases e:jb+1=b.size
     ·rw[if_pos (by simpa using e)];exact Zx ⟨⟨mg2,rfl⟩,.inl ⟨_,_,rfl,a4v' m' e⟩⟩
     rw[if_neg (by simpa using e)];refine Zq (a0m' (show ja<a.size by lia) ?_);refine Zq (a1H' C hb (pA (show ja<a.size by lia)) (kg mg2) (by lia) (by lia) (λi j h1 h2=>lB (by lia) (by lia)) λk' k1' k2' k3'=>?_);have t2:thr K true a[ja]=R K a ja:=by rw[hA (show ja<a.size by lia)];rfl
     rw[t2]at k2' k3'
     have z1:∀j,jb+1+k'≤j→j<b.size→R K a ja≤R K b j:=λj h1 h2=>by
      have:=k3' (j-(jb+1)) (by lia) (by lia)
      rwa [show jb+1+(j-(jb+1))=j by lia]at this
     have mk:=mi_bs m' (k:=k') λi hi y hy=>by have h1:=k2' i hi;have:=dA (i:=ja) (c:=R K a ja) (λj h1 h2=>lA h1 h2) y hy;lia
     dsimp only;have H2:MI K (a.toList++b.toList) (out.push b[jb]++b.extract (jb+1) (jb+1+k')).toList (a.toList.drop ja) (b.toList.drop (jb+1+k'))∧jb+1+k'≤b.size∧jb+1≤jb+1+k'∧∀j,jb+1+k'≤j→j<b.size→R K a ja≤R K b j:=⟨mk,by lia,by lia,z1⟩;have c0:¬k'>0→MI K (a.toList++b.toList) (out.push b[jb]).toList (a.toList.drop ja) (b.toList.drop (jb+1))∧jb+1<b.size∧jb+1≤jb+1∧∀i,jb+1≤i→i<b.size→R K a ja≤R K b i:=λhk0=>⟨m',by lia,by lia,λj h1 h2=>z1 j (by lia) h2⟩;revert H2;generalize jb+1+k'=jb1;generalize out.push b[jb]++b.extract (jb+1) jb1=out1;revert out1 jb1;refine sel1 (p:=λm=>wpS (model prog w) A E s m (Post (DG K a b st (ia'+ib')) (YG K a b st (ia'+ib'+(y+1)))) (a0J' st mg2)) (C:=λo j=>MI K (a.toList++b.toList) o.toList (a.toList.drop ja) (b.toList.drop j)∧j<b.size∧jb+1≤j∧∀i,j≤i→i<b.size→R K a ja≤R K b i) (H:=λo j=>MI K (a.toList++b.toList) o.toList (a.toList.drop ja) (b.toList.drop j)∧j≤b.size∧jb+1≤j∧∀i,j≤i→i<b.size→R K a ja≤R K b i) (λout jb' hC=>?_) c0 (λo j hH e'=>?_) (λo j hH e'=>?_)
     rotate_left
     ·exact Zx ⟨⟨mg2,rfl⟩,.inl ⟨_,_,rfl,a4v' hH.1 (by simpa using e')⟩⟩
     ·exact⟨hH.1,by have:=hH.2.1;simp at e';lia,hH.2.2.1,hH.2.2.2⟩
     obtain⟨m2,hb',hq',hge'⟩:=hC;refine Zq (a0m' (show ja<a.size by lia) ?_);have m3:=mi_a m2 (show ja<a.size by lia) (dB λj h1 h2=>by rw[←hA (show ja<a.size by lia)];exact hge' j h1 h2);by_cases e:ja+1+1=a.size
     ·rw[if_pos (by simpa using e)];exact Zx ⟨⟨mg2,rfl⟩,.inl ⟨_,_,rfl,a4w' hl m3 e⟩⟩
     rw[if_neg (by simpa using e)];by_cases hg:(decide (k<7)&&decide (k'<7))=true
     ·rw[if_pos hg];exact Zx ⟨⟨mg2,rfl⟩,.inr ⟨_,_,_,_,_,_,rfl,⟨m3,by lia,hb'⟩,by lia⟩⟩
     ·rw[if_neg hg];exact Zx ⟨⟨mg2,rfl⟩,_,_,_,_,_,_,rfl,⟨m3,by lia,hb'⟩,by lia⟩
    ·rintro c st' ⟨⟨g1,rfl⟩,out,ja,jb,mg1,ac1,bc1,rfl,m,hq⟩;have la:=m.la;have lb:=m.lb;exfalso;lia
    ·rintro c st' ⟨⟨g1,rfl⟩,⟨r,c',rfl,gd⟩| ⟨out,ja,jb,mg1,ac1,bc1,rfl,m,hq⟩⟩
     ·exact Zx ⟨⟨g1,rfl⟩,r,_,rfl,gd⟩
     ·refine Zq (wpS_modify (?_:wpS _ _ _ _ _ _ (a0J' st (mg1+1))));exact Zx ⟨⟨_,rfl⟩,_,_,_,_,rfl,m,by dsimp only;lia⟩
 case _=>rintro c st' ⟨⟨g,rfl⟩,out,ia,ib,mg,rfl,m,hp⟩;have la:=m.la;have lb:=m.lb;exfalso;lia
 case _=>rintro c st' ⟨⟨g,rfl⟩,r,c',rfl,gd⟩;exact Zx (h r g gd)
end
end Srt
end
section
set_option autoImplicit false
namespace Srt
section
variable {K:Keyed→Nat}
structure MH (K:Keyed→Nat)(tot ra rb o:List Keyed):Prop where
 perm:(ra++rb++o).Perm tot
 sa:LS K ra
 sb:LS K rb
 so:LS K o
 ao:∀x∈ra,∀y∈o,K x≤K y
 bo:∀x∈rb,∀y∈o,K x≤K y
variable {tot o ra rb c:List Keyed}
theorem MH.stepA(h:MH K tot (ra++c) rb o)(hc:∀x∈rb,∀y∈c,K x≤K y):MH K tot ra rb (c++o):=by
 have sa:=ZH.mp h.sa;refine⟨?_,sa.1,h.sb,ZH.mpr ⟨sa.2.1,h.so,λx hx y hy=>h.ao x (Zz _ hx) y hy⟩,λx hx y hy=>?_,λx hx y hy=>?_⟩
 ·refine List.Perm.trans ?_ h.perm;rw[Zu,Zu,Zu];refine List.Perm.append_left _ ?_;rw[←Zu,←Zu];exact List.Perm.append_right _ List.perm_append_comm
 ·rcases Zs.mp hy with z|z
  ·exact sa.2.2 x hx y z
  ·exact h.ao x (ZG _ hx) y z
 ·rcases Zs.mp hy with z|z
  ·exact hc x hx y z
  ·exact h.bo x hx y z
theorem MH.stepB(h:MH K tot ra (rb++c) o)(hc:∀x∈ra,∀y∈c,K x≤K y):MH K tot ra rb (c++o):=by
 have sb:=ZH.mp h.sb;refine⟨?_,h.sa,sb.1,ZH.mpr ⟨sb.2.1,h.so,λx hx y hy=>h.bo x (Zz _ hx) y hy⟩,λx hx y hy=>?_,λx hx y hy=>?_⟩
 ·have:=h.perm;rw[←Zu,Zu (ra++rb)]at this;exact this
 ·rcases Zs.mp hy with z|z
  ·exact hc x hx y z
  ·exact h.ao x hx y z
 ·rcases Zs.mp hy with z|z
  ·exact sb.2.2 x hx y z
  ·exact h.bo x (ZG _ hx) y z
theorem a8I'{a:Array Keyed}{i:Nat}(h:i<a.size):a.toList.take (i+1)=a.toList.take i++[a[i]]:=by rw[List.take_succ,Ze (by simpa using h)];rfl
theorem a8J'{a:Array Keyed}{i j:Nat}(h:i≤j):a.toList.take j=a.toList.take i++(a.extract i j).toList:=by rw[Array.toList_extract];unfold List.extract;rw[←List.take_add,show i+(j-i)=j by lia]
theorem a6f'{a:Array Keyed}{j:Nat}:(a.extract 0 j).toList=a.toList.take j:=by rw[Array.toList_extract];unfold List.extract;simp
theorem a7M'{a:Array Keyed}{i:Nat}{x:Keyed}(h:x∈a.toList.take i):∃j,j<i∧j<a.size∧K x=R K a j:=by obtain⟨j,hj,rfl⟩:=ZX.mp h;simp only[Yf,Zt]at hj;refine⟨j,by lia,by lia,?_⟩;rw[R_of (show j<a.size by lia)];simp
theorem b1h'{a:Array Keyed}{i j:Nat}{x:Keyed}(h:x∈(a.extract i j).toList):∃n,i≤n∧n<j∧n<a.size∧K x=R K a n:=by rw[Array.toList_extract]at h;unfold List.extract at h;obtain⟨n,h1,h2,e⟩:=a2o' (K:=K) h;exact⟨i+n,by lia,by lia,h2,e⟩
end
section
variable {st:SortSt}{P:Keyed→Prop}{K:Keyed→Nat}
abbrev MT(K:Keyed→Nat)(a b out:Array Keyed)(na nb:Nat):Prop:=MH K (a.toList++b.toList) (a.toList.take na) (b.toList.take nb) out.toList.reverse
structure MR (K:Keyed→Nat)(a b out:Array Keyed)(na nb:Nat):Prop where
 mt:MT K a b out na nb
 la:1≤na
 lb:2≤nb
 za:na≤a.size
 zb:nb≤b.size
variable {a b out:Array Keyed}{na nb:Nat}
theorem a3p'(h:MT K a b out na nb)(e:na=0):Good K (a.toList++b.toList) (a.extract 0 na++b.extract 0 nb++out.reverse):=by unfold Good;rw[Z5,Z5,a6f',a6f',Array.toList_reverse];refine⟨h.perm,?_⟩;subst e;rw[List.take_zero,Z9];exact ZH.mpr ⟨h.sb,h.so,h.bo⟩
theorem a3q'(h0:∀y∈a.toList,R K b 0≤K y)(h:MT K a b out na nb)(e:nb=1):Good K (a.toList++b.toList) (b.extract 0 nb++a.extract 0 na++out.reverse):=by
 unfold Good;rw[Z5,Z5,a6f',a6f',Array.toList_reverse];refine⟨List.Perm.trans (List.Perm.append_right _ List.perm_append_comm) h.perm,ZH.mpr ⟨ZH.mpr ⟨h.sb,h.sa,λx hx y hy=>?_⟩,h.so,λx hx y hy=>?_⟩⟩
 ·obtain⟨j,h1,h2,e2⟩:=a7M' (K:=K) hx;rw[e2,show j=0 by lia];exact h0 y (List.mem_of_mem_take hy)
 ·rcases Zs.mp hx with z|z
  ·exact h.bo x z y hy
  ·exact h.ao x z y hy
theorem mt_a(h:MT K a b out (na+1) nb)(hi:na<a.size)(hc:∀x∈b.toList.take nb,K x≤R K a na):MT K a b (out.push a[na]) na nb:=by unfold MT at h⊢;rw[Array.toList_push,List.reverse_append];rw[a8I' hi]at h;exact h.stepA λx hx y hy=>by rw[ZN.mp hy,←R_of (K:=K) hi];exact hc x hx
theorem mt_b(h:MT K a b out na (nb+1))(hi:nb<b.size)(hc:∀x∈a.toList.take na,K x≤R K b nb):MT K a b (out.push b[nb]) na nb:=by unfold MT at h⊢;rw[Array.toList_push,List.reverse_append];rw[a8I' hi]at h;exact h.stepB λx hx y hy=>by rw[ZN.mp hy,←R_of (K:=K) hi];exact hc x hx
theorem mt_as{t:Nat}(h:MT K a b out na nb)(ht:t≤na)(hc:∀i,t≤i→i<na→i<a.size→∀x∈b.toList.take nb,K x≤R K a i):MT K a b (out++(a.extract t na).reverse) t nb:=by unfold MT at h⊢;rw[Z5,Array.toList_reverse,List.reverse_append,List.reverse_reverse];rw[a8J' ht]at h;exact h.stepA λx hx y hy=>by obtain⟨n,h1,h2,h3,e⟩:=b1h' (K:=K) hy;rw[e];exact hc n h1 h2 h3 x hx
theorem mt_bs{t:Nat}(h:MT K a b out na nb)(ht:t≤nb)(hc:∀i,t≤i→i<nb→i<b.size→∀x∈a.toList.take na,K x≤R K b i):MT K a b (out++(b.extract t nb).reverse) na t:=by unfold MT at h⊢;rw[Z5,Array.toList_reverse,List.reverse_append,List.reverse_reverse];rw[a8J' ht]at h;exact h.stepB λx hx y hy=>by obtain⟨n,h1,h2,h3,e⟩:=b1h' (K:=K) hy;rw[e];exact hc n h1 h2 h3 x hx
abbrev GH7:=Option (Array Keyed)×Nat×Nat×Array Keyed×Nat×Nat×Nat
noncomputable def YH(K:Keyed→Nat)(a b:Array Keyed)(st:SortSt)(n:Nat)(c:GH7)(st':SortSt):Prop:=(∃g,st'=a0J' st g)∧∃out ja jb mg ac bc,c=(none,ja,jb,out,mg,ac,bc)∧MR K a b out ja jb∧n+ja+jb≤a.size+b.size
noncomputable def DH(K:Keyed→Nat)(a b:Array Keyed)(st:SortSt)(n:Nat)(c:GH7)(st':SortSt):Prop:=(∃g,st'=a0J' st g)∧((∃r c',c=(some r,c')∧Good K (a.toList++b.toList) r)∨∃out ja jb mg ac bc,c=(none,ja,jb,out,mg,ac,bc)∧MR K a b out ja jb∧n+ja+jb≤a.size+b.size)
theorem a9z'(C:Cmp prog w A s κ P K)(hk:kindOf st=κ)(ha:∀x∈a.toList,P x)(hb:∀x∈b.toList,P x)(sa:LS K a.toList)(sb:LS K b.toList)(a1:1≤a.size)(b1:1≤b.size)
  (h0:R K b 0<R K a 0) (hl:∀y∈b.toList,K y<R K a (a.size-1)) {Q:Array Keyed→SortSt→Prop} (h:∀r g,Good K (a.toList++b.toList) r→Q r (a0J' st g)):wpS (model prog w) A E s (b5y' a b) Q st:=by
 have hB:∀{i:Nat} (hi:i<b.size),R K b i=K b[i]:=λhi=>R_of hi;have hA:∀{i:Nat} (hi:i<a.size),R K a i=K a[i]:=λhi=>R_of hi;have pA:∀{i:Nat} (hi:i<a.size),P a[i]:=λhi=>ha _ (by simp);have pB:∀{i:Nat} (hi:i<b.size),P b[i]:=λhi=>hb _ (by simp);have lA:∀{i j:Nat},i≤j→j<a.size→R K a i≤R K a j:=λh1 h2=>sa.mono h1 h2;have lB:∀{i j:Nat},i≤j→j<b.size→R K b i≤R K b j:=λh1 h2=>sb.mono h1 h2
 have dA:∀{i:Nat} {c:Nat},(∀j,j<i→j<a.size→R K a j≤c)→∀y∈a.toList.take i,K y≤c:=λhc y hy=>by obtain⟨j,h1,h2,e⟩:=a7M' (K:=K) hy;rw[e];exact hc j h1 h2
 have dB:∀{i:Nat} {c:Nat},(∀j,j<i→j<b.size→R K b j≤c)→∀y∈b.toList.take i,K y≤c:=λhc y hy=>by obtain⟨j,h1,h2,e⟩:=a7M' (K:=K) hy;rw[e];exact hc j h1 h2
 have hf:∀y∈a.toList,R K b 0≤K y:=λy hy=>by
  obtain⟨j,hj,rfl⟩:=ZX.mp hy;have hj':j<a.size:=by simpa using hj
  have:=lA (i:=0) (j:=j) (by lia) hj';rw[hA hj']at this;have e:a.toList[j]=a[j]:=by simp
  rw[e];lia
 obtain⟨na0,hna⟩:∃n,a.size=n+1:=⟨a.size-1,by lia⟩;have ea:a.size-1=na0:=by lia
 have m0:MT K a b #[a[na0]] na0 b.size:=by
  have m:MT K a b #[] (na0+1) b.size:=by
   refine⟨?_,?_,?_,.nil,λ_ _ y hy=>by simp at hy,λ_ _ y hy=>by simp at hy⟩
   ·rw[List.take_of_length_le (by simp;lia),List.take_of_length_le (by simp)];simp
   ·rw[List.take_of_length_le (by simp;lia)];exact sa
   ·rw[List.take_of_length_le (by simp)];exact sb
  exact mt_a m (by lia) (dB λj h1 h2=>by have:=hl b[j] (by simp);rw[hB h2];rw[ea]at this;lia)
 have kg:∀g,kindOf (a0J' st g)=κ:=λg=>hk;refine Zq (wpS_lift (wpAny_rule ⟨rfl,?_⟩));refine Zq (a0m' (by lia) ?_);simp only[ea];by_cases e1:na0=0
 ·rw[if_pos (by simpa using e1)];exact Zx (h _ (gallopOf st) (a3p' m0 e1))
 rw[if_neg (by simpa using e1)];by_cases e2:b.size=1
 ·rw[if_pos (by simpa using e2)];exact Zx (h _ (gallopOf st) (a3q' hf m0 e2))
 rw[if_neg (by simpa using e2)];refine Zq (wpS_get ?_)
 refine Zq (wpS_mono (Yg (I:=λx c st'=>(∃g,st'=a0J' st g)∧∃out na nb mg,c=(none,na,nb,out,mg)∧MR K a b out na nb∧x+na+nb≤a.size+b.size)
  (Q:=λc st'=>(∃g,st'=a0J' st g)∧∃r c',c=(some r,c')∧Good K (a.toList++b.toList) r) ?_ ?_ ⟨⟨gallopOf st,rfl⟩, #[a[na0]],na0,b.size,_,rfl,⟨m0,by lia,by lia,by lia,Zi _⟩,(by lia:0+na0+b.size≤a.size+b.size)⟩) ?_)
 case _=>
  rintro x c st' _ hx ⟨⟨g,rfl⟩,out,na,nb,mg,rfl,m,hp⟩;dsimp only
  refine Zq (wpS_mono (Yg (I:=λy c st'=>st'=a0J' st g∧∃out na' nb' ac bc,c=(none,na',nb',out,ac,bc)∧MR K a b out na' nb'∧y+na'+nb'≤na+nb)
   (Q:=λc st'=>st'=a0J' st g∧((∃r c',c=(some r,c')∧Good K (a.toList++b.toList) r)∨∃out na' nb' ac bc,c=(none,na',nb',out,ac,bc)∧MR K a b out na' nb'∧1+na'+nb'≤na+nb)) ?_ ?_ ⟨rfl,_,_,_,_,_,rfl,m,by lia⟩) ?_)
  ·rintro y c st' _ hy ⟨rfl,out,na',nb',ac,bc,rfl,m,hp'⟩;obtain⟨i,rfl⟩:∃i,na'=i+1:=⟨na'-1,by have:=m.la;lia⟩;obtain⟨j,rfl⟩:∃j,nb'=j+1:=⟨nb'-1,by have:=m.lb;lia⟩;have lb:=m.lb;have za:=m.za;have zb:=m.zb;dsimp only;simp only[Nat.add_sub_cancel];refine Zq (a0m' (show j<b.size by lia) ?_);refine Zq (a0m' (show i<a.size by lia) ?_);refine Zq (b1f' C (pB (by lia)) (pA (by lia)) (kg g) ?_);rw[←hA (show i<a.size by lia),←hB (show j<b.size by lia)];by_cases hw:R K b j<R K a i
   ·rw[ZR hw];refine Zq (a0m' (show i<a.size by lia) ?_);have m':=mt_a m.mt (by lia) (dB λn h1 h2=>by have:=lB (show n≤j by lia) (by lia);lia);by_cases e:i=0
    ·rw[if_pos (by simpa using e)];exact Zx ⟨rfl,.inl ⟨_,_,rfl,a3p' m' e⟩⟩
    ·rw[if_neg (by simpa using e)];by_cases hg:ac+1≥mg
     ·rw[if_pos hg];exact Zx ⟨rfl,.inr ⟨_,_,_,_,_,rfl,⟨m',by lia,lb,by lia,zb⟩,by lia⟩⟩
     ·rw[if_neg hg];exact Zx ⟨rfl,_,_,_,_,_,rfl,⟨m',by lia,lb,by lia,zb⟩,by lia⟩
   ·rw[ZO hw];refine Zq (a0m' (show j<b.size by lia) ?_);have m':=mt_b m.mt (by lia) (dA λn h1 h2=>by have:=lA (show n≤i by lia) (by lia);lia);by_cases e:j=1
    ·rw[if_pos (by simpa using e)];exact Zx ⟨rfl,.inl ⟨_,_,rfl,a3q' hf m' e⟩⟩
    ·rw[if_neg (by simpa using e)];by_cases hg:bc+1≥mg
     ·rw[if_pos hg];exact Zx ⟨rfl,.inr ⟨_,_,_,_,_,rfl,⟨m',by lia,by lia,za,by lia⟩,by lia⟩⟩
     ·rw[if_neg hg];exact Zx ⟨rfl,_,_,_,_,_,rfl,⟨m',by lia,by lia,za,by lia⟩,by lia⟩
  ·rintro c st' ⟨rfl,out,na',nb',ac,bc,rfl,m,hp'⟩;have la:=m.la;have lb:=m.lb;exfalso;lia
  ·rintro c st' ⟨rfl,⟨r,c',rfl,gd⟩| ⟨out,na',nb',ac,bc,rfl,m,hp'⟩⟩
   ·exact Zx ⟨⟨g,rfl⟩,r,_,rfl,gd⟩
   ·refine Zq (wpS_lift (wpAny_rule ⟨rfl,?_⟩));refine Zq (wpS_mono (Yg (I:=λy=>YH K a b st (x+1+y)) (Q:=DH K a b st (x+1)) ?_ ?_ ⟨⟨g,rfl⟩,_,_,_,_,_,_,rfl,m,by dsimp only;lia⟩) ?_)
    ·rintro y c st' _ hy ⟨⟨g1,rfl⟩,out,ja,jb,mg1,ac1,bc1,rfl,m,hq⟩;have la:=m.la;have za:=m.za;have zb:=m.zb;obtain⟨j,rfl⟩:∃j,jb=j+1:=⟨jb-1,by have:=m.lb;lia⟩;have lb:=m.lb;dsimp only;simp only[Nat.add_sub_cancel];show wpS (model prog w) A E s _ (Post (DH K a b st (x+1)) (YH K a b st (x+1+(y+1)))) (a0J' st g1);generalize mg1-1=q;revert q;refine sel0 (p:=λm=>wpS (model prog w) A E s m (Post (DH K a b st (x+1)) (YH K a b st (x+1+(y+1)))) (a0J' st g1)) λmg2=>?_;refine Zq (wpS_modify (show wpS _ _ _ _ _ _ (a0J' st mg2)from ?_));refine Zq (a0m' (show j<b.size by lia) ?_);refine Zq (a1H' C ha (pB (show j<b.size by lia)) (kg mg2) (by lia) (by lia) (λi j h1 h2=>lA (by lia) (by lia)) λt k1 k2 k3=>?_);simp only[Nat.zero_add]at k2 k3;have t1:thr K false b[j]=R K b j+1:=by rw[hB (show j<b.size by lia)];rfl
     rw[t1]at k2 k3;have mk:=mt_as m.mt k1 λi h1 h2 h3=>dB λn h4 h5=>by have:=k3 i h1 h2;have:=lB (show n≤j by lia) (by lia);lia
     dsimp only;have H1:MT K a b (out++(a.extract t ja).reverse) t (j+1)∧t≤ja∧∀i,i<t→R K a i≤R K b j:=⟨mk,k1,λi hi=>by have:=k2 i hi;lia⟩;generalize hkk:ja-t=k;have c0:¬k>0→MR K a b out ja (j+1)∧x+1+y+ja+(j+1)≤a.size+b.size∧∀i,i<ja→R K a i≤R K b j:=λhk0=>⟨m,hq,λi hi=>by have:=k2 i (by lia);lia⟩;revert H1;generalize out++(a.extract t ja).reverse=out1;generalize t=na1;revert out1;revert na1;refine sel1 (p:=λm=>wpS (model prog w) A E s m (Post (DH K a b st (x+1)) (YH K a b st (x+1+(y+1)))) (a0J' st mg2)) (C:=λo i=>MR K a b o i (j+1)∧x+1+y+i+(j+1)≤a.size+b.size∧∀n,n<i→R K a n≤R K b j) (H:=λo i=>MT K a b o i (j+1)∧i≤ja∧∀n,n<i→R K a n≤R K b j) (λout ja hC=>?_) c0 (λo i hH e=>?_) (λo i hH e=>?_)
     rotate_left
     ·exact Zx ⟨⟨mg2,rfl⟩,.inl ⟨_,_,rfl,a3p' hH.1 (by simpa using e)⟩⟩
     ·exact⟨⟨hH.1,by simp at e;lia,lb,by have:=hH.2.1;lia,zb⟩,by have:=hH.2.1;lia,hH.2.2⟩
     clear mk k1 k2 k3 hq m hkk c0 la za;obtain⟨m,hq,hge⟩:=hC;obtain⟨i,rfl⟩:∃i,ja=i+1:=⟨ja-1,by have:=m.la;lia⟩;have za:=m.za;simp only[Nat.add_sub_cancel];refine Zq (a0m' (show j<b.size by lia) ?_);have m':=mt_b m.mt (by lia) (dA λn h1 h2=>hge n h1);by_cases e:j=1
     ·rw[if_pos (by simpa using e)];exact Zx ⟨⟨mg2,rfl⟩,.inl ⟨_,_,rfl,a3q' hf m' e⟩⟩
     rw[if_neg (by simpa using e)];refine Zq (a0m' (show i<a.size by lia) ?_);refine Zq (a1H' C hb (pA (show i<a.size by lia)) (kg mg2) (by lia) (by lia) (λi j h1 h2=>lB (by lia) (by lia)) λt' k1' k2' k3'=>?_);simp only[Nat.zero_add]at k2' k3';have t2:thr K true a[i]=R K a i:=by rw[hA (show i<a.size by lia)];rfl
     rw[t2]at k2' k3'
     have t0:1≤t':=by
      rcases Nat.eq_zero_or_pos t' with z|z
      ·have h1:=k3' 0 (by lia) (by lia);have h2:=lA (show 0≤i by lia) (by lia);lia
      ·exact z
     have mk:=mt_bs m' k1' λn h1 h2 h3=>dA λl h4 h5=>by have:=k3' n h1 h2;have:=lA (show l≤i by lia) (by lia);lia
     dsimp only;have H2:MT K a b (out.push b[j]++(b.extract t' j).reverse) (i+1) t'∧1≤t'∧t'≤j∧∀n,n<t'→R K b n≤R K a i:=⟨mk,t0,k1',λn hn=>by have:=k2' n hn;lia⟩;generalize hkk':j-t'=k';have c0:¬k'>0→MT K a b (out.push b[j]) (i+1) j∧2≤j∧j≤j∧∀n,n<j→R K b n≤R K a i:=λhk0=>⟨m',by lia,Zi _,λn hn=>by have:=k2' n (by lia);lia⟩;revert H2;generalize out.push b[j]++(b.extract t' j).reverse=out1;generalize t'=nb1;revert out1;revert nb1;refine sel2 (p:=λm=>wpS (model prog w) A E s m (Post (DH K a b st (x+1)) (YH K a b st (x+1+(y+1)))) (a0J' st mg2)) (C:=λo n=>MT K a b o (i+1) n∧2≤n∧n≤j∧∀l,l<n→R K b l≤R K a i) (H:=λo n=>MT K a b o (i+1) n∧1≤n∧n≤j∧∀l,l<n→R K b l≤R K a i) (λout jb' hC=>?_) c0 (λo n hH e'=>?_) (λo n hH e'=>?_) (λo n hH e'=>?_)
     rotate_left
     ·exact Zx ⟨⟨mg2,rfl⟩,.inl ⟨_,_,rfl,a3q' hf hH.1 (by simpa using e')⟩⟩
     ·have:=hH.2.1;simp;lia
     ·exact⟨hH.1,by have:=hH.2.1;simp at e';lia,hH.2.2.1,hH.2.2.2⟩
     obtain⟨m2,hb',hq',hge'⟩:=hC;refine Zq (a0m' (show i<a.size by lia) ?_);have m3:=mt_a m2 (show i<a.size by lia) (dB λn h1 h2=>hge' n h1);by_cases e:i=0
     ·rw[if_pos (by simpa using e)];exact Zx ⟨⟨mg2,rfl⟩,.inl ⟨_,_,rfl,a3p' m3 e⟩⟩
     rw[if_neg (by simpa using e)];by_cases hg:(decide (k<7)&&decide (k'<7))=true
     ·rw[if_pos hg];exact Zx ⟨⟨mg2,rfl⟩,.inr ⟨_,_,_,_,_,_,rfl,⟨m3,by lia,hb',by lia,by lia⟩,by lia⟩⟩
     ·rw[if_neg hg];exact Zx ⟨⟨mg2,rfl⟩,_,_,_,_,_,_,rfl,⟨m3,by lia,hb',by lia,by lia⟩,by lia⟩
    ·rintro c st' ⟨⟨g1,rfl⟩,out,ja,jb,mg1,ac1,bc1,rfl,m,hq⟩;have la:=m.la;have lb:=m.lb;exfalso;lia
    ·rintro c st' ⟨⟨g1,rfl⟩,⟨r,c',rfl,gd⟩| ⟨out,ja,jb,mg1,ac1,bc1,rfl,m,hq⟩⟩
     ·exact Zx ⟨⟨g1,rfl⟩,r,_,rfl,gd⟩
     ·refine Zq (wpS_modify (?_:wpS _ _ _ _ _ _ (a0J' st (mg1+1))));exact Zx ⟨⟨_,rfl⟩,_,_,_,_,rfl,m,by dsimp only;lia⟩
 case _=>rintro c st' ⟨⟨g,rfl⟩,out,ia,ib,mg,rfl,m,hp⟩;have la:=m.la;have lb:=m.lb;exfalso;lia
 case _=>rintro c st' ⟨⟨g,rfl⟩,r,c',rfl,gd⟩;exact Zx (h r g gd)
end
end Srt
end
section
set_option autoImplicit false
namespace Srt
section
variable {st:SortSt}{K:Keyed→Nat}{xs ys:Array Keyed}
theorem a1w'{i j:Nat}(h:xs[i]?=ys[j]?):R K xs i=R K ys j:=by
 have e:∀(zs:Array Keyed) n,zs.getD n dK=(zs[n]?).getD dK:=λzs n=>by simp
 unfold R;rw[e,e,h]
def SR(K:Keyed→Nat)(xs:Array Keyed)(lo hi:Nat):Prop:=∀i j,lo≤i→i≤j→j<hi→R K xs i≤R K xs j
def Fr(lo hi:Nat)(xs ys:Array Keyed):Prop:=∀i,i<lo∨hi≤i→ys[i]?=xs[i]?
theorem Fr.refl{lo hi:Nat}:Fr lo hi xs xs:=λ_ _=>rfl
theorem Fr.trans{lo hi:Nat}{zs:Array Keyed}(h:Fr lo hi xs ys)(k:Fr lo hi ys zs):Fr lo hi xs zs:=λi hi=>(k i hi).trans (h i hi)
structure SB (a0:Array Keyed)(κ:SortKind)(st:SortSt):Prop where
 perm:(arrOf st).Perm a0
 failed:failedOf st=none
 kind:kindOf st=κ
theorem SB.size(h:SB a0 κ st):(arrOf st).size=a0.size:=h.perm.size_eq
theorem SB.arr(h:SB a0 κ st)(hp:ys.Perm (arrOf st)):SB a0 κ (setArr st ys):=⟨hp.trans h.perm,h.failed,h.kind⟩
theorem SB.all(h:SB a0 κ st):∀x∈(arrOf st).toList,x∈a0.toList:=λx hx=>(Array.perm_iff_toList_perm.mp h.perm).mem_iff.mp hx
theorem wpS_T{c:Prop}{d:Decidable c}{x y:StateT SortSt Sem α}{Q:α→SortSt→Prop}(h:c)(k:wpS (model prog w) A E s x Q st):wpS (model prog w) A E s (@ite _ c d x y) Q st:=by rw[if_pos h];exact k
theorem wpS_F{c:Prop}{d:Decidable c}{x y:StateT SortSt Sem α}{Q:α→SortSt→Prop}(h:¬c)(k:wpS (model prog w) A E s y Q st):wpS (model prog w) A E s (@ite _ c d x y) Q st:=by rw[if_neg h];exact k
theorem selD{c:Prop}{d:Decidable c}{T m:StateT SortSt Sem α}{Q:α→SortSt→Prop}{C:Array Keyed→Prop}(key:∀ys,C ys→wpS (model prog w) A E s m Q (setArr st ys))(h1:c→(∀ys,C ys→wpS (model prog w) A E s m Q (setArr st ys))→wpS (model prog w) A E s T Q st)(h2:¬c→C (arrOf st)):wpS (model prog w) A E s (@ite _ c d T m) Q st:=by
 by_cases h:c
 ·rw[if_pos h];exact h1 h key
 ·rw[if_neg h];exact key _ (h2 h)
theorem a4x'(C:Cmp prog w A s κ (· ∈a0.toList) K)(hB:SB a0 κ st){i j:Nat}(hi:i<a0.size)(hj:j<a0.size){Q:Option Bool→SortSt→Prop}(h1:R K (arrOf st) i<R K (arrOf st) j→Q (some true) st)(h2:¬R K (arrOf st) i<R K (arrOf st) j→Q (some false) st):
  wpS (model prog w) A E s (ltAt' i j) Q st:=by
 rw[←hB.size]at hi hj;rw[ltAt'_eq];refine Zq (wpS_get ?_);refine Zq (a0m' hi (Zq (a0m' hj ?_)));refine b1f' C (hB.all _ (by simp)) (hB.all _ (by simp)) hB.kind ?_;rw[R_of hi,R_of hj]at h1 h2;by_cases h:K (arrOf st)[i]<K (arrOf st)[j]
 ·rw[ZR h];exact h1 h
 ·rw[ZO h];exact h2 h
theorem a2X'{i j:Nat}(hj:j≤xs.size)(k:Nat):R K (mirror xs i j ((j-i)/2)) k=if i≤k∧k<j then R K xs (i+j-1-k)else R K xs k:=by
 have h:=getElem?_mirror_all (xs:=xs) (i:=i) hj k;by_cases c:i≤k∧k<j
 ·rw[if_pos c]at h⊢;exact a1w' h
 ·rw[if_neg c]at h⊢;exact a1w' h
theorem a4y'{lo hi i j:Nat}(hj:j≤xs.size)(h1:lo≤i)(h2:j≤hi):Fr lo hi xs (mirror xs i j ((j-i)/2)):=λk hk=>by rw[getElem?_mirror_all hj,if_neg (by lia)]
theorem a8K'{i j:Nat}{Q:Unit→SortSt→Prop}(h:Q () (setArr st (mirror (arrOf st) i j ((j-i)/2)))):wpS (model prog w) A E s (reverseSlice' i j) Q st:=by rw[reverseSlice'_eq];exact wpS_modify h
theorem b4a'{lo a:Nat}{f:Nat→AscSt→StateT SortSt Sem (ForInStep AscSt)}(hf:∀x n,1≤n→n<nrem→∀Q':ForInStep AscSt→SortSt→Prop,(R K (arrOf st) (lo+n)<R K (arrOf st) (lo+n-1)→Q' (.done (none,n)) st)→(¬R K (arrOf st) (lo+n)<R K (arrOf st) (lo+n-1)→Q' (.yield (none,n+1)) st)→wpS (model prog w) A E s (f x (none,n)) Q' st)
  (h1:1≤a) (h2:a≤nrem) (hs:SR K (arrOf st) lo (lo+a)) {Q:AscSt→SortSt→Prop} (h:∀n,a≤n→n≤nrem→SR K (arrOf st) lo (lo+n)→(n=nrem∨R K (arrOf st) (lo+n)<R K (arrOf st) (lo+n-1))→Q (none,n) st):
  wpS (model prog w) A E s (forIn [a:nrem] (none,a) f) Q st:=by
 refine Yg (I:=λx c st'=>st'=st∧c=(none,x)∧x≤nrem∧SR K (arrOf st) lo (lo+x)) ?_ ?_ ⟨rfl,rfl,h2,hs⟩
 ·rintro x c st' hx hx2 ⟨rfl,rfl,_,hs⟩;refine hf x x (by lia) hx2 _ (λhw=>h x hx (by lia) hs (.inr hw)) (λhw=>⟨rfl,rfl,by lia,λi j k1 k2 k3=>?_⟩);by_cases e:j=lo+x
  ·subst e;by_cases e2:i=lo+x
   ·subst e2;exact Zi _
   ·have:=hs i (lo+x-1) k1 (by lia) (by lia);lia
  ·exact hs i j k1 k2 (by lia)
 ·rintro c st' ⟨rfl,rfl,hx,hs⟩;rw[Nat.max_eq_right h2]at*;exact h nrem h2 (Zi _) hs (.inl rfl)
theorem a6Q'(C:Cmp prog w A s κ (· ∈a0.toList) K)(hB:SB a0 κ st){lo:Nat}(hz:lo+nrem≤a0.size)(h1:1≤nrem){Q:Option Nat→SortSt→Prop}
  (h:∀m ys,ys.Perm (arrOf st)→Fr lo (lo+nrem) (arrOf st) ys→1≤m→m≤nrem→SR K ys lo (lo+m)→Q (some m) (setArr st ys)):wpS (model prog w) A E s (countRun' lo nrem) Q st:=by
 have asc3:∀{st':SortSt},SB a0 κ st'→∀n,1≤n→n<nrem→∀{α:Type} {Q':α→SortSt→Prop} {f:Option Bool→StateT SortSt Sem α},(R K (arrOf st') (lo+n)<R K (arrOf st') (lo+n-1)→wpS (model prog w) A E s (f (some true)) Q' st')→(¬R K (arrOf st') (lo+n)<R K (arrOf st') (lo+n-1)→wpS (model prog w) A E s (f (some false)) Q' st')→wpS (model prog w) A E s (ltAt' (lo+n) (lo+n-1)>>=f) Q' st':=λhB' n n1 n2 α Q' f q1 q2=>Zq (a4x' C hB' (by lia) (by lia) q1 q2);rw[countRun'_eq];refine Zq (b4a' (lo:=lo) (K:=K) (λx n n1 n2 Q' q1 q2=>asc3 hB n n1 n2 (λhw=>wpS_T rfl (Zx (q1 hw))) (λhw=>wpS_F (by decide) (Zx (q2 hw)))) (Zi 1) h1 (λi j k1 k2 k3=>by have:i=j:=(by lia);subst this;exact Zi _) λn n1 n2 hs hor=>?_);by_cases hnn:n=nrem
 ·exact wpS_T (by simpa using hnn) (Zx (h n _ (.refl _) .refl n1 n2 hs))
 refine wpS_F (by simpa using hnn) ?_;have hlt:=hor.resolve_left hnn;have hsz:=hB.size;refine selD (C:=λys=>ys.Perm (arrOf st)∧Fr lo (lo+nrem) (arrOf st) ys∧∀i j,lo≤i→i≤j→j<lo+n+1→R K ys j≤R K ys i) (λys hC=>?_) (λhgt key=>?_) (λhgt=>⟨.refl _,.refl,λi j k1 k2 k3=>?_⟩)
 ·obtain⟨hp,hF,hN⟩:=hC;have hB1:=hB.arr hp;have hz1:ys.size=a0.size:=hB1.size;refine Zq (wpS_lift (wpAny_rule ⟨rfl,?_⟩))
  refine Zq (wpS_mono (Yg (I:=λx c st'=>∃zs q,st'=setArr st zs∧c=(none,x,q)∧zs.Perm (arrOf st)∧Fr lo (lo+nrem) (arrOf st) zs∧x≤nrem∧q<x∧(∀i j,lo≤i→i≤j→j<lo+x→R K zs j≤R K zs i)∧∀k,lo+x-(q+1)≤k→k<lo+x→R K zs k=R K zs (lo+x-1))
   (Q:=λc st'=>∃zs m q,st'=setArr st zs∧c=(none,m,q)∧zs.Perm (arrOf st)∧Fr lo (lo+nrem) (arrOf st) zs∧1≤m∧m≤nrem∧q<m∧(∀i j,lo≤i→i≤j→j<lo+m→R K zs j≤R K zs i)∧∀k,lo+m-(q+1)≤k→k<lo+m→R K zs k=R K zs (lo+m-1)) ?_ ?_ ?_) ?_)
  ·rintro x c st' hx hx2 ⟨zs,q,rfl,rfl,hp',hF',_,hq,hN',hE⟩;have hB2:=hB.arr hp';have hz2:zs.size=a0.size:=hB2.size
   have up:∀ws:Array Keyed,(∀k,k≤lo+x→lo≤k→R K ws k=R K zs k)→R K zs (lo+x)≤R K zs (lo+x-1)→∀i j,lo≤i→i≤j→j<lo+(x+1)→R K ws j≤R K ws i:=λws hw hl i j k1 k2 k3=>by
    rw[hw i (by lia) k1,hw j (by lia) (by lia)];by_cases e:j=lo+x
    ·subst e;by_cases e2:i=lo+x
     ·subst e2;exact Zi _
     ·exact ZP hl (hN' i (lo+x-1) k1 (by lia) (by lia))
    ·exact hN' i j k1 k2 (by lia)
   refine asc3 hB2 x (by lia) hx2 (λhw=>wpS_T rfl ?_) (λhw=>wpS_F (by decide) ?_)
   ·have hw:R K zs (lo+x)<R K zs (lo+x-1):=hw;refine selD (st:=setArr st zs) (C:=λws=>ws.Perm (arrOf st)∧Fr lo (lo+nrem) (arrOf st) ws∧∀k,k≤lo+x→lo≤k→R K ws k=R K zs k) (λws hC=>?_) (λhg key=>?_) (λhg=>⟨hp',hF',λ_ _ _=>rfl⟩)
    ·refine Zx ⟨ws,0,rfl,rfl,hC.1,hC.2.1,by lia,by lia,up ws hC.2.2 (by lia),λk k1 k2=>by rw[show k=lo+(x+1)-1 by lia]⟩
    ·refine Zq (a8K' (key _ ⟨(mirror_perm _ _ _ _).trans hp',hF'.trans (a4y' (i:=lo+x-(q+1)) (j:=lo+x) (by rw[hz2];lia) (by lia) (by lia)),λk k1 k2=>?_⟩));show R K (mirror zs (lo+x-(q+1)) (lo+x) ((lo+x-(lo+x-(q+1)))/2)) k=_;rw[a2X' (by rw[hz2];lia)];by_cases c:lo+x-(q+1)≤k∧k<lo+x
     ·rw[if_pos c,hE k c.1 c.2,hE _ (by lia) (by lia)]
     ·rw[if_neg c]
   ·have hw:¬R K zs (lo+x)<R K zs (lo+x-1):=hw;refine Zq (a4x' (i:=lo+x-1) (j:=lo+x) C hB2 (by lia) (by lia) (λhw2=>wpS_T rfl (Zx ⟨zs,x,q,rfl,rfl,hp',hF',by lia,by lia,hq,hN',hE⟩)) (λhw2=>wpS_F (by decide) (Zx ⟨zs,q+1,rfl,rfl,hp',hF',by lia,by lia,?_,λk k1 k2=>?_⟩)))
    ·have hw2:¬R K zs (lo+x-1)<R K zs (lo+x):=hw2;exact up zs (λ_ _ _=>rfl) (by lia)
    ·have hw2:¬R K zs (lo+x-1)<R K zs (lo+x):=hw2;rw[show lo+(x+1)-1=lo+x by lia];by_cases e:k=lo+x
     ·rw[e]
     ·rw[hE k (by lia) (by lia)];lia
  ·rintro c st' ⟨zs,q,rfl,rfl,hp',hF',hx,hq,hN',hE⟩;exact⟨zs,_,q,rfl,rfl,hp',hF',by lia,hx,hq,hN',hE⟩
  ·exact⟨ys,0,rfl,rfl,hp,hF,by lia,by lia,λi j k1 k2 k3=>hN i j k1 k2 (by lia),λk k1 k2=>by rw[show k=lo+(n+1)-1 by lia]⟩
  ·rintro c st' ⟨zs,m,q,rfl,rfl,hp',hF',m1,m2,hq,hN',hE⟩;have hB2:=hB.arr hp';have hz2:zs.size=a0.size:=hB2.size;refine selD (st:=setArr st zs) (C:=λws=>ws.Perm (arrOf st)∧Fr lo (lo+nrem) (arrOf st) ws∧∀k,k<lo+m→lo≤k→R K ws k=R K zs k) (λws hC=>?_) (λhg key=>?_) (λhg=>⟨hp',hF',λ_ _ _=>rfl⟩)
   ·obtain⟨hp3,hF3,hE3⟩:=hC;have hB3:=hB.arr hp3;have hz3:ws.size=a0.size:=hB3.size;refine Zq (a8K' ?_);show wpS (model prog w) A E s _ Q (setArr st (mirror ws lo (lo+m) ((lo+m-lo)/2)));have hp4:(mirror ws lo (lo+m) ((lo+m-lo)/2)).Perm (arrOf st):=(mirror_perm _ _ _ _).trans hp3;have hF4:Fr lo (lo+nrem) (arrOf st) (mirror ws lo (lo+m) ((lo+m-lo)/2)):=hF3.trans (a4y' (by rw[hz3];lia) (Zi _) (by lia))
    have hs4:SR K (mirror ws lo (lo+m) ((lo+m-lo)/2)) lo (lo+m):=λi j k1 k2 k3=>by rw[a2X' (by rw[hz3];lia),a2X' (by rw[hz3];lia),if_pos ⟨k1,by lia⟩,if_pos ⟨by lia,k3⟩,hE3 _ (by lia) (by lia),hE3 _ (by lia) (by lia)];exact hN' _ _ (by lia) (by lia) (by lia)
    revert hp4 hF4 hs4;generalize mirror ws lo (lo+m) ((lo+m-lo)/2)=vs;intro hp4 hF4 hs4;refine Zq (b4a' (st:=setArr st vs) (lo:=lo) (K:=K) (λx n n1 n2 Q' q1 q2=>asc3 (hB.arr hp4) n n1 n2 (λhw=>wpS_T rfl (Zx (q1 hw))) (λhw=>wpS_F (by decide) (Zx (q2 hw)))) m1 m2 hs4 λn n1 n2 hs _=>?_);exact Zx (h n vs hp4 hF4 (by lia) n2 hs)
   ·refine Zq (a8K' (key _ ⟨(mirror_perm _ _ _ _).trans hp',hF'.trans (a4y' (i:=lo+m-(q+1)) (j:=lo+m) (by rw[hz2];lia) (by lia) (by lia)),λk k1 k2=>?_⟩));show R K (mirror zs (lo+m-(q+1)) (lo+m) ((lo+m-(lo+m-(q+1)))/2)) k=_;rw[a2X' (by rw[hz2];lia)];by_cases c:lo+m-(q+1)≤k∧k<lo+m
    ·rw[if_pos c,hE k c.1 c.2,hE _ (by lia) (by lia)]
    ·rw[if_neg c]
 ·refine Zq (a4x' C hB (by lia) (by lia) (λhr=>wpS_T rfl (Zx (h n _ (.refl _) .refl n1 n2 hs))) (λhr=>wpS_F (by decide) ?_));have hr:¬R K (arrOf st) lo<R K (arrOf st) (lo+n-1):=hr;have hlt:R K (arrOf st) (lo+n)<R K (arrOf st) (lo+n-1):=hlt;refine Zq (a8K' (key _ ⟨mirror_perm _ _ _ _,a4y' (by lia) (Zi _) (by lia),λi j k1 k2 k3=>?_⟩))
  have eq:∀k,lo≤k→k<lo+n→R K (mirror (arrOf st) lo (lo+n) ((lo+n-lo)/2)) k=R K (arrOf st) lo:=λk k1 k2=>by rw[a2X' (by lia),if_pos ⟨k1,k2⟩];have e1:=hs lo (lo+(lo+n)-1-k) (by lia) (by lia) (by lia);have e2:=hs (lo+(lo+n)-1-k) (lo+n-1) (by lia) (by lia) (by lia);lia
  show R K (mirror (arrOf st) lo (lo+n) ((lo+n-lo)/2)) j≤R K (mirror (arrOf st) lo (lo+n) ((lo+n-lo)/2)) i;by_cases e:j<lo+n
  ·rw[eq i k1 (by lia),eq j (by lia) e];exact Zi _
  ·have e':j=lo+n:=by lia
   subst e';rw[a2X' (by lia) (lo+n),if_neg (by lia)];by_cases e2:i=lo+n
   ·subst e2;rw[a2X' (by lia) (lo+n),if_neg (by lia)];exact Zi _
   ·rw[eq i k1 (by lia)];have e1:=hs lo (lo+n-1) (by lia) (by lia) (by lia);lia
 ·have hlt:R K (arrOf st) (lo+n)<R K (arrOf st) (lo+n-1):=hlt;have hgt:¬n>1:=hgt;have e1:n=1:=by lia
  subst e1;by_cases e:i=j
  ·subst e;exact Zi _
  ·rw[show i=lo+1-1 by lia,show j=lo+1 by lia];lia
end
end Srt
end
section
set_option autoImplicit false
namespace Srt
section
variable {st:SortSt}{K:Keyed→Nat}{xs ys:Array Keyed}
theorem b5z'{d:Nat}(hs:src<xs.size)(hd:d≤src)(k:Nat):R K (bubble xs src d) k=if k=src-d then R K xs src else if src-d<k∧k≤src then R K xs (k-1)else R K xs k:=by
 have h:=getElem?_bubble hs d hd k;by_cases c:k=src-d
 ·rw[if_pos c]at h⊢;exact a1w' h
 ·rw[if_neg c]at h⊢;by_cases c2:src-d<k∧k≤src
  ·rw[if_pos c2]at h⊢;exact a1w' h
  ·rw[if_neg c2]at h⊢;exact a1w' h
theorem b3j'{lo hi d:Nat}(hs:src<xs.size)(hd:d≤src)(h1:lo≤src-d)(h2:src<hi):Fr lo hi xs (bubble xs src d):=λk hk=>by rw[getElem?_bubble hs d hd,if_neg (by lia),if_neg (by lia)]
theorem a5m'(C:Cmp prog w A s κ (· ∈a0.toList) K)(hB:SB a0 κ st){lo ok:Nat}(hz:lo+n≤a0.size)(hok:ok≤n)(hs:SR K (arrOf st) lo (lo+ok)){Q:Bool→SortSt→Prop}
  (h:∀ys,ys.Perm (arrOf st)→Fr lo (lo+n) (arrOf st) ys→SR K ys lo (lo+n)→Q true (setArr st ys)):wpS (model prog w) A E s (binarySort' lo n ok) Q st:=by
 rw[binarySort'_eq]
 refine Zq (wpS_mono (Yg (I:=λk c st'=>∃zs,st'=setArr st zs∧c=(none,())∧zs.Perm (arrOf st)∧Fr lo (lo+n) (arrOf st) zs∧SR K zs lo (lo+min k n))
  (Q:=λc st'=>∃zs,st'=setArr st zs∧c=(none,())∧zs.Perm (arrOf st)∧Fr lo (lo+n) (arrOf st) zs∧SR K zs lo (lo+n)) ?_ ?_ ?_) ?_)
 ·rintro k c st' hk hk2 ⟨zs,rfl,rfl,hp,hF,hs'⟩;rw[Nat.min_eq_left (by lia)]at hs';have hB2:=hB.arr hp;have hz2:zs.size=a0.size:=hB2.size
  refine Zq (wpS_mono (Yg (I:=λx c st'=>st'=setArr st zs∧∃l r,c=(none,l,r)∧l≤r∧r≤k∧r-l≤k-x∧(∀i,i<l→R K zs (lo+i)≤R K zs (lo+k))∧(∀i,r≤i→i<k→R K zs (lo+k)<R K zs (lo+i)))
   (Q:=λc st'=>st'=setArr st zs∧∃l r,c=(none,l,r)∧l≤k∧(∀i,i<l→R K zs (lo+i)≤R K zs (lo+k))∧(∀i,l≤i→i<k→R K zs (lo+k)<R K zs (lo+i))) ?_ ?_ ⟨rfl,0,k,rfl,by lia,by lia,by lia,λi hi=>by lia,λi h1 h2=>by lia⟩) ?_)
  ·rintro x c st' _ hx ⟨rfl,l,r,rfl,k1,k2,k3,k4,k5⟩;by_cases hlr:l≥r
   ·have:l=r:=by lia
    subst this;exact wpS_T hlr (Zx ⟨rfl,l,l,rfl,k2,k4,k5⟩)
   ·refine wpS_F hlr (Zq (a4x' (i:=lo+k) (j:=lo+(l+r)/2) C hB2 (by lia) (by lia) (λhw=>wpS_T rfl (Zx ⟨rfl,l,(l+r)/2,rfl,by lia,by lia,by lia,k4,λi h1 h2=>?_⟩)) (λhw=>wpS_F (by decide) (Zx ⟨rfl,(l+r)/2+1,r,rfl,by lia,k2,by lia,λi h1=>?_,k5⟩))))
    ·have hw:R K zs (lo+k)<R K zs (lo+(l+r)/2):=hw;have:=hs' (lo+(l+r)/2) (lo+i) (by lia) (by lia) (by lia);lia
    ·have hw:¬R K zs (lo+k)<R K zs (lo+(l+r)/2):=hw;have:=hs' (lo+i) (lo+(l+r)/2) (by lia) (by lia) (by lia);lia
  ·rintro c st' ⟨rfl,l,r,rfl,k1,k2,k3,k4,k5⟩;have:l=r:=by lia
   subst this;exact⟨rfl,l,l,rfl,k2,k4,k5⟩
  ·rintro c st' ⟨rfl,l,r,rfl,k2,k4,k5⟩;refine Zq (m:=moveDown' (lo+k) (lo+l)) ?_;rw[moveDown'_eq];refine wpS_modify (Zx ⟨bubble zs (lo+k) (lo+k-(lo+l)),rfl,rfl,(bubble_perm _ _ _).trans hp,hF.trans (b3j' (by rw[hz2];lia) (by lia) (by lia) (by lia)),?_⟩);rw[Nat.min_eq_left (by lia)];have e:∀i,R K (bubble zs (lo+k) (lo+k-(lo+l))) i=if i=lo+l then R K zs (lo+k)else if lo+l<i∧i≤lo+k then R K zs (i-1)else R K zs i:=λi=>by rw[b5z' (by rw[hz2];lia) (by lia),show lo+k-(lo+k-(lo+l))=lo+l by lia]
   have a1:∀i,lo≤i→i<lo+l→R K zs i≤R K zs (lo+k):=λi h1 h2=>by have:=k4 (i-lo) (by lia);rwa [show lo+(i-lo)=i by lia]at this
   have a2:∀i,lo+l≤i→i<lo+k→R K zs (lo+k)<R K zs i:=λi h1 h2=>by have:=k5 (i-lo) (by lia) (by lia);rwa [show lo+(i-lo)=i by lia]at this
   intro i j h1 h2 h3;rw[e i,e j];by_cases c1:i=lo+l
   ·rw[if_pos c1];by_cases c2:j=lo+l
    ·rw[if_pos c2];exact Zi _
    ·rw[if_neg c2,if_pos ⟨by lia,by lia⟩];exact Nat.le_of_lt (a2 _ (by lia) (by lia))
   ·rw[if_neg c1];by_cases c3:lo+l<i∧i≤lo+k
    ·rw[if_pos c3,if_neg (by lia),if_pos ⟨by lia,by lia⟩];exact hs' _ _ (by lia) (by lia) (by lia)
    ·rw[if_neg c3];by_cases c2:j=lo+l
     ·rw[if_pos c2];exact a1 i h1 (by lia)
     ·rw[if_neg c2];by_cases c4:lo+l<j∧j≤lo+k
      ·rw[if_pos c4];exact hs' _ _ h1 (by lia) (by lia)
      ·rw[if_neg c4];exact hs' _ _ h1 h2 (by lia)
 ·rintro c st' ⟨zs,rfl,rfl,hp,hF,hs'⟩;rw[show min (max (max ok 1) n) n=n by lia]at hs';exact⟨zs,rfl,rfl,hp,hF,hs'⟩
 ·refine⟨arrOf st,rfl,rfl,.refl _,.refl,λi j h1 h2 h3=>?_⟩;by_cases e:i=j
  ·subst e;exact Zi _
  ·exact hs i j h1 h2 (by lia)
 ·rintro c st' ⟨zs,rfl,rfl,hp,hF,hs'⟩;exact Zx (h zs hp hF hs')
end
end Srt
end
section
set_option autoImplicit false
namespace Srt
section
variable {st:SortSt}{K:Keyed→Nat}{xs ys:Array Keyed}
theorem b1i'{base:Nat}:∀(l:List Keyed) (k:Nat) (arr:Array Keyed),base+k+l.length≤arr.size→((l.zipIdx k).foldl (λa (x:Keyed×Nat)=>a.setIfInBounds (base+x.2) x.1) arr).toList=arr.toList.take (base+k)++l++arr.toList.drop (base+k+l.length)
 | [],k,arr,h=>by simp
 |x::l,k,arr,h=>by
  rw[Zw]at h;rw[List.zipIdx_cons,List.foldl_cons,b1i' l (k+1) _ (by rw[Array.size_setIfInBounds];lia)];rw[Array.toList_setIfInBounds];have hl:base+k<arr.toList.length:=by rw[Zt];lia
  have e1:(arr.toList.set (base+k) x).take (base+(k+1))=arr.toList.take (base+k)++[x]:=by rw[show base+(k+1)=(base+k)+1 by lia,List.take_succ,List.take_set_of_le (Zi _),Ym hl];rfl
  have e2:(arr.toList.set (base+k) x).drop (base+(k+1)+l.length)=arr.toList.drop (base+k+(x::l).length):=by rw[List.drop_set_of_lt (by lia),Zw,show base+(k+1)+l.length=base+k+(l.length+1)by lia]
  rw[e1,e2];simp
theorem b1j'{i j:Nat}(h1:i≤j)(h2:j≤xs.size):(xs.extract i j).size=j-i:=by rw[Array.size_extract,Nat.min_eq_left h2]
theorem R_ext{i j:Nat}(h2:j≤xs.size)(hn:i+n<j):R K (xs.extract i j) n=R K xs (i+n):=by refine a1w' ?_;rw[Array.getElem?_extract,if_pos (by lia)]
theorem LS_ext{i j:Nat}(h2:j≤xs.size)(hs:SR K xs i j):LS K (xs.extract i j).toList:=by
 refine List.pairwise_iff_getElem.mpr λn m hn hm h=>?_;have hm':m<(xs.extract i j).size:=by rw[←Zt];exact hm
 have hn':n<(xs.extract i j).size:=by lia
 have e:(xs.extract i j).size≤j-i:=by rw[Array.size_extract];lia
 have k1:=R_ext (K:=K) h2 (show i+n<j by lia);have k2:=R_ext (K:=K) h2 (show i+m<j by lia);have:=hs (i+n) (i+m) (by lia) (by lia) (by lia);rw[←k1,←k2,R_of hn',R_of hm']at this;simpa using this
theorem b1k'{i j:Nat}(h2:j≤xs.size){x:Keyed}(h:x∈(xs.extract i j).toList):∃n,i≤n∧n<j∧K x=R K xs n:=by obtain⟨n,h1,h3,_,e⟩:=b1h' (K:=K) h;exact⟨n,h1,h3,e⟩
theorem wpS_set{x:SortSt}{Q:PUnit→SortSt→Prop}(h:Q ⟨⟩ x):wpS (model prog w) A E s (set x:StateT SortSt Sem PUnit) Q st:=by unfold wpS;rw[StateT.run_set];exact Zf ⟨rfl,h⟩
noncomputable def a8L'(st:SortSt)(p:Array (Nat×Nat×Nat)):SortSt:=SortSt.mk' (kindOf st) (arrOf st) p (gallopOf st) (failedOf st)
theorem a9A'(C:Cmp prog w A s κ (· ∈a0.toList) K)(hB:SB a0 κ st){i sa na pw nb pw':Nat}(hi:(pendingOf st)[i]?=some (sa,na,pw))(hi':(pendingOf st)[i+1]?=some (sa+na,nb,pw'))(a1:1≤na)(b1:1≤nb)(hz:sa+na+nb≤a0.size)
  (ha:SR K (arrOf st) sa (sa+na)) (hb:SR K (arrOf st) (sa+na) (sa+na+nb)) {Q:Bool→SortSt→Prop}
  (h:∀ys g,ys.Perm (arrOf st)→Fr sa (sa+na+nb) (arrOf st) ys→SR K ys sa (sa+na+nb)→Q true (a0J' (setArr (a8L' st (((pendingOf st).setIfInBounds i (sa,na+nb,pw)).eraseIdxIfInBounds (i+1))) ys) g)):wpS (model prog w) A E s (mergeAt' i) Q st:=by
 have hsz:=hB.size;have hall:=hB.all;have pe:∀{n:Nat} (hn:n<(arrOf st).size),(arrOf st)[n]∈a0.toList:=λhn=>hall _ (by simp);refine Zq (wpS_get ?_);have e0:((pendingOf st)[i]?,(pendingOf st)[i+1]?)=(some (sa,na,pw),some (sa+na,nb,pw')):=by rw[hi,hi']
 rw[hi,hi'];refine Zq (wpS_set ?_);show wpS (model prog w) A E s _ Q (a8L' st (((pendingOf st).setIfInBounds i (sa,na+nb,pw)).eraseIdxIfInBounds (i+1)));generalize((pendingOf st).setIfInBounds i (sa,na+nb,pw)).eraseIdxIfInBounds (i+1)=p' at h⊢;have hkP:kindOf (a8L' st p')=κ:=hB.kind;refine Zq (a0m' (show sa+na<(arrOf st).size by lia) ?_);refine Zq (a1H' C hall (pe (by lia)) hkP (by lia) (by lia) (λi j k1 k2=>ha _ _ (by lia) (by lia) (by lia)) λk k1 k2 k3=>?_);have t1:thr K false (arrOf st)[sa+na]=R K (arrOf st) (sa+na)+1:=by rw[R_of (show sa+na<(arrOf st).size by lia)];rfl
 rw[t1]at k2 k3;have q2:∀n,sa≤n→n<sa+k→R K (arrOf st) n≤R K (arrOf st) (sa+na):=λn h1 h2=>by have:=k2 (n-sa) (by lia);rw[show sa+(n-sa)=n by lia]at this;lia
 have bb:∀n,sa+na≤n→n<sa+na+nb→R K (arrOf st) (sa+na)≤R K (arrOf st) n:=λn h1 h2=>hb _ _ (Zi _) h1 h2
 have fin:∀c,c≤R K (arrOf st) (sa+na)→(∀n,sa≤n→n<sa+na→R K (arrOf st) n≤c)→SR K (arrOf st) sa (sa+na+nb):=λc hc hn i j h1 h2 h3=>by
  by_cases c1:j<sa+na
  ·exact ha i j h1 h2 c1
  ·by_cases c2:i<sa+na
   ·have:=hn i h1 c2;have:=bb j (by lia) h3;lia
   ·exact hb i j (by lia) h2 h3
 by_cases e1:na-k=0
 ·refine wpS_T (by simpa using e1) (Zx (h _ (gallopOf st) (.refl _) .refl (fin _ (Zi _) λn h1 h2=>q2 n h1 (by lia))))
 refine wpS_F (by simpa using e1) ?_;have q3:R K (arrOf st) (sa+na)<R K (arrOf st) (sa+k):=by have:=k3 k (Zi _) (by lia);lia
 refine Zq (a0m' (show sa+k+(na-k)-1<(arrOf st).size by lia) ?_);refine Zq (a1H' C hall (pe (by lia)) hkP (by lia) (by lia) (λi j k1 k2=>hb _ _ (by lia) (by lia) (by lia)) λm m1 m2 m3=>?_);have t2:thr K true ((arrOf st)[sa+k+(na-k)-1]'(by lia))=R K (arrOf st) (sa+na-1):=by rw[show sa+na-1=sa+k+(na-k)-1 by lia,R_of (show sa+k+(na-k)-1<(arrOf st).size by lia)];rfl
 rw[t2]at m2 m3
 have q4:∀n,sa+na≤n→n<sa+na+m→R K (arrOf st) n<R K (arrOf st) (sa+na-1):=λn h1 h2=>by
  have:=m2 (n-(sa+na)) (by lia)
  rwa [show sa+na+(n-(sa+na))=n by lia]at this
 have q5:∀n,sa+na+m≤n→n<sa+na+nb→R K (arrOf st) (sa+na-1)≤R K (arrOf st) n:=λn h1 h2=>by
  have:=m3 (n-(sa+na)) (by lia) (by lia)
  rwa [show sa+na+(n-(sa+na))=n by lia]at this
 by_cases e2:m=0
 ·have:=q5 (sa+na) (by lia) (by lia);have:=ha (sa+k) (sa+na-1) (by lia) (by lia) (by lia);exfalso;lia
 refine wpS_F (by simpa using e2) ?_;have hxz:((arrOf st).extract (sa+k) (sa+na)).size=na-k:=by rw[b1j' (by lia) (by lia)];lia
 have hyz:((arrOf st).extract (sa+na) (sa+na+m)).size=m:=by rw[b1j' (by lia) (by lia)];lia
 have hxl:=LS_ext (K:=K) (xs:=arrOf st) (i:=sa+k) (j:=sa+na) (by lia) (λi j h1 h2 h3=>ha i j (by lia) h2 h3);have hyl:=LS_ext (K:=K) (xs:=arrOf st) (i:=sa+na) (j:=sa+na+m) (by lia) (λi j h1 h2 h3=>hb i j (by lia) h2 (by lia))
 have hxm:∀x∈((arrOf st).extract (sa+k) (sa+na)).toList,x∈a0.toList:=λx hx=>by rw[Array.toList_extract]at hx;exact hall x (List.mem_of_mem_drop (List.mem_of_mem_take hx))
 have hym:∀x∈((arrOf st).extract (sa+na) (sa+na+m)).toList,x∈a0.toList:=λx hx=>by rw[Array.toList_extract]at hx;exact hall x (List.mem_of_mem_drop (List.mem_of_mem_take hx))
 have r0:R K ((arrOf st).extract (sa+na) (sa+na+m)) 0<R K ((arrOf st).extract (sa+k) (sa+na)) 0:=by rw[R_ext (by lia) (by lia),R_ext (by lia) (by lia)];exact q3
 have rl:∀y∈((arrOf st).extract (sa+na) (sa+na+m)).toList,K y<R K ((arrOf st).extract (sa+k) (sa+na)) (((arrOf st).extract (sa+k) (sa+na)).size-1):=λy hy=>by obtain⟨n,h1,h2,e⟩:=b1k' (K:=K) (by lia) hy;rw[e,hxz,R_ext (by lia) (by lia),show sa+k+(na-k-1)=sa+na-1 by lia];exact q4 n h1 h2
 have key:∀(r:Array Keyed) (g:Nat),Good K (((arrOf st).extract (sa+k) (sa+na)).toList++((arrOf st).extract (sa+na) (sa+na+m)).toList) r→Q true (a0J' (setArr (a8L' st p') ((r.toList.zipIdx).foldl (λa (x:Keyed×Nat)=>a.setIfInBounds (sa+k+x.2) x.1) (arrOf st))) g):=λr g gd=>by
  have hrl:r.toList.length=na-k+m:=by rw[gd.1.length_eq,Zp,Zt,Zt,hxz,hyz]
  have hel:∀n,n<r.toList.length→∃j,sa+k≤j∧j<sa+na+m∧R K r n=R K (arrOf st) j:=λn hn=>by
   have hn':n<r.size:=by rwa [Zt]at hn
   have hm:r[n]∈r.toList:=by simp
   rw[R_of hn'];rcases Zs.mp (gd.1.mem_iff.mp hm)with z|z
   ·obtain⟨j,h1,h2,e⟩:=b1k' (K:=K) (by lia) z;exact⟨j,h1,by lia,e⟩
   ·obtain⟨j,h1,h2,e⟩:=b1k' (K:=K) (by lia) z;exact⟨j,by lia,h2,e⟩
  have hfp:=b1i' (base:=sa+k) r.toList 0 (arrOf st) (by lia);generalize(r.toList.zipIdx).foldl (λa (x:Keyed×Nat)=>a.setIfInBounds (sa+k+x.2) x.1) (arrOf st)=ys at hfp⊢;rw[Nat.add_zero]at hfp;have hl1:((arrOf st).toList.take (sa+k)).length=sa+k:=by rw[Yf,Zt];lia
  have o1:∀n,n<sa+k→ys[n]?=(arrOf st)[n]? :=λn hn=>by rw[←ZS,hfp,Zu,ZB (by lia),List.getElem?_take_of_lt hn,ZS]
  have o2:∀n,sa+na+m≤n→ys[n]?=(arrOf st)[n]? :=λn hn=>by rw[←ZS,hfp,Zv (by rw[Zp];lia),List.getElem?_drop,Zp,hl1,hrl,←ZS];congr 1;lia
  have o3:∀n,sa+k≤n→n<sa+na+m→ys[n]?=r[n-(sa+k)]? :=λn h1 h2=>by rw[←ZS,hfp,Zu,Zv (by lia),hl1,ZB (by lia),ZS]
  refine h ys g ?_ (λn hn=>?_) (λi j h1 h2 h3=>?_)
  ·refine Array.perm_iff_toList_perm.mpr ?_;rw[hfp];have e:(arrOf st).toList=(arrOf st).toList.take (sa+k)++(((arrOf st).extract (sa+k) (sa+na)).toList++((arrOf st).extract (sa+na) (sa+na+m)).toList)++(arrOf st).toList.drop (sa+k+r.toList.length):=by rw[←Zu,←a8J' (by lia),←a8J' (by lia),show sa+k+r.toList.length=sa+na+m by lia,List.take_append_drop]
   exact((List.Perm.append_left _ gd.1).append_right _).trans (List.Perm.of_eq e.symm)
  ·rcases hn with z|z
   ·exact o1 n (by lia)
   ·exact o2 n (by lia)
  ·have ri:∀n,n<sa+k→R K ys n=R K (arrOf st) n:=λn hn=>a1w' (o1 n hn);have ro:∀n,sa+na+m≤n→R K ys n=R K (arrOf st) n:=λn hn=>a1w' (o2 n hn);have rm:∀n,sa+k≤n→n<sa+na+m→R K ys n=R K r (n-(sa+k)):=λn h1 h2=>a1w' (o3 n h1 h2);by_cases c1:j<sa+k
   ·rw[ri i (by lia),ri j c1];exact ha i j h1 h2 (by lia)
   by_cases c2:sa+na+m≤i
   ·rw[ro i c2,ro j (by lia)];exact hb i j (by lia) h2 h3
   by_cases c3:i<sa+k
   ·rw[ri i c3];have u1:=q2 i h1 c3;by_cases c4:sa+na+m≤j
    ·rw[ro j c4];have:=bb j (by lia) h3;lia
    ·rw[rm j (by lia) (by lia)];obtain⟨n,n1,n2,e⟩:=hel (j-(sa+k)) (by lia);rw[e];by_cases c5:n<sa+na
     ·exact ha i n h1 (by lia) c5
     ·have:=bb n (by lia) (by lia);lia
   ·rw[rm i (by lia) (by lia)];by_cases c4:sa+na+m≤j
    ·rw[ro j c4];obtain⟨n,n1,n2,e⟩:=hel (i-(sa+k)) (by lia);rw[e];by_cases c5:n<sa+na
     ·have:=ha n (sa+na-1) (by lia) (by lia) (by lia);have:=q5 j c4 h3;lia
     ·exact hb n j (by lia) (by lia) h3
    ·rw[rm j (by lia) (by lia)];exact gd.2.mono (by lia) (by rw[←Zt];lia)
 have hs1:sa+k+(na-k)=sa+na:=by lia
 by_cases e3:na-k≤m
 ·refine wpS_T e3 (Zq (a9y' C hkP hxm hym hxl hyl (by lia) (by lia) r0 rl λr g gd=>?_));refine Zq (wpS_modify (Zq (wpS_get (Zx ?_))));have:=key r g gd;show Q (failedOf st).isNone _;rw[hB.failed];exact this
 ·refine wpS_F e3 (Zq (a9z' C hkP hxm hym hxl hyl (by lia) (by lia) r0 rl λr g gd=>?_));refine Zq (wpS_modify (Zq (wpS_get (Zx ?_))));have:=key r g gd;show Q (failedOf st).isNone _;rw[hB.failed];exact this
end
end Srt
end
section
set_option autoImplicit false
namespace Srt
def Ch(K:Keyed→Nat)(xs:Array Keyed):Nat→List (Nat×Nat×Nat)→Nat→Prop
 |a,[],e=>a=e
 |a,t::r,e=>t.1=a∧1≤t.2.1∧SR K xs a (a+t.2.1)∧Ch K xs (a+t.2.1) r e
section
variable {K:Keyed→Nat}{xs ys:Array Keyed}
theorem Ch.len:∀{l:List (Nat×Nat×Nat)} {a e:Nat},Ch K xs a l e→a+l.length≤e
 | [],a,e,h=>by cases h;simp
 |t::r,a,e,h=>by have:=Ch.len h.2.2.2;have:=h.2.1;rw[Zw];lia
theorem Ch.app:∀{l r:List (Nat×Nat×Nat)} {a e:Nat},Ch K xs a (l++r) e→∃m,Ch K xs a l m∧Ch K xs m r e
 | [],r,a,e,h=>⟨a,rfl,h⟩
 |t::l,r,a,e,h=>by obtain⟨m,h1,h2⟩:=Ch.app (l:=l) h.2.2.2;exact⟨m,⟨h.1,h.2.1,h.2.2.1,h1⟩,h2⟩
theorem Ch.join:∀{l r:List (Nat×Nat×Nat)} {a m e:Nat},Ch K xs a l m→Ch K xs m r e→Ch K xs a (l++r) e
 | [],r,a,m,e,h,k=>by cases h;exact k
 |t::l,r,a,m,e,h,k=>⟨h.1,h.2.1,h.2.2.1,Ch.join h.2.2.2 k⟩
theorem Ch.same:∀{l:List (Nat×Nat×Nat)} {a e:Nat},(∀i,a≤i→i<e→R K ys i=R K xs i)→Ch K xs a l e→Ch K ys a l e
 | [],a,e,_,h=>h
 |t::r,a,e,hs,h=>by have:=h.2.2.2.len;refine⟨h.1,h.2.1,λi j k1 k2 k3=>?_,Ch.same (λi k1 k2=>hs i (by lia) k2) h.2.2.2⟩;rw[hs i k1 (by lia),hs j (by lia) (by lia)];exact h.2.2.1 i j k1 k2 k3
theorem Ch.modify{f:Nat×Nat×Nat→Nat×Nat×Nat}(hf:∀t,(f t).1=t.1∧(f t).2.1=t.2.1):∀{l:List (Nat×Nat×Nat)} {i a e:Nat},Ch K xs a l e→Ch K xs a (l.modify i f) e
 | [],i,a,e,h=>by rw[List.modify_nil];exact h
 |t::r,0,a,e,h=>by rw[List.modify_zero_cons];obtain⟨h1,h2,h3,h4⟩:=h;refine⟨(hf t).1.trans h1,by rw[(hf t).2];exact h2,by rw[(hf t).2];exact h3,by rw[(hf t).2];exact h4⟩
 |t::r,i+1,a,e,h=>by rw[List.modify_succ_cons];exact⟨h.1,h.2.1,h.2.2.1,Ch.modify hf h.2.2.2⟩
theorem b3k'{j:Nat}(h:j+1<L.length):L=L.take j++L[j]::L[j+1]::L.drop (j+2):=by rw[←Z8 h,←Z8 (show j<L.length by lia),List.take_append_drop]
theorem b3l'{j:Nat}{x:Nat×Nat×Nat}(h:j+1<L.length):(L.set j x).eraseIdx (j+1)=L.take j++x::L.drop (j+2):=by rw[List.eraseIdx_eq_take_drop_succ,List.take_succ,List.take_set_of_le (Zi _),Ym (by lia),List.drop_set_of_lt (by lia)];simp
end
section
variable {st:SortSt}{K:Keyed→Nat}
structure SI (a0:Array Keyed)(κ:SortKind)(K:Keyed→Nat)(lo:Nat)(st:SortSt):Prop where
 b:SB a0 κ st
 ch:Ch K (arrOf st) 0 (pendingOf st).toList lo
 le:lo≤a0.size
theorem a6R'(C:Cmp prog w A s κ (· ∈a0.toList) K){lo j:Nat}(I:SI a0 κ K lo st)(hj:j+1<(pendingOf st).size){Q:Bool→SortSt→Prop}(h:∀st',SI a0 κ K lo st'→(pendingOf st').size+1=(pendingOf st).size→(∀i,lo≤i→(arrOf st')[i]?=(arrOf st)[i]?)→Q true st'):wpS (model prog w) A E s (mergeAt' j) Q st:=by
 have hl:j+1<(pendingOf st).toList.length:=by rwa [Zt]
 have e:=b3k' hl;have hc:=I.ch;rw[e]at hc;obtain⟨m,h1,h2⟩:=hc.app
 have g1:(pendingOf st)[j]?=some ((pendingOf st).toList[j].1,(pendingOf st).toList[j].2.1,(pendingOf st).toList[j].2.2):=by rw[←ZS,Ze]
 have g2:(pendingOf st)[j+1]?=some ((pendingOf st).toList[j+1].1,(pendingOf st).toList[j+1].2.1,(pendingOf st).toList[j+1].2.2):=by rw[←ZS,Ze]
 have e2:=b3l' (L:=(pendingOf st).toList) (j:=j) (x:=((pendingOf st).toList[j].1,(pendingOf st).toList[j].2.1+(pendingOf st).toList[j+1].2.1,(pendingOf st).toList[j].2.2)) hl;generalize(pendingOf st).toList[j]=t at*;generalize(pendingOf st).toList[j+1]=u at*;obtain⟨t1,t2,t3⟩:=t;obtain⟨u1,u2,u3⟩:=u;obtain⟨rfl,k2,k3,k4⟩:=h2;obtain⟨rfl,k6,k7,k8⟩:=k4;dsimp only at*;have hle:=k8.len;refine a9A' C I.b g1 g2 k2 k6 (by have:=I.le;lia) k3 k7 λys g hp hF hs=>?_
 have ep:(((pendingOf st).setIfInBounds j (t1,t2+u2,t3)).eraseIdxIfInBounds (j+1)).toList=(pendingOf st).toList.take j++(t1,t2+u2,t3)::(pendingOf st).toList.drop (j+2):=by rw[Array.toList_eraseIdxIfInBounds,Array.toList_setIfInBounds,e2]
 have hle1:=h1.len;refine h _ ⟨⟨hp.trans I.b.perm,I.b.failed,I.b.kind⟩,?_,I.le⟩ ?_ λi hi=>hF i (.inr (by lia))
 ·show Ch K ys 0 (((pendingOf st).setIfInBounds j (t1,t2+u2,t3)).eraseIdxIfInBounds (j+1)).toList lo;rw[ep];refine(h1.same λi _ hi=>a1w' (hF i (.inl hi))).join ⟨rfl,by dsimp only;lia,?_,?_⟩
  ·dsimp only;rw[←Nat.add_assoc];exact hs
  ·dsimp only;rw[←Nat.add_assoc];exact k8.same λi hi _=>a1w' (hF i (.inr hi))
 ·show(((pendingOf st).setIfInBounds j (t1,t2+u2,t3)).eraseIdxIfInBounds (j+1)).size+1=_;rw[←Zt,ep,←Zt];simp only[Zp,Yf,Zw,List.length_drop];lia
end
end Srt
end
section
set_option autoImplicit false
namespace Srt
section
variable {st:SortSt}{K:Keyed→Nat}
theorem selN{c:Nat→Prop}{dc:∀n,Decidable (c n)}{f T:Nat→StateT SortSt Sem α}{Q:α→SortSt→Prop}{C:Nat→SortSt→Prop}{H:Nat→Prop}(key:∀n st',C n st'→wpS (model prog w) A E s (f n) Q st')(h1:∀n,H n→c n→(∀n st',C n st'→wpS (model prog w) A E s (f n) Q st')→wpS (model prog w) A E s (T n) Q st)(h2:∀n,H n→¬c n→C n st):
  ∀n,H n→wpS (model prog w) A E s (if c n then T n else f n) Q st:=λn hn=>by
 by_cases h:c n
 ·rw[if_pos h];exact h1 n hn h key
 ·rw[if_neg h];exact key n st (h2 n hn h)
theorem a6S'(C:Cmp prog w A s κ (· ∈a0.toList) K)(hB:SB a0 κ st)(hpe:pendingOf st= #[])(h2:2≤a0.size){Q:Unit→SortSt→Prop}(h:∀st',SB a0 κ st'→SR K (arrOf st') 0 a0.size→Q () st'):wpS (model prog w) A E s sortRuns' Q st:=by
 have hsz:=hB.size;rw[sortRuns'_eq];refine Zq (wpS_get ?_);dsimp-zeta only;rw[hsz];refine Zq (wpS_mono (Yg (I:=λx c st'=>∃lo,c=(none,lo)∧SI a0 κ K lo st'∧x≤lo) (Q:=λc st'=>∃lo,c=(none,lo)∧SI a0 κ K lo st'∧a0.size≤lo) ?_ ?_ ⟨0,rfl,⟨hB,by rw[hpe];rfl,by lia⟩,by lia⟩) ?_)
 ·rintro x c st1 _ hx ⟨lo,rfl,I,hxl⟩;by_cases hlo:lo≥a0.size
  ·exact wpS_T hlo (Zx ⟨lo,rfl,I,hlo⟩)
  refine wpS_F hlo (Zq (a6Q' C I.b (lo:=lo) (nrem:=a0.size-lo) (by lia) (by lia) λm ys hp hF m1 m2 hs=>?_));have chF:∀{zs:Array Keyed},(∀i,i<lo→zs[i]?=(arrOf st1)[i]?)→Ch K zs 0 (pendingOf st1).toList lo:=λhz=>I.ch.same λi _ hi=>a1w' (hz i hi);have H:1≤m∧m≤a0.size-lo∧SR K ys lo (lo+m):=⟨m1,m2,hs⟩;revert H;clear m1 m2 hs;generalize m=m';revert m';refine selN (C:=λn st2=>(SB a0 κ st2∧Ch K (arrOf st2) 0 (pendingOf st2).toList lo)∧SR K (arrOf st2) lo (lo+n)∧1≤n∧lo+n≤a0.size) (λn st2 hC=>?_) (λn hH hc key=>?_) (λn hH hc=>⟨⟨I.b.arr hp,chF λi hi=>hF i (.inl hi)⟩,hH.2.2,hH.1,by have:=hH.2.1;lia⟩)
  ·obtain⟨hJ,hs,n1,n2⟩:=hC;have push:∀st3,SB a0 κ st3→Ch K (arrOf st3) 0 (pendingOf st3).toList lo→SR K (arrOf st3) lo (lo+n)→SI a0 κ K (lo+n) (setPending st3 ((pendingOf st3).push (lo,n,0))):=λst3 b3 c3 s3=>⟨⟨b3.perm,b3.failed,b3.kind⟩,by show Ch K (arrOf st3) 0 ((pendingOf st3).push (lo,n,0)).toList (lo+n);rw[Array.toList_push];exact c3.join ⟨rfl,n1,s3,rfl⟩,n2⟩;refine Zq (wpS_get ?_);cases hbk:(pendingOf st2).back? with
   |none=>exact Zq (wpS_modify (Zx ⟨lo+n,rfl,push st2 hJ.1 hJ.2 hs,by lia⟩))
   |some t=>
    refine Zq (wpS_mono (Yg (I:=λy c st3=>c=(none,())∧(SB a0 κ st3∧Ch K (arrOf st3) 0 (pendingOf st3).toList lo)∧SR K (arrOf st3) lo (lo+n)) (Q:=λc st3=>c=(none,())∧(SB a0 κ st3∧Ch K (arrOf st3) 0 (pendingOf st3).toList lo)∧SR K (arrOf st3) lo (lo+n)) ?_ ?_ ⟨rfl,hJ,hs⟩) ?_)
    ·rintro y c st3 _ hy ⟨rfl,hJ3,hs3⟩;refine Zq (wpS_get ?_);dsimp only;by_cases hp1:(pendingOf st3).size>1
     ·have e1:(if(pendingOf st3).size>1 then(pendingOf st3)[(pendingOf st3).size-2]? else none)=some ((pendingOf st3)[(pendingOf st3).size-2]'(by lia)):=by rw[if_pos hp1,getElem?_pos]
      rw[e1];generalize((pendingOf st3)[(pendingOf st3).size-2]'(by lia))=u;by_cases ho:u.2.2≤power' a0.size (2*t.1+t.2.1) (2*t.1+t.2.1+t.2.1+n) a0.size
      ·exact wpS_T ho (Zx ⟨rfl,hJ3,hs3⟩)
      ·refine wpS_F ho (Zq (a6R' C ⟨hJ3.1,hJ3.2,by lia⟩ (by lia) λst4 I4 _ hF4=>?_));refine wpS_F (by decide) (Zx ⟨rfl,⟨I4.b,I4.ch⟩,λi j k1 k2 k3=>?_⟩);rw[a1w' (hF4 i k1),a1w' (hF4 j (by lia))];exact hs3 i j k1 k2 k3
     ·rw[if_neg hp1];exact Zx ⟨rfl,hJ3,hs3⟩
    ·rintro c st3 hh;exact hh
    ·rintro c st3 ⟨rfl,hJ3,hs3⟩;refine Zq (wpS_modify ?_);refine Zq (wpS_modify (Zx ⟨lo+n,rfl,push _ ⟨hJ3.1.perm,hJ3.1.failed,hJ3.1.kind⟩ ?_ hs3,by lia⟩));show Ch K (arrOf st3) 0 ((pendingOf st3).modify _ _).toList lo;rw[Array.toList_modify];exact Ch.modify (f:=λx=>(x.1,x.2.1,power' a0.size (2*t.1+t.2.1) (2*t.1+t.2.1+t.2.1+n) a0.size)) (λ_=>⟨rfl,rfl⟩) hJ3.2
  ·refine Zq (wpS_lift (wpAny_rule ⟨rfl,?_⟩));obtain⟨hm1,hm2,hms⟩:=hH;have hc:n<minRun' a0.size a0.size 0:=hc;refine Zq (a5m' C (I.b.arr hp) (lo:=lo) (by lia) (by lia) hms λzs hp2 hF2 hs2=>?_);refine wpS_F (by decide) (key _ _ ⟨⟨I.b.arr (hp2.trans hp),chF λi hi=>(hF2 i (.inl hi)).trans (hF i (.inl hi))⟩,hs2,by lia,by lia⟩)
 ·rintro c st' ⟨lo,rfl,I,hx⟩;exact⟨lo,rfl,I,by lia⟩
 ·rintro c st1 ⟨lo,rfl,I,hx⟩;have elo:lo=a0.size:=by have:=I.le;lia
  subst elo;refine Zq (wpS_mono (Yg (I:=λy c st2=>c=(none,())∧SI a0 κ K a0.size st2∧(pendingOf st2).size≤1+(a0.size-y)) (Q:=λc st2=>c=(none,())∧SI a0 κ K a0.size st2∧(pendingOf st2).size≤1) ?_ ?_ ⟨rfl,I,?_⟩) ?_)
  ·rintro y c st2 _ hy ⟨rfl,I2,hz⟩;refine Zq (wpS_get ?_);by_cases hp1:(pendingOf st2).size≤1
   ·exact wpS_T hp1 (Zx ⟨rfl,I2,hp1⟩)
   ·refine wpS_F hp1 (Zq (a6R' C I2 (by have hif:∀(c:Prop) [Decidable c] (x y:Nat),x≤y→(if c then x else y)≤y:=(λc _ x y hxy=>by split<;>lia);exact Nat.lt_of_le_of_lt (Nat.succ_le_succ (hif _ _ _ (Nat.sub_le _ 1))) (by lia)) λst3 I3 hz3 _=>?_));exact wpS_F (by decide) (Zx ⟨rfl,I3,by lia⟩)
  ·rintro c st2 ⟨rfl,I2,hz⟩;exact⟨rfl,I2,by lia⟩
  ·have:=I.ch.len;rw[Zt]at this;lia
  ·rintro c st2 ⟨rfl,I2,hz⟩;refine Zx (h st2 I2.b ?_);have hc:=I2.ch;have hl:(pendingOf st2).toList.length≤1:=by rwa [Zt]
   generalize(pendingOf st2).toList=L at hc hl;cases L with
   |nil=>exact absurd (show 0=a0.size from hc) (by lia)
   |cons t r=>
    cases r with
    |nil=>obtain⟨e1,e2,e3,e4⟩:=hc;have e4:0+t.2.1=a0.size:=e4;rw[e4]at e3;exact e3
    |cons _ _=>simp at hl
end
end Srt
end
section
set_option autoImplicit false
namespace Py
open PySem PySem.W PySem.Spec PyProof.Rows Srt
structure SOrd (n:Nat)(c:Nat→Nat→Bool):Prop where
 irr:∀i,i<n→c i i=false
 asym:∀i j,i<n→j<n→c i j=true→c j i=false
 ntr:∀i j k,i<n→j<n→k<n→c i j=false→c j k=false→c i k=false
noncomputable def rankN(n:Nat)(c:Nat→Nat→Bool)(i:Nat):Nat:=((List.range n).filter λj=>c j i).length
theorem b5A'{f g:Nat→Bool}:∀(l:List Nat),(∀x∈l,f x=true→g x=true)→(l.filter f).length≤(l.filter g).length
 | [],_=>Zi _
 |x::l,h=>by
  have ih:=b5A' l λy hy=>h y (Zc _ hy);have hx:=h x Zb;rw[List.filter_cons,List.filter_cons];cases e1:f x<;>cases e2:g x
  ·exact ih
  ·exact Nat.le_succ_of_le ih
  ·rw[e1,e2]at hx;cases hx rfl
  ·exact Nat.succ_le_succ ih
theorem b5B'{f g:Nat→Bool}:∀(l:List Nat),(∀x∈l,f x=true→g x=true)→(∃x∈l,f x=false∧g x=true)→(l.filter f).length<(l.filter g).length
 | [],_,h=>by obtain⟨x,hx,_⟩:=h;cases hx
 |x::l,h,k=>by
  have hx:=h x Zb;have hl:=λy hy=>h y (Zc x hy);have le:=b5A' l hl;rw[List.filter_cons,List.filter_cons];cases e1:f x<;>cases e2:g x
  ·obtain⟨y,hy,k1,k2⟩:=k;rcases Zj.mp hy with rfl|hy
   ·rw[e2]at k2;cases k2
   ·exact b5B' l hl ⟨y,hy,k1,k2⟩
  ·exact Nat.lt_succ_of_le le
  ·rw[e1,e2]at hx;cases hx rfl
  ·obtain⟨y,hy,k1,k2⟩:=k;rcases Zj.mp hy with rfl|hy
   ·rw[e1]at k1;cases k1
   ·exact Nat.succ_lt_succ (b5B' l hl ⟨y,hy,k1,k2⟩)
theorem b4b'(o:SOrd n c){i j:Nat}(hi:i<n)(hj:j<n):c i j=decide (rankN n c i<rankN n c j):=by
 cases e:c i j with
 |true=>
  refine(ZR (b5B' (f:=λk=>c k i) (g:=λk=>c k j) _ (λk hk h=>?_) ⟨i,Yb.mpr hi,o.irr i hi,e⟩)).symm;have hk:=Yb.mp hk;cases e2:c k j with
  |true=>rfl
  |false=>have:=o.ntr k j i hk hj hi e2 (o.asym i j hi hj e);rw[h]at this;cases this
 |false=>
  refine(ZO (Nat.not_lt.mpr (b5A' (f:=λk=>c k j) (g:=λk=>c k i) _ λk hk h=>?_))).symm;have hk:=Yb.mp hk;cases e2:c k i with
  |true=>rfl
  |false=>have:=o.ntr k i j hk hi hj e2 e;rw[h]at this;cases this
theorem a9B'{f:α→β}:∀{l2 m:List β},l2.Perm m→∀l1:List α,m=l1.map f→∃l:List α,l.Perm l1∧l.map f=l2:=by
 intro l2 m p
 induction p with
 |nil=>intro l1 e;cases l1 with
  |nil=>exact⟨[],.refl _,rfl⟩
  |cons _ _=>cases e
 |cons x p ih=>
  intro l1 e;cases l1 with
  |nil=>cases e
  |cons a l1=>rw[ZE]at e;obtain⟨e1,e2⟩:=List.cons.inj e;subst e1;obtain⟨l,h1,h2⟩:=ih l1 e2;exact⟨a::l,h1.cons a,by rw[ZE,h2]⟩
 |swap x y l=>
  intro l1 e;cases l1 with
  |nil=>cases e
  |cons a l1=>
   rw[ZE]at e;obtain⟨e1,e2⟩:=List.cons.inj e;subst e1;cases l1 with
   |nil=>cases e2
   |cons b l1=>rw[ZE]at e2;obtain⟨e3,e4⟩:=List.cons.inj e2;subst e3;exact⟨b::a::l1,.swap a b l1,by rw[ZE,ZE,e4]⟩
 |trans p q ih1 ih2=>intro l1 e;obtain⟨l,h1,h2⟩:=ih2 l1 e;obtain⟨l',h3,h4⟩:=ih1 l h2.symm;exact⟨l',h3.trans h1,h4⟩
open Classical in
noncomputable def idxOf(its:Lv)(x:Keyed):Nat:=if h:∃i,i<its.length∧its.getD i Value.none=x.1 then h.choose else 0
theorem run_any(o:SOrd its.length c)(same:∀i j,i<its.length→j<its.length→its.getD i Value.none=its.getD j Value.none→rankN its.length c i=rankN its.length c j)(h2:2≤its.length)
  (ask:∀i j C,i<its.length→j<its.length→C (c i j) s→kas_ask prog w A κ its i j C s) {Q:SortSt→Shared→Prop}
  (h:∀(st':SortSt) (p:List Nat),failedOf st'=none→(arrOf st').map (·.2)=List.toArray (p.map λi=>its.getD i Value.none)→p.Perm (List.range its.length)→p.Pairwise (λi j=>c j i=false)→Q st' s):
  wpAny (model prog w) A ((sortRuns').run (SortSt.mk' κ (its.toArray.zip its.toArray) #[] 7 none)) (λr s'=>Q r.2 s') E s:=by
 have hidx:∀i,i<its.length→idxOf its (its.getD i Value.none,its.getD i Value.none)<its.length∧its.getD (idxOf its (its.getD i Value.none,its.getD i Value.none)) Value.none=its.getD i Value.none:=λi hi=>by have hx:∃j,j<its.length∧its.getD j Value.none=its.getD i Value.none:=⟨i,hi,rfl⟩;unfold idxOf;rw[dif_pos hx];exact hx.choose_spec
 have hel:∀x∈(its.toArray.zip its.toArray).toList,∃i,i<its.length∧x=(its.getD i Value.none,its.getD i Value.none):=λx hx=>by
  rw[Array.toList_zip]at hx;obtain⟨i,hi,rfl⟩:=ZX.mp hx;have hi':i<its.length:=by simp at hi;exact hi
  refine⟨i,hi',?_⟩;have e:its.getD i Value.none=its[i]:=by simp[List.getD,hi']
  rw[e];simp
 have C:Cmp prog w A s κ (· ∈(its.toArray.zip its.toArray).toList) (λx=>rankN its.length c (idxOf its x)):=⟨λx hx y hy Q E hQ=>by obtain⟨i,hi,rfl⟩:=hel x hx;obtain⟨j,hj,rfl⟩:=hel y hy;obtain⟨i1,i2⟩:=hidx i hi;obtain⟨j1,j2⟩:=hidx j hj;rw[←b4b' o i1 j1]at hQ;have:=ask _ _ Q i1 j1 hQ;unfold kas_ask at this;rw[i2,j2]at this;exact wpAny_mono this (λ_ _ q=>q) λ_ _ z=>z.elim⟩;have hz:(its.toArray.zip its.toArray).size=its.length:=by simp
 have run:=a6S' (E:=E) (st:=SortSt.mk' κ (its.toArray.zip its.toArray) #[] 7 none) C ⟨.refl _,rfl,rfl⟩ rfl (by rw[hz];exact h2) (Q:=λ_ st'=>Q st' s) λst' B hs=>by
  have hr:(its.toArray.zip its.toArray).toList=(List.range its.length).map λi=>(its.getD i Value.none,its.getD i Value.none):=by
   apply List.ext_getElem
   ·simp
   ·intro i h1 h2;have hi:i<its.length:=by simpa using h2
    have e:its.getD i Value.none=its[i]:=by simp[List.getD,hi]
    simp only[List.getElem_map,List.getElem_range,e];simp
  obtain⟨p,p1,p2⟩:=a9B' (Array.perm_iff_toList_perm.mp B.perm) _ hr;refine h st' p B.failed ?_ p1 ?_
  ·apply Array.toList_inj.mp;rw[Array.toList_map,←p2,Z3];rfl
  ·refine List.pairwise_iff_getElem.mpr λi j hi hj hij=>?_;have hpl:p.length=its.length:=by rw[p1.length_eq,List.length_range]
   have pi:p[i]<its.length:=Yb.mp (p1.mem_iff.mp (ZY hi));have pj:p[j]<its.length:=Yb.mp (p1.mem_iff.mp (ZY hj));have hsz:(arrOf st').size=its.length:=by rw[B.perm.size_eq,hz]
   have:=hs i j (Nat.zero_le _) (Nat.le_of_lt hij) (by rw[hz];omega)
   have ge:∀(k:Nat) (hk:k<p.length),R (λx=>rankN its.length c (idxOf its x)) (arrOf st') k=rankN its.length c p[k]:=λk hk=>by
    have hk':k<(arrOf st').size:=by omega
    rw[R_of hk']
    have e:(arrOf st')[k]=(its.getD p[k] Value.none,its.getD p[k] Value.none):=by
     have e1:(arrOf st').toList[k]?=some (its.getD p[k] Value.none,its.getD p[k] Value.none):=by rw[←p2,ZW,Ze hk];rfl
     rw[ZS,getElem?_pos (arrOf st') k hk']at e1;exact Z6 e1
    rw[e];have pk:p[k]<its.length:=Yb.mp (p1.mem_iff.mp (ZY hk));obtain⟨q1,q2⟩:=hidx p[k] pk;exact same _ _ q1 pk q2
   rw[ge i hi,ge j hj]at this;rw[b4b' o pj pi];exact ZO (by omega)
 exact wpAny_mono run (λr s' hr=>by obtain⟨rfl,q⟩:=hr;exact q) λ_ _ e=>e
end Py
end
namespace Py
structure LOrd (P:D→Prop)(f:D→D→Bool):Prop where
 irr:∀x,P x→f x x=false
 asym:∀x y,P x→P y→f x y=true→f y x=false
 ntr:∀x y z,P x→P y→P z→f x y=false→f y z=false→f x z=false
 tot:∀x y,P x→P y→f x y=false→f y x=false→x=y
section
variable {P:D→Prop}{f:D→D→Bool}
theorem b4c'(o:LOrd P f):∀(xs:List D),(∀x∈xs,P x)→lexB f xs xs=false
 | [],_=>rfl
 |x::xs,h=>by unfold lexB;rw[o.irr x (h x Zb)];simpa using b4c' o xs λy hy=>h y (Zc _ hy)
theorem b1l'(o:LOrd P f):∀(xs ys:List D),(∀x∈xs,P x)→(∀x∈ys,P x)→lexB f xs ys=true→lexB f ys xs=false
 | [],[],_,_,h=>by cases h
 | [],_::_,_,_,_=>rfl
 |_::_,[],_,_,h=>by cases h
 |x::xs,y::ys,h1,h2,h=>by
  unfold lexB at h⊢;have px:=h1 x Zb;have py:=h2 y Zb;cases e:f x y with
  |true=>rw[o.asym x y px py e];simp
  |false=>
   rw[e]at h;cases e2:f y x with
   |true=>rw[e2]at h;simp at h
   |false=>rw[e2]at h;simp only[ZT,if_false]at h⊢;exact b1l' o xs ys (λz hz=>h1 z (Zc _ hz)) (λz hz=>h2 z (Zc _ hz)) h
theorem lex_tot(o:LOrd P f):∀(xs ys:List D),(∀x∈xs,P x)→(∀x∈ys,P x)→lexB f xs ys=false→lexB f ys xs=false→xs=ys
 | [],[],_,_,_,_=>rfl
 | [],_::_,_,_,h,_=>by cases h
 |_::_,[],_,_,_,h=>by cases h
 |x::xs,y::ys,h1,h2,h,h'=>by
  unfold lexB at h h';have px:=h1 x Zb;have py:=h2 y Zb;cases e:f x y with
  |true=>rw[e]at h;simp at h
  |false=>
   cases e2:f y x with
   |true=>rw[e2]at h';simp at h'
   |false=>rw[e,e2]at h h';simp only[ZT,if_false]at h h';rw[o.tot x y px py e e2,lex_tot o xs ys (λz hz=>h1 z (Zc _ hz)) (λz hz=>h2 z (Zc _ hz)) h h']
theorem b4d'(o:LOrd P f):∀(xs ys zs:List D),(∀x∈xs,P x)→(∀x∈ys,P x)→(∀x∈zs,P x)→lexB f xs ys=false→lexB f ys zs=false→lexB f xs zs=false
 | [],[],zs,_,_,_,_,h=>h
 | [],_::_,_,_,_,_,h,_=>by cases h
 |_::_,_,[],_,_,_,_,_=>rfl
 |x::xs,[],z::zs,_,_,_,_,h=>by cases h
 |x::xs,y::ys,z::zs,h1,h2,h3,ha,hb=>by
  have px:=h1 x Zb;have py:=h2 y Zb;have pz:=h3 z Zb;unfold lexB at ha hb⊢;cases e1:f x y with
  |true=>rw[e1]at ha;simp at ha
  |false=>
   cases e2:f y z with
   |true=>rw[e2]at hb;simp at hb
   |false=>
    rw[e1]at ha;rw[e2]at hb;simp only[ZT,if_false]at ha hb;rw[o.ntr x y z px py pz e1 e2];simp only[ZT,if_false];cases e3:f z x with
    |true=>rfl
    |false=>have e4:f y x=false:=o.ntr y z x py pz px e2 e3;have e5:f z y=false:=o.ntr z x y pz px py e3 e1;rw[e4]at ha;rw[e5]at hb;simp only[ZT,if_false]at ha hb⊢;exact b4d' o xs ys zs (λw hw=>h1 w (Zc _ hw)) (λw hw=>h2 w (Zc _ hw)) (λw hw=>h3 w (Zc _ hw)) ha hb
end
theorem a2Y'(h:hasTy .int d=true):∃i,d=.int i:=by cases d<;>first|exact⟨_,rfl⟩| (simp[hasTy]at h)
theorem a2p'{t:KTy}(h:hasTy (.seq t) d=true):∃xs,d=.tup xs∧∀x∈xs,hasTy t x=true:=by
 cases d with
 |tup xs=>unfold hasTy at h;exact⟨xs,rfl,λx hx=>ZQ.mp h x hx⟩
 |_=>simp[hasTy]at h
theorem lordK:∀(t:KTy),noStr t=true→LOrd (λd=>hasTy t d=true) (ltK t)
 | .int,_=>by
  refine⟨λx h=>?_,λx y h1 h2 h=>?_,λx y z h1 h2 h3 ha hb=>?_,λx y h1 h2 ha hb=>?_⟩
  ·obtain⟨i,rfl⟩:=a2Y' h;simp[ltK]
  ·obtain⟨i,rfl⟩:=a2Y' h1;obtain⟨j,rfl⟩:=a2Y' h2;simp[ltK]at h⊢;omega
  ·obtain⟨i,rfl⟩:=a2Y' h1;obtain⟨j,rfl⟩:=a2Y' h2;obtain⟨k,rfl⟩:=a2Y' h3;simp[ltK]at ha hb⊢;omega
  ·obtain⟨i,rfl⟩:=a2Y' h1;obtain⟨j,rfl⟩:=a2Y' h2;simp[ltK]at ha hb;congr 1;omega
 | .seq t,h=>by
  have o:=lordK t h;refine⟨λx h=>?_,λx y h1 h2 h=>?_,λx y z h1 h2 h3 ha hb=>?_,λx y h1 h2 ha hb=>?_⟩
  ·obtain⟨xs,rfl,k⟩:=a2p' h;exact b4c' o xs k
  ·obtain⟨xs,rfl,k1⟩:=a2p' h1;obtain⟨ys,rfl,k2⟩:=a2p' h2;exact b1l' o xs ys k1 k2 h
  ·obtain⟨xs,rfl,k1⟩:=a2p' h1;obtain⟨ys,rfl,k2⟩:=a2p' h2;obtain⟨zs,rfl,k3⟩:=a2p' h3;exact b4d' o xs ys zs k1 k2 k3 ha hb
  ·obtain⟨xs,rfl,k1⟩:=a2p' h1;obtain⟨ys,rfl,k2⟩:=a2p' h2;exact congrArg D.tup (lex_tot o xs ys k1 k2 ha hb)
def eqK(t:KTy)(d e:D):Bool:= !ltK t d e&& !ltK t e d
theorem b1m'{t:KTy}(hs:noStr t=true){e:D}(h1:hasTy t d=true)(h2:hasTy t e=true)(h:eqK t d e=true):d=e:=by unfold eqK at h;simp at h;exact(lordK t hs).tot d e h1 h2 h.1 h.2
theorem a2J'{f:D→D→Bool}{x y:D}:lexB f (x::xs) (y::ys)=if f x y=true then true else if f y x=true then false else lexB f xs ys:=rfl
theorem b4e'{t:KTy}(hs:noStr t=true):∀(xs ys:List D),(∀x∈xs,hasTy t x=true)→(∀x∈ys,hasTy t x=true)→eqK (.seq t) (.tup xs) (.tup ys)=((List.zipWith (eqK t) xs ys).all id&&xs.length==ys.length)
 | [],[],_,_=>rfl
 | [],y::ys,_,_=>by simp[eqK,ltK,lexB]
 |x::xs,[],_,_=>by simp[eqK,ltK,lexB]
 |x::xs,y::ys,h1,h2=>by
  have ih:=b4e' hs xs ys (λw hw=>h1 w (Zc _ hw)) (λw hw=>h2 w (Zc _ hw));have px:=h1 x Zb;have py:=h2 y Zb;cases e:ltK t x y with
  |true=>
   have:eqK t x y=false:=by simp[eqK,e]
   simp[eqK,ltK,lexB,e]
  |false=>
   cases e2:ltK t y x with
   |true=>simp[eqK,ltK,lexB,e,e2]
   |false=>
    have e3:eqK t x y=true:=by simp[eqK,e,e2]
    have e4:eqK (.seq t) (.tup (x::xs)) (.tup (y::ys))=eqK (.seq t) (.tup xs) (.tup ys):=by show(!lexB (ltK t) (x::xs) (y::ys)&& !lexB (ltK t) (y::ys) (x::xs))=(!lexB (ltK t) xs ys&& !lexB (ltK t) ys xs);rw[a2J',a2J',e,e2];simp
    rw[e4,ih];simp[e3]
theorem allO_map(f:D→D→Bool):∀(xs ys:List D) (g:D→D→Option Bool),(∀x∈xs,∀y∈ys,g x y=some (f x y))→allO (List.zipWith g xs ys)=some ((List.zipWith f xs ys).all id)
 | [],_,_,_=>rfl
 |_::_,[],_,_=>rfl
 |x::xs,y::ys,g,h=>by
  have ih:=allO_map f xs ys g λa ha b hb=>h a (Zc _ ha) b (Zc _ hb)
  show(match g x y,allO (List.zipWith g xs ys)with
   |some b,some c=>some (b&&c)
   |_,_=>none)=_
  rw[h x Zb y Zb,ih];rfl
theorem b4f'{t:KTy}(hs:noStr t=true){eq lt:D→D→Option Bool}:∀(xs ys:List D),(∀x∈xs,hasTy t x=true)→(∀x∈ys,hasTy t x=true)→(∀x∈xs,∀y∈ys,eq x y=some (eqK t x y)∧lt x y=some (ltK t x y))→ltL eq lt xs ys=some (lexB (ltK t) xs ys)
 | [],[],_,_,_=>rfl
 | [],_::_,_,_,_=>rfl
 |_::_,[],_,_,_=>rfl
 |x::xs,y::ys,h1,h2,h=>by
  have ih:=b4f' hs xs ys (λw hw=>h1 w (Zc _ hw)) (λw hw=>h2 w (Zc _ hw)) λa ha b hb=>h a (Zc _ ha) b (Zc _ hb);obtain⟨k1,k2⟩:=h x Zb y Zb;have px:=h1 x Zb;have py:=h2 y Zb;unfold ltL;rw[k1,a2J'];cases e:ltK t x y with
  |true=>
   have e1:eqK t x y=false:=by simp[eqK,e]
   rw[e1];show lt x y=_;rw[k2,e];rfl
  |false=>
   cases e2:ltK t y x with
   |true=>
    have e1:eqK t x y=false:=by simp[eqK,e,e2]
    rw[e1];show lt x y=_;rw[k2,e];rfl
   |false=>
    have e1:eqK t x y=true:=by simp[eqK,e,e2]
    rw[e1];exact ih
theorem asK(S:Store):∀(t:KTy),noStr t=true→∀n,depth t≤n→∀d e,hasTy t d=true→hasTy t e=true→eqF S n d e=some (eqK t d e)∧ltF S n d e=some (ltK t d e)
 | .int,_,0,h,_,_,_,_=>by simp[depth]at h
 | .int,_,n+1,_,d,e,h1,h2=>by
  obtain⟨i,rfl⟩:=a2Y' h1;obtain⟨j,rfl⟩:=a2Y' h2;refine⟨?_,rfl⟩;show some (i==j)=some (!decide (i<j)&& !decide (j<i));congr 1;by_cases z:i=j
  ·subst z;simp
  ·rcases Int.lt_or_gt_of_ne z with y|y
   ·simp[z,y]
   ·have:¬i<j:=by omega
    simp[z,y]
 | .seq t,hs,0,h,_,_,_,_=>by simp[depth]at h
 | .seq t,hs,n+1,h,d,e,h1,h2=>by obtain⟨xs,rfl,k1⟩:=a2p' h1;obtain⟨ys,rfl,k2⟩:=a2p' h2;have ih:=asK S t hs n (by simpa[depth]using h);refine⟨?_,b4f' (t:=t) hs xs ys k1 k2 λx hx y hy=>ih x y (k1 x hx) (k2 y hy)⟩;show(allO (List.zipWith (eqF S n) xs ys)).map (· &&xs.length==ys.length)=_;rw[allO_map (eqK t) xs ys _ λx hx y hy=>(ih x y (k1 x hx) (k2 y hy)).1,b4e' (t:=t) hs xs ys k1 k2];rfl
theorem a6g'(f:D→D→Bool)(x:D):∀l,(insB f x l).Perm (x::l)
 | []=>.refl _
 |y::ys=>by
  unfold insB;split
  ·exact .refl _
  ·exact((a6g' f x ys).cons y).trans (.swap _ _ _)
theorem a1I'(f:D→D→Bool)(xs:List D):(a4G' f xs).Perm xs:=by
 have key:∀(xs acc:List D),(xs.foldl (λacc x=>insB f x acc) acc).Perm (acc++xs):=by
  intro xs
  induction xs with
  |nil=>intro acc;simp
  |cons x xs ih=>intro acc;refine(ih (insB f x acc)).trans ?_;refine((a6g' f x acc).append_right xs).trans ?_;exact List.perm_middle.symm
 simpa[a4G']using key xs []
theorem a6T'{P:D→Prop}{f:D→D→Bool}(o:LOrd P f)(x:D)(px:P x):∀l,(∀y∈l,P y)→l.Pairwise (λa b=>f b a=false)→(insB f x l).Pairwise (λa b=>f b a=false)
 | [],_,_=>by simp[insB]
 |y::ys,hp,h=>by
  unfold insB;have py:=hp y Zb;obtain⟨h1,h2⟩:=ZM.mp h;split
  ·rename_i hlt;refine ZM.mpr ⟨λz hz=>?_,h⟩;have yx:=o.asym x y px py hlt;rcases Zj.mp hz with rfl|hz
   ·exact yx
   ·exact o.ntr z y x (hp z (Zc _ hz)) py px (h1 z hz) yx
  ·rename_i hlt;refine ZM.mpr ⟨λz hz=>?_,a6T' o x px ys (λw hw=>hp w (Zc _ hw)) h2⟩;rcases Zj.mp ((a6g' f x ys).mem_iff.mp hz)with rfl|hz
   ·simpa using hlt
   ·exact h1 z hz
theorem a4J'{P:D→Prop}{f:D→D→Bool}(o:LOrd P f)(xs:List D)(hp:∀x∈xs,P x):(a4G' f xs).Pairwise (λa b=>f b a=false):=by
 have key:∀(xs acc:List D),(∀x∈xs,P x)→(∀x∈acc,P x)→acc.Pairwise (λa b=>f b a=false)→(xs.foldl (λacc x=>insB f x acc) acc).Pairwise (λa b=>f b a=false):=by
  intro xs
  induction xs with
  |nil=>intro acc _ _ h;exact h
  |cons x xs ih=>
   intro acc h1 h2 h;have px:=h1 x Zb;refine ih (insB f x acc) (λy hy=>h1 y (Zc _ hy)) (λy hy=>?_) (a6T' o x px acc h2 h);rcases Zj.mp ((a6g' f x acc).mem_iff.mp hy)with rfl|hy
   ·exact px
   ·exact h2 y hy
 exact key xs [] hp (by simp) .nil
theorem a4K'{t:KTy}(hs:noStr t=true)(hp:∀x∈xs,hasTy t x=true)(p:ys.Perm xs)(s:ys.Pairwise (λa b=>ltK t b a=false)):ys=a4G' (ltK t) xs:=by have o:=lordK t hs;refine List.Perm.eq_of_pairwise (le:=λa b=>ltK t b a=false) (λa b ha hb h1 h2=>?_) s (a4J' o xs hp) (p.trans (a1I' _ _).symm);exact o.tot a b (hp a (p.mem_iff.mp ha)) (hp b ((a1I' _ _).mem_iff.mp hb)) h2 h1
open PySem PySem.W PySem.Spec PyProof.Rows
def Outs(its:Lv)(c:Nat→Nat→Bool)(out:Lv):Prop:=∃p:List Nat,out=p.map (λi=>its.getD i Value.none)∧p.Perm (List.range its.length)∧p.Pairwise (λi j=>c j i=false)
theorem a4L'{n0:Nat}{P:PySem.Fin→Shared→Prop}(ho:s.heap.get? a=some (seqObj "list" its.toArray n0))(h64:its.length≤sizeLine)
  (hk:2≤its.length→∃κ:SortKind,SOrd its.length c∧(∀i j,i<its.length→j<its.length→its.getD i Value.none=its.getD j Value.none→rankN its.length c i=rankN its.length c j)∧∀h':Heap,(∀b o,b≠a→s.heap.get? b=some o→h'.get? b=some o)→
   (∀(Q':SortKind→Shared→Prop),Q' κ {s with heap:=h'}→wpAny (model prog w) A (keyKind' its.toArray) Q' E {s with heap:=h'})∧
   ∀i j C,i<its.length→j<its.length→C (c i j) {s with heap:=h'}→kas_ask prog w A κ its i j C {s with heap:=h'})
  (hP:∀h' c2 out,(∀b o,b≠a→s.heap.get? b=some o→h'.get? b=some o)→h'.get? a=some (seqObj "list" (List.toArray out) c2)→Outs its c out→P (.done (.ret .none)) {s with heap:=h'}):
  wpAny (model prog w) A (Builtin.«list.sort» ⟨[.ref a],[]⟩) P E s:=by
 have ha:a<s.heap.objs.size:=Zr ho;have s1:=Yo s.heap a (Obj.mapSeq λ_=>(#[]:Av));obtain⟨e1,ho1⟩:∃e1,(s.heap.update a (Obj.mapSeq λ_=>(#[]:Av))).get? a=some (seqObj "list" #[] e1):=⟨_,get?_update_seq ho λ_=> #[]⟩
 have keep:∀b o,b≠a→s.heap.get? b=some o→(((s.heap.update a (Obj.mapSeq λ_=>(#[]:Av))).push (seqObj "tuple" its.toArray 0)).push (seqObj "list" #[] 0)).get? b=some o:=λb o hb e=>
  Zd _ (Zd _ ((s1.2 b hb).trans e))
 have ho2:(((s.heap.update a (Obj.mapSeq λ_=>(#[]:Av))).push (seqObj "tuple" its.toArray 0)).push (seqObj "list" #[] 0)).get? a=some (seqObj "list" #[] e1):=Zd _ (Zd _ ho1);rw[list_sort_plain];refine Za (listItems_at ho rfl ?_);refine Za (listUpdate_at ho rfl ?_ (by rw[Zk];exact h64) (Nat.zero_le _));refine Za (seqEpoch_at ho1 rfl ?_);refine Za (wpAny_newTuple ?_ (by show its.length≤_;exact h64));refine Za (wpAny_newList ?_ (Nat.zero_le _));refine wpAny_holding ?_;show wpAny (model prog w) A _ P E {s with heap:=((s.heap.update a (Obj.mapSeq λ_=>(#[]:Av))).push (seqObj "tuple" its.toArray 0)).push (seqObj "list" #[] 0)};generalize((s.heap.update a (Obj.mapSeq λ_=>(#[]:Av))).push (seqObj "tuple" its.toArray 0)).push (seqObj "list" #[] 0)=h1 at*
 have fin:∀(st':SortSt) (out:Lv),(arrOf st').map (·.2)=List.toArray out→failedOf st'=none→out.length=its.length→Outs its c out→
   wpAny (model prog w) A (do
    let touched:=(←seqEpoch a) !=e1
    Builtin.List.listUpdate (.ref a) λ_=>(arrOf st').map (·.2)
    if let some e:=failedOf st' then rule "list.sort.comparison-raised";throw e
    if touched then rule "list.sort.modified";raiseError "ValueError" "list modified during sort"
    ret .none) P E {s with heap:=h1}:=by
  intro st' out hout hf hlen hO;have s2:=Yo h1 a (Obj.mapSeq λ_=>List.toArray out);obtain⟨c2,hc2⟩:∃c2,(h1.update a (Obj.mapSeq λ_=>List.toArray out)).get? a=some (seqObj "list" (List.toArray out) c2):=⟨_,get?_update_seq ho2 λ_=>List.toArray out⟩;rw[hout];refine Za (seqEpoch_at ho2 rfl ?_);refine Za (listUpdate_at ho2 rfl ?_ (Nat.zero_le _) (by rw[Zk,hlen];exact Nat.le_succ_of_le h64));rw[hf];simp only[bne_self_eq_false,ZT,if_false];exact Zf (hP _ c2 out (λb o hb e=>(s2.2 b hb).trans (keep b o hb e)) hc2 hO)
 by_cases h2:2≤its.length
 ·have hn2:¬its.toArray.size<2:=by rw[Zk];omega
  rw[if_neg hn2,if_neg hn2];obtain⟨κ,o,same,hk⟩:=hk h2;obtain⟨k1,k2⟩:=hk h1 keep;refine Za (k1 _ ?_)
  have run:=run_any (E:=E) o same h2 k2 (Q:=λst' s'=>s'={s with heap:=h1}∧failedOf st'=none∧∃out:Lv,(arrOf st').map (·.2)=List.toArray out∧out.length=its.length∧Outs its c out)
   (λst' p hf hout hp hs=>⟨rfl,hf,_,hout,by rw[Zm,hp.length_eq,List.length_range],p,rfl,hp,hs⟩)
  refine Za (wpAny_mono run (λr s' hr=>?_) λ_ _ e=>e);obtain⟨⟨⟩,st'⟩:=r;obtain⟨rfl,hf,out,hout,hlen,hO⟩:=hr;exact fin st' _ hout hf hlen hO
 ·have hn2:its.toArray.size<2:=by rw[Zk];omega
  rw[if_pos hn2,if_pos hn2];refine Za (Zf ?_)
  show wpAny (model prog w) A (do
    let touched:=(←seqEpoch a) !=e1
    Builtin.List.listUpdate (.ref a) λ_=>(arrOf (SortSt.mk' general' (its.toArray.zip its.toArray) #[] 7 none)).map (·.2)
    if let some e:=failedOf (SortSt.mk' general' (its.toArray.zip its.toArray) #[] 7 none)then rule "list.sort.comparison-raised";throw e
    if touched then rule "list.sort.modified";raiseError "ValueError" "list modified during sort"
    ret .none) P E {s with heap:=h1}
  refine fin _ its ?_ rfl rfl ⟨List.range its.length,?_,.refl _,?_⟩
  ·show(its.toArray.zip its.toArray).map (·.2)=its.toArray;apply Array.toList_inj.mp;rw[Array.toList_map,Array.toList_zip];exact List.map_snd_zip (Zi _)
  ·refine List.ext_getElem (by simp) λi h1 h2=>?_;simp[h1]
  ·match its,h2 with
   | [],_=>simp
   | [_],_=>simp
   |_::_::_,h2=>simp at h2
end Py
namespace Py
open PySem PySem.W PySem.Spec PyProof.Rows L2
theorem a9C'{b:Bool}{l:Addr}{Q:Vs}(hl:IsSq b s.heap l its.toArray)(h64:its.length≤sizeLine)
  (hk:2≤its.length→∃κ:SortKind,SOrd its.length c∧(∀i j,i<its.length→j<its.length→its.getD i Value.none=its.getD j Value.none→rankN its.length c i=rankN its.length c j)∧∀h':Heap,(∀b o,s.heap.get? b=some o→h'.get? b=some o)→
   (∀(E':Vs) (Q':SortKind→Shared→Prop),Q' κ {s with heap:=h'}→wpAny (model prog w) A.in1.in1 (keyKind' its.toArray) Q' E' {s with heap:=h'})∧
   ∀i j C,i<its.length→j<its.length→C (c i j) {s with heap:=h'}→kas_ask prog w A.in1.in1 κ its i j C {s with heap:=h'})
  (hQ:∀(h1 h':Heap) c2 out,(∀b o,s.heap.get? b=some o→h1.get? b=some o)→(∀b o,h1.get? b=some o→h'.get? b=some o)→h'.get? h1.objs.size=some (seqObj "list" (List.toArray out) c2)→Outs its c out→Q (.ref h1.objs.size) {s with heap:=h'}):
  wpAny (model prog w) A (call (.builtin "sorted") [.ref l]) Q E s:=by
 refine Calls.call_function_entry kind_sorted plain_sorted entry_sorted (args_sorted1 _) ?_;unfold Builtin.«sorted»;refine Za (m:=checkCount "sorted" 1 1 _) (Zf ?_);have hsz:its.toArray.size≤sizeLine:=by rw[Zk];exact h64
 have go:∀h1:Heap,(∀b o,s.heap.get? b=some o→h1.get? b=some o)→wpAny (model prog w) A.in1 (do
   let l ←newList its
   let _ ←holding [l] (call (.builtin "list.sort") [l])
   ret l) (λfin s'=>∃v,fin=.done (.ret v)∧Q v s') E {s with heap:=h1}:=by
  intro h1 k1;refine Za (wpAny_newList ?_ h64);have hoL:(h1.push (seqObj "list" its.toArray 0)).get? h1.objs.size=some (seqObj "list" its.toArray 0):=Zo _ rfl;refine Za (wpAny_holding (Ye slot_list_sort ⟨_,hoL,rfl⟩ entry_list_sort ?body (args_list_sort _)))
  case body=>
   refine a4L' (c:=c) (s:={s with heap:=h1.push (seqObj "list" its.toArray 0)}) hoL h64 (λh2=>?_) λh' c2 out kp e O=>?_
   ·obtain⟨κ,o,same,hk⟩:=hk h2;refine⟨κ,o,same,λh' kp=>?_⟩;obtain⟨q1,q2⟩:=hk h' λb o e=>kp b o (ZJ (Zr (k1 b o e))) (Zd _ (k1 b o e));exact⟨q1 _,q2⟩
   ·exact⟨_,rfl,Zf ⟨_,rfl,hQ h1 h' c2 out k1 (λb o e=>kp b o (ZJ (Zr e)) (Zd _ e)) e O⟩⟩
 cases b with
 |true=>obtain⟨o,ho,hc,n,hd⟩:=hl;exact Za (wpAny_collect_seq l (.inl rfl) ho hc hd (λh1 k1=>by simpa using go h1 k1) hsz)
 |false=>obtain⟨o,ho,hc,n,hd⟩:=hl;exact Za (wpAny_collect_seq l (.inr rfl) ho hc hd (λh1 k1=>by simpa using go h1 k1) hsz)
theorem cmpK(I:Inv X pq σ H s)(sk:SOk X.K ⟨X.mg,F⟩ μ S H){t:KTy}(hs:noStr t=true)(hd:depth t≤40)(hu:A.units+40<cLine){e:D}(h1:hasTy t d=true)(h2:hasTy t e=true)
  (r1:Rep X.K ⟨X.mg,F⟩ μ H d v) (q1:RelV v u) (r2:Rep X.K ⟨X.mg,F⟩ μ H e v') (q2:RelV v' z):PySem.SeqAt.EqAt A s u z (eqK t d e)∧LtAt A s u z (ltK t d e):=by
 obtain⟨a1,a2⟩:=asK S t hs 40 hd d e h1 h2;exact⟨(rcF I sk 40 A hu d e v v' u z _ r1 q1 r2 q2 a1).2.2,ltF_at I sk 40 A hu d e v v' u z _ r1 q1 r2 q2 a2⟩
theorem b1n'{prog:Program}{w:World}{A:Around}{Q:Bool→Shared→Prop}{t:KTy}{b:Bool}(hb:b=true→t=.int):∀(ds es:List D) (us zs:Lv) (i:Nat),(∀d∈ds,hasTy t d=true)→(∀e∈es,hasTy t e=true)→ds.length=us.length→es.length=zs.length→
  (∀(j:Nat) d e u z,ds[j]?=some d→es[j]?=some e→us[j]?=some u→zs[j]?=some z→PySem.SeqAt.EqAt A s u z (eqK t d e)∧LtAt A s u z (ltK t d e)∧(t=.int→∃a b ta tb,d=.int a∧e=.int b∧u=.int a ta∧z=.int b tb))→
  Q (lexB (ltK t) ds es) s→KatLex prog w A b (decide (us.length<zs.length)) Q (us.zip zs) i s
 | [],[],us,zs,i,_,_,l1,l2,_,q=>by have e1:us=[]:=ZL l1.symm;have e2:zs=[]:=ZL l2.symm;subst e1;subst e2;exact kat_nil q
 | [],e::es,us,zs,i,_,_,l1,l2,_,q=>by
  have e1:us=[]:=ZL l1.symm;subst e1;have:decide (([]:Lv).length<zs.length)=true:=by simp at l2⊢;omega
  rw[this,List.zip_nil_left];exact kat_nil q
 |d::ds,[],us,zs,i,_,_,l1,l2,_,q=>by
  have e1:zs=[]:=ZL l2.symm;subst e1;have:decide (us.length<([]:Lv).length)=false:=by simp
  rw[this,List.zip_nil_right];exact kat_nil q
 |d::ds,e::es,[],zs,i,_,_,l1,_,_,_=>by simp at l1
 |d::ds,e::es,_::_,[],i,_,_,_,l2,_,_=>by simp at l2
 |d::ds,e::es,u::us,z::zs,i,h1,h2,l1,l2,h,q=>by
  obtain⟨k1,k2,k3⟩:=h 0 d e u z rfl rfl rfl rfl;have e0:decide ((u::us).length<(z::zs).length)=decide (us.length<zs.length):=by simp
  rw[e0,List.zip_cons_cons];refine kat_cons (k1 prog w _ _ ?_);rw[a2J']at q
  have no:∀{k:Bool},ltK t d e=k→eqK t d e=false→Q k s→KatGo prog w A b (decide (us.length<zs.length)) Q u z (us.zip zs) i false s:=λ{k} hk _ qk=>by
   clear q;refine kat_no ?_;cases hbi:(b&&i==0)with
   |false=>exact kat_one u z (k2 prog w _ _ (by rw[hk];exact qk))
   |true=>simp only[ZA]at hbi;obtain⟨a,b',ta,tb,rfl,rfl,rfl,rfl⟩:=k3 (hb hbi.1);have ht:=hb hbi.1;subst ht;exact oneLt_int (by rw[show decide (a<b')=k from hk];exact qk)
  cases e1:ltK t d e with
  |true=>
   have ee:eqK t d e=false:=by simp[eqK,e1]
   rw[e1]at q;rw[ee];exact no e1 ee (by simpa using q)
  |false=>
   cases e2:ltK t e d with
   |true=>
    have ee:eqK t d e=false:=by simp[eqK,e1,e2]
    rw[e1,e2]at q;rw[ee];exact no e1 ee (by simpa using q)
   |false=>
    have ee:eqK t d e=true:=by simp[eqK,e1,e2]
    rw[e1,e2]at q;rw[ee];refine kat_yes (b1n' hb ds es us zs (i+1) (λx hx=>h1 x (Zc _ hx)) (λx hx=>h2 x (Zc _ hx)) (by simpa using l1) (by simpa using l2) (λj d' e' u' z' a1 a2 a3 a4=>h (j+1) d' e' u' z' a1 a2 a3 a4) (by simpa using q))
end Py
namespace Py
open PySem PySem.W PySem.Spec PyProof.Rows L2
theorem a8M'{α β:Type}{M:Model}{f:α→Sem β}{g:α→β}:∀(l:List α) {Q:List β→Shared→Prop},(∀v∈l,∀(Q':β→Shared→Prop),Q' (g v) s→wpAny M A (f v) Q' E s)→Q (l.map g) s→wpAny M A (l.mapM f) Q E s
 | [],_,_,h=>by rw[List.mapM_nil];exact Zf h
 |x::l,Q,hf,h=>by rw[List.mapM_cons];exact Za (hf x (.head _) _ (Za (a8M' l (Q:=λbs s'=>wpAny M A (pure (g x::bs)) Q E s') (λv hv=>hf v (.tail _ hv)) (Zf h))))
theorem one_tup{l b:Addr}{vs ws:Lv}{k:Bool}{Q:Bool→Shared→Prop}(hl:s.heap.IsTuple l vs.toArray)(hb:s.heap.IsTuple b ws.toArray)(hu:A.units<cLine)(hx:LexAt A.in1 s vs ws k)(h:Q k s):wpAny (model prog w) A (oneLt' true (.ref l) (.ref b)) Q E s:=by obtain⟨⟨cls,dd,data,sl⟩,ho,hc,n,hd⟩:=id hl;obtain⟨⟨cls2,dd2,data2,sl2⟩,ho2,hc2,n2,hd2⟩:=id hb;simp only at hc hd hc2 hd2;subst hc hd hc2 hd2;rw[oneLt'_eq];simp only[if_true];refine Za (wpAny_cRoomFor hu ?_);refine Za (wpAny_callSpecialIfBound?_slot ⟨_,ho,rfl⟩ PySem.F.slot_tuple_lt (call_meets PySem.F.slot_tuple_lt ⟨_,ho,rfl⟩ PySem.F.entry_tuple_lt (PySem.F.args_tuple_lt_2 _ _) (a6E' l b vs.toArray ws.toArray n n2 dd dd2 sl sl2 k) ⟨ho,ho2,by simpa using hx,?_⟩));exact Yn h
end Py
namespace Py
open PySem PySem.W PySem.Spec PyProof.Rows L2
def tyOf:KTy→String
 | .int=>"int"
 |_=>"tuple"
theorem looksK(I:Inv X pq σ H s){t:KTy}(hs:noStr t=true)(h:hasTy t d=true)(r:Rep X.K ⟨X.mg,F⟩ μ H d v)(q:RelV v u):Looks (model X.prog X.w) s.heap (typeOf u) (.type (tyOf t)):=by
 have tup:∀xs,d=.tup xs→Looks (model X.prog X.w) s.heap (typeOf u) (.type "tuple"):=by
  rintro xs rfl;obtain⟨a,vs,rfl,hq,_⟩:=a0I' r;cases q;obtain⟨its,_,p,_⟩:=I.tuple hq;obtain⟨o,ho,hc,_⟩:=p;have:=(show Looks (model X.prog X.w) s.heap (typeOf (.ref a)) o.cls from(Looks.ld ho).andThen .now)
  rwa [hc]at this
 cases t with
 |int=>obtain⟨i,rfl⟩:=a2Y' h;cases a0b' r;obtain⟨tk,rfl⟩:=q;exact(show Looks (model X.prog X.w) s.heap (typeOf (.int i tk)) (.type "int")from .now)
 |seq t=>obtain⟨xs,rfl,_⟩:=a2p' h;exact tup xs rfl
theorem a6U'(I:Inv X pq σ H s){t:KTy}(hs:noStr t=true):∀(ys:List D) (vs:List V) (its:Lv),(∀d∈ys,hasTy (.seq t) d=true∧d≠.tup [])→RepL X.K ⟨X.mg,F⟩ μ H ys vs→Vals vs its→
  ∃fs,KatTups s.heap its fs∧fs.length=its.length∧∀f∈fs,Looks (model X.prog X.w) s.heap (typeOf f) (.type (tyOf t))
 | [],vs,its,_,r,q=>by unfold RepL at r;subst r;cases q;exact⟨[],KatTups.nil,rfl,λ_ h=>nomatch h⟩
 |d::ys,vs,its,h,r,q=>by
  obtain⟨v,ws,rfl,rd,rr⟩:=r.uncons;cases q with
  |cons q1 q2=>
   rename_i u its';obtain⟨fs,k1,k2,k3⟩:=a6U' I hs ys ws its' (λe he=>h e (Zc _ he)) rr q2;obtain⟨h1,h2⟩:=h d Zb;obtain⟨xs,rfl,hx⟩:=a2p' h1;cases xs with
   |nil=>exact absurd rfl h2
   |cons x xs=>
    obtain⟨a,as,rfl,hq,ra⟩:=a0I' rd;cases q1;obtain⟨us,ru,p,_⟩:=I.tuple hq;obtain⟨w,ws',rfl,rx,_⟩:=ra.uncons;cases ru with
    |cons p1 p2=>
     rename_i f us';obtain⟨o,ho,hc,n,hd⟩:=p;refine⟨f::fs,KatTups.cons ho hc hd (by simp) k1,by simp[k2],λg hg=>?_⟩;rcases Zj.mp hg with rfl|hg
     ·exact looksK I hs (hx x Zb) rx p1
     ·exact k3 g hg
theorem askK(I:Inv X pq σ H s)(sk:SOk X.K ⟨X.mg,F⟩ μ S H){t:KTy}(hs:noStr t=true)(hd:depth t≤40)(hu:A.units+42<cLine){e:D}(h1:hasTy (.seq t) d=true)(h2:hasTy (.seq t) e=true)
  (r1:Rep X.K ⟨X.mg,F⟩ μ H d v) (q1:RelV v u) (r2:Rep X.K ⟨X.mg,F⟩ μ H e v') (q2:RelV v' z)   (hC:C (ltK (.seq t) d e) s):wpAny (model X.prog X.w) A (keyLt' (tuples' (Value.type (tyOf t) !=Value.type "tuple")) u z) C E s:=by
 obtain⟨xs,rfl,hx⟩:=a2p' h1;obtain⟨ys,rfl,hy⟩:=a2p' h2;obtain⟨a,as,rfl,ha,ra⟩:=a0I' r1;obtain⟨b,bs,rfl,hb,rb⟩:=a0I' r2;cases q1;cases q2;obtain⟨us,ru,pa,_⟩:=I.tuple ha;obtain⟨zs,rz,pb,_⟩:=I.tuple hb;obtain⟨oa,ea,_,na,da⟩:=pa;obtain⟨ob,eb,_,nb,db⟩:=pb;refine kat_lt ea da eb db ?_;have l1:xs.length=us.length:=by rw[ra.length,ru.length]
 have l2:ys.length=zs.length:=by rw[rb.length,rz.length]
 have:=b1n' (prog:=X.prog) (w:=X.w) (A:=A) (s:=s) (Q:=C) (t:=t) (b:=(Value.type (tyOf t) !=Value.type "tuple")) (λhb=>?_) xs ys us zs 0 hx hy l1 l2 (λj d e u z g1 g2 g3 g4=>?_) hC
 ·simpa using this
 ·cases t with
  |int=>rfl
  |seq t=>exact absurd hb (by show ¬((Value.type "tuple" !=Value.type "tuple")=true);decide)
 ·obtain⟨w1,e1,k1⟩:=ra.get g1;obtain⟨w2,e2,k2⟩:=rb.get g2;obtain⟨u',e3,k3⟩:=ru.get e1;obtain⟨z',e4,k4⟩:=rz.get e2;rw[g3]at e3;cases e3;rw[g4]at e4;cases e4;obtain⟨c1,c2⟩:=cmpK I sk hs hd (A:=A) (by omega) (hx d (ZI g1)) (hy e (ZI g2)) k1 k3 k2 k4;refine⟨c1,c2,λht=>?_⟩;subst ht;obtain⟨i,rfl⟩:=a2Y' (hx d (ZI g1));obtain⟨j,rfl⟩:=a2Y' (hy e (ZI g2));cases a0b' k1;cases a0b' k2;obtain⟨ta,rfl⟩:=k3;obtain⟨tb,rfl⟩:=k4;exact⟨i,j,ta,tb,rfl,rfl,rfl,rfl⟩
theorem b4g'{A:Around}{t:KTy}(hs:noStr t=true):∀(ds es:List D) (us zs:Lv),(∀d∈ds,hasTy t d=true)→(∀e∈es,hasTy t e=true)→ds.length=us.length→es.length=zs.length→(∀(j:Nat) d e u z,ds[j]?=some d→es[j]?=some e→us[j]?=some u→zs[j]?=some z→PySem.SeqAt.EqAt A s u z (eqK t d e)∧LtAt A s u z (ltK t d e))→LexAt A s us zs (lexB (ltK t) ds es)
 | [],[],us,zs,_,_,l1,l2,_=>by cases ZL l1.symm;cases ZL l2.symm;exact .nn
 | [],e::es,us,zs,_,_,l1,l2,_=>by
  cases ZL l1.symm;cases zs with
  |nil=>cases l2
  |cons z zs=>exact .nc
 |d::ds,[],us,zs,_,_,l1,l2,_=>by
  cases ZL l2.symm;cases us with
  |nil=>cases l1
  |cons u us=>exact .cn
 |d::ds,e::es,us,zs,h1,h2,l1,l2,hc=>by
  cases us with
  |nil=>cases l1
  |cons u us=>
   cases zs with
   |nil=>cases l2
   |cons z zs=>
    have t1:=h1 d Zb;have t2:=h2 e Zb;obtain⟨c1,c2⟩:=hc 0 d e u z rfl rfl rfl rfl;have lo:=lordK t hs;cases ek:eqK t d e with
    |true=>rw[ek]at c1;have hde:=b1m' hs t1 t2 ek;subst hde;rw[a2J',lo.irr d t1];exact .eq c1 (b4g' hs ds es us zs (λx hx=>h1 x (Zc _ hx)) (λx hx=>h2 x (Zc _ hx)) (Nat.succ.inj l1) (Nat.succ.inj l2) λj d e u z g1 g2 g3 g4=>hc (j+1) d e u z g1 g2 g3 g4)
    |false=>
     rw[ek]at c1
     have:lexB (ltK t) (d::ds) (e::es)=ltK t d e:=by
      rw[a2J'];cases l:ltK t d e with
      |true=>rfl
      |false=>
       cases l':ltK t e d with
       |true=>rfl
       |false=>unfold eqK at ek;rw[l,l']at ek;cases ek
     rw[this];exact .lt c1 c2
theorem askK0(I:Inv X pq σ H s)(sk:SOk X.K ⟨X.mg,F⟩ μ S H){t:KTy}(hs:noStr t=true)(hd:depth t≤40)(hu:A.units+42<cLine){e:D}(h1:hasTy (.seq t) d=true)(h2:hasTy (.seq t) e=true)
  (r1:Rep X.K ⟨X.mg,F⟩ μ H d v) (q1:RelV v u) (r2:Rep X.K ⟨X.mg,F⟩ μ H e v') (q2:RelV v' z)   (hC:C (ltK (.seq t) d e) s):wpAny (model X.prog X.w) A (keyLt' oneType' u z) C E s:=by
 obtain⟨xs,rfl,hx⟩:=a2p' h1;obtain⟨ys,rfl,hy⟩:=a2p' h2;obtain⟨a,as,rfl,ha,ra⟩:=a0I' r1;obtain⟨b,bs,rfl,hb,rb⟩:=a0I' r2;cases q1;cases q2;obtain⟨us,ru,pa,_⟩:=I.tuple ha;obtain⟨zs,rz,pb,_⟩:=I.tuple hb;have l1:xs.length=us.length:=by rw[ra.length,ru.length]
 have l2:ys.length=zs.length:=by rw[rb.length,rz.length]
 rw[keyLt'_oneType];refine one_tup pa pb (by omega) (b4g' hs xs ys us zs hx hy l1 l2 λj d e u z g1 g2 g3 g4=>?_) hC;obtain⟨w1,e1,k1⟩:=ra.get g1;obtain⟨w2,e2,k2⟩:=rb.get g2;obtain⟨u',e3,k3⟩:=ru.get e1;obtain⟨z',e4,k4⟩:=rz.get e2;rw[g3]at e3;cases e3;rw[g4]at e4;cases e4;exact cmpK I sk hs hd (A:=A.in1) (by show A.units+1+40<cLine;omega) (hx d (ZI g1)) (hy e (ZI g2)) k1 k3 k2 k4
theorem kind0(I:Inv X pq σ H s){t:KTy}{vs:List V}(h2:2≤its.length)(hty:∀y∈ys,hasTy (.seq t) y=true)(h0:isNil (ys.headD .non)=true)(rr:RepL X.K ⟨X.mg,F⟩ μ H ys vs)(hv:Vals vs its){Q:SortKind→Shared→Prop}(q:Q oneType' s):wpAny (model X.prog X.w) A (keyKind' its.toArray) Q E s:=by
 have tups:∀(i:Nat) (u:Value),its[i]?=some u→∃a us,u=.ref a∧IsTup s.heap a (List.toArray us)∧(i=0→us=[]):=λi u hi=>by
  have hi':i<its.length:=(Zl.mp hi).1;have hiy:i<ys.length:=by rw[rr.length,hv.length];exact hi'
  have e1:ys[i]?=some ys[i]:=Ze hiy;obtain⟨v,e2,k⟩:=rr.get e1;obtain⟨u',e3,k2⟩:=hv.get e2;rw[hi]at e3;cases e3;obtain⟨xs,ex,_⟩:=a2p' (hty _ (ZY hiy));rw[ex]at k;obtain⟨a,as,rfl,ha,ra⟩:=a0I' k;cases k2;obtain⟨us,ru,pa,_⟩:=I.tuple ha;refine⟨a,us,rfl,pa,λz=>?_⟩;subst z
  have:ys.headD .non=.tup xs:=by
   cases ys with
   |nil=>cases e1
   |cons y ys=>exact ex
  rw[this]at h0;cases xs with
  |nil=>have:=ra.length;rw[ru.length]at this;exact ZL this.symm
  |cons _ _=>cases h0
 have look:∀u∈its,Looks (model X.prog X.w) s.heap (typeOf u) (.type "tuple"):=λu hu=>by
  obtain⟨i,hi,rfl⟩:=ZX.mp hu;obtain⟨a,us,e,p,_⟩:=tups i _ (Ze hi);rw[e];obtain⟨o,ho,hc,_⟩:=p;have:=(show Looks (model X.prog X.w) s.heap (typeOf (.ref a)) o.cls from(Looks.ld ho).andThen .now)
  rwa [hc]at this
 cases its with
 |nil=>simp at h2
 |cons u0 its=>
 obtain⟨a0,us0,rfl,p0,z0⟩:=tups 0 u0 rfl;cases z0 rfl
 have fo:∀u∈Value.ref a0::its,∃o,(∀(Q':Ov→Shared→Prop),Q' o s→wpAny (model X.prog X.w) A (firstOfTuple' u) Q' E s)∧(u=.ref a0→o=none):=λu hu=>by
  obtain⟨i,hi,rfl⟩:=ZX.mp hu;obtain⟨a,us,e,p,_⟩:=tups i _ (Ze hi);have pp:=id p;obtain⟨o,ho,hc,n,hd⟩:=p;refine⟨us[0]?,λQ' hq=>?_,λz=>?_⟩
  ·rw[e,kas_first_eq];refine Za (Looks.here (show Looks (model X.prog X.w) s.heap (typeOf (.ref a)) o.cls from(Looks.ld ho).andThen .now) ?_);rw[hc,if_neg (by first|decide|simp)];refine Za (listItems_at ho hd (Zf ?_));simpa using hq
  ·rw[e]at z;cases z;obtain⟨o',ho',hc',n',hd'⟩:=p0;rw[ho]at ho';cases ho';rw[hd]at hd';cases hd';rfl
 have fo':∀u∈Value.ref a0::its,∀(Q':Ov→Shared→Prop),Q' (open Classical in if h:u∈Value.ref a0::its then(fo u h).choose else none) s→wpAny (model X.prog X.w) A (firstOfTuple' u) Q' E s:=λu hu Q' hq=>by rw[dif_pos hu]at hq;exact(fo u hu).choose_spec.1 Q' hq
 have g0:(open Classical in if h:Value.ref a0∈Value.ref a0::its then(fo _ h).choose else none)=none:=by rw[dif_pos Zb];exact(fo _ Zb).choose_spec.2 rfl
 rw[keyKind'_eq,List.mapM_toArray,map_eq_pure_bind];refine Za (Za (a8M' _ fo' (Zf ?_)));rw[ZE,g0,if_neg (by simp),if_neg (by simp),oneTypeOnly'_eq,List.mapM_toArray,map_eq_pure_bind];refine Za (Za (Za (kas_mapM (r:=.type "tuple") _ (λv hv Q' hq=>(look v hv).here hq) (Zf ?_))));have hall:((List.map (λ_=>Value.type "tuple") (Value.ref a0::its)).toArray.all λx=>x==Value.type "tuple")=true:=by simp only[List.all_toArray,List.all_map,ZQ];intro _ _;exact beq_self_eq_true _
 have h0:(List.map (λ_=>Value.type "tuple") (Value.ref a0::its)).toArray[0]?=some (Value.type "tuple"):=by simp
 rw[h0];simp only[hall,if_true];exact Zf (Zf q)
theorem b5C'(hu:X.A.units+64<cLine)(box:Bool)(t:KTy)(hdt:depth t≤40):CallR X (.builtin "sorted") (rC X.K X.mg (a2d' box t)):=by
 intro pq s σ H xs us Q I r h;obtain⟨F,μ,S,ds,sk,rl,w⟩:=h;unfold a2d' at w;split at w
 ·rename_i d;obtain⟨v,rfl,rd⟩:=rl.one;obtain⟨u,rfl,ru⟩:=vals1 r;split at w
  ·rename_i ys e;split at w
   ·rename_i hc;obtain⟨hty,h64,hso⟩:=hc;have hty':∀y∈ys,hasTy t y=true:=λy hy=>ZQ.mp hty y hy;obtain⟨a,vs,rfl,hq,rr⟩:=a3Y' sk rd e;cases ru
    obtain⟨b,its,hl,hv⟩:∃b its,IsSq b s.heap a (List.toArray its)∧Vals vs its:=by
     rcases hq with hq|hq
     ·obtain⟨its,r',p,_⟩:=I.list hq;exact⟨true,its,p.isList,r'⟩
     ·obtain⟨its,r',p,_⟩:=I.tuple hq;exact⟨false,its,p,r'⟩
    have l1:ys.length=vs.length:=rr.length;have l2:vs.length=its.length:=hv.length
    have hs:noStr t=true:=by
     cases t with
     |int=>rfl
     |seq t=>unfold a3I' at hso;simp only[ZA]at hso;exact hso.1
    have lo:=lordK t hs;have at_:∀i,i<its.length→∃d v u,ys[i]?=some d∧vs[i]?=some v∧its[i]?=some u∧hasTy t d=true∧Rep X.K ⟨X.mg,F⟩ μ H d v∧RelV v u∧ys.getD i .non=d∧its.getD i Value.none=u:=λi hi=>by have e1:ys[i]?=some ys[i]:=Ze (by omega);obtain⟨v,e2,k⟩:=rr.get e1;obtain⟨u,e3,k2⟩:=hv.get e2;exact⟨_,v,u,e1,e2,e3,hty' _ (ZY _),k,k2,by simp[List.getD,e1],by simp[List.getD,e3]⟩
    have ord:SOrd its.length (λi j=>ltK t (ys.getD i .non) (ys.getD j .non)):=by
     have ty:∀i,i<its.length→hasTy t (ys.getD i .non)=true:=λi hi=>by obtain⟨d,v,u,e1,e2,e3,k1,k2,k3,k4,k5⟩:=at_ i hi;rw[k4];exact k1
     exact⟨λi hi=>lo.irr _ (ty i hi),λi j hi hj=>lo.asym _ _ (ty i hi) (ty j hj),λi j k hi hj hk=>lo.ntr _ _ _ (ty i hi) (ty j hj) (ty k hk)⟩
    have same:∀i j,i<its.length→j<its.length→its.getD i Value.none=its.getD j Value.none→rankN its.length (λi j=>ltK t (ys.getD i .non) (ys.getD j .non)) i=rankN its.length (λi j=>ltK t (ys.getD i .non) (ys.getD j .non)) j:=λi j hi hj hij=>by obtain⟨d,v,u,e1,e2,e3,g1,g2,g3,g4,g5⟩:=at_ i hi;obtain⟨d',v',u',e1',e2',e3',g1',g2',g3',g4',g5'⟩:=at_ j hj;rw[g5,g5']at hij;subst hij;have ev:v=v':=g3.inj g3';subst ev;have:=b3R' I sk 40 d d' v _ g2 g2' (asK S t hs 40 hdt d d' g1 g1').1;have hde:=b1m' hs g1 g1' this;subst hde;unfold rankN;simp only[g4,g4']
    refine a9C' (c:=λi j=>ltK t (ys.getD i .non) (ys.getD j .non)) hl (by rw[sizeLine_eq];omega) (λh2=>?_) λh1 h' c2 out k1 k2 eo O=>?_
    ·have hu2:(X.A.in1.in1).units+42<cLine:=by
      show X.A.units+1+1+42<cLine;omega
     cases t with
     |int=>
      refine⟨oneType',ord,same,λh' kp=>⟨λE' Q' q=>?_,λi j C hi hj hC=>?_⟩⟩
      ·have I':Inv X pq σ H {s with heap:=h'}:=I.kept (t':=s.toks) kp;refine kas_kind (T:=.type "int") h2 (λu hu=>?_) (by decide) (by decide) q;obtain⟨i,hi,rfl⟩:=ZX.mp hu;obtain⟨d,v,u,e1,e2,e3,g1,g2,g3,g4,g5⟩:=at_ i hi;rw[Ze hi]at e3;cases e3;exact looksK (t:=.int) I' rfl g1 g2 g3
      ·obtain⟨d,v,u,e1,e2,e3,g1,g2,g3,g4,g5⟩:=at_ i hi;obtain⟨d',v',u',e1',e2',e3',g1',g2',g3',g4',g5'⟩:=at_ j hj;unfold kas_ask;rw[g5,g5'];rw[g4,g4']at hC;obtain⟨x,rfl⟩:=a2Y' g1;obtain⟨y,rfl⟩:=a2Y' g1';cases a0b' g2;cases a0b' g2';obtain⟨ta,rfl⟩:=g3;obtain⟨tb,rfl⟩:=g3';exact kat_lt_int hC
     |seq t=>
      unfold a3I' at hso;have hso2:=(Bool.and_eq_true_iff.mp hso).2;rcases Bool.or_eq_true_iff.mp hso2 with hso3|hso3
      rotate_left
      ·refine⟨oneType',ord,same,λh' kp=>⟨λE' Q' q=>?_,λi j C hi hj hC=>?_⟩⟩
       ·have I':Inv X pq σ H {s with heap:=h'}:=I.kept (t':=s.toks) kp;exact kind0 I' h2 hty' hso3 rr hv q
       ·have I':Inv X pq σ H {s with heap:=h'}:=I.kept (t':=s.toks) kp;obtain⟨d,v,u,e1,e2,e3,g1,g2,g3,g4,g5⟩:=at_ i hi;obtain⟨d',v',u',e1',e2',e3',g1',g2',g3',g4',g5'⟩:=at_ j hj;unfold kas_ask;rw[g5,g5'];rw[g4,g4']at hC;exact askK0 (t:=t) I' sk hs (by simp[depth]at hdt;omega) hu2 g1 g1' g2 g3 g2' g3' hC
      have hne:∀y∈ys,hasTy (.seq t) y=true∧y≠.tup []:=λy hy=>⟨hty' y hy,λz=>by have:=ZQ.mp hso3 y hy;rw[z]at this;cases this⟩;refine⟨tuples' (Value.type (tyOf t) !=Value.type "tuple"),ord,same,λh' kp=>⟨λE' Q' q=>?_,λi j C hi hj hC=>?_⟩⟩
      ·have I':Inv X pq σ H {s with heap:=h'}:=I.kept (t':=s.toks) kp;obtain⟨fs,f1,f2,f3⟩:=a6U' (t:=t) I' hs ys vs its hne rr hv;exact kat_kind (T:=.type (tyOf t)) f1 (by omega) f3 (by simp) q
      ·have I':Inv X pq σ H {s with heap:=h'}:=I.kept (t':=s.toks) kp;obtain⟨d,v,u,e1,e2,e3,g1,g2,g3,g4,g5⟩:=at_ i hi;obtain⟨d',v',u',e1',e2',e3',g1',g2',g3',g4',g5'⟩:=at_ j hj;unfold kas_ask;rw[g5,g5'];rw[g4,g4']at hC;exact askK (t:=t) I' sk hs (by simp[depth]at hdt;omega) hu2 g1 g1' g2 g3 g2' g3' hC
    ·obtain⟨p,rfl,pp,pw⟩:=O;have hp:∀i∈p,i<its.length:=λi hi=>by simpa using pp.mem_iff.mp hi
     have hlen:p.length=its.length:=by rw[pp.length_eq];simp
     have fin:RepL X.K ⟨X.mg,F⟩ μ H (p.map λi=>ys.getD i .non) (p.map λi=>vs.getD i .non):=RepL.of (by simp) λj d v h1 h2=>by
      rw[ZW]at h1 h2;cases ej:p[j]? with
      |none=>rw[ej]at h1;cases h1
      |some i=>
       rw[ej]at h1 h2;obtain⟨d',v',u',e1',e2',e3',g1',g2',g3',g4',g5'⟩:=at_ i (hp i (ZI ej));cases h1;cases h2;show Rep X.K ⟨X.mg,F⟩ μ H (ys.getD i .non) (vs.getD i .non);rw[g4'];have:vs.getD i .non=v':=by simp[List.getD,e2']
       rw[this];exact g2'
     have fin2:Vals (p.map λi=>vs.getD i .non) (p.map λi=>its.getD i Value.none):=by
      have:∀(l:List Nat),(∀i∈l,i<its.length)→Vals (l.map λi=>vs.getD i .non) (l.map λi=>its.getD i Value.none):=by
       intro l
       induction l with
       |nil=>exact λ_=>.nil
       |cons i l ih=>
        intro h;obtain⟨d',v',u',e1',e2',e3',g1',g2',g3',g4',g5'⟩:=at_ i (h i Zb);refine .cons ?_ (ih λj hj=>h j (Zc _ hj));have:vs.getD i .non=v':=by simp[List.getD,e2']
        show RelV (vs.getD i .non) (its.getD i Value.none);rw[this,g5'];exact g3'
      exact this p hp
     have srt:(p.map λi=>ys.getD i .non)=a4G' (ltK t) ys:=by
      refine a4K' hs hty' ?_ ?_
      ·have:=pp.map λi=>ys.getD i .non;refine this.trans (.of_eq ?_);refine List.ext_getElem (by simp;omega) λi h1 h2=>?_;simp[h2]
      ·rw[Z7];exact pw
     rw[←srt]at w;have I1:Inv X pq σ H {s with heap:=h1}:=I.kept (t':=s.toks) k1;have I2:Inv X pq σ (upd H h1.objs.size (.lst (p.map λi=>vs.getD i .non))) {s with heap:=h'}:=I1.laid (t':=s.toks) k2 (Zi _) ⟨by rw[Zm,hlen,sizeLine_eq];omega,_,c2,fin2,eo⟩;have hfr:H h1.objs.size=none:=I1.hok.fresh (Zi _);refine⟨.ref h1.objs.size,_,I2,rfl,?_⟩;cases box with
     |true=>exact Want.box w sk fin _ hfr
     |false=>exact Want.lst w sk fin _ hfr
   ·exact w.elim
  ·exact w.elim
 ·exact w.elim
end Py
namespace Py
open PySem PySem.W PySem.Spec PyProof.Rows L2
def kV(v:Value):Int:=match v with
 | .int k _=>k
 |_=>0
theorem a5n'(calm:A.handled=none)(x:SetC prog w s.heap a ks es)
  (fin:∀(h1 h':Heap) (tk c2:Nat) (out:Lv),(∀b o,s.heap.get? b=some o→h1.get? b=some o)→(∀b o,h1.get? b=some o→h'.get? b=some o)→h'.get? h1.objs.size=some (seqObj "list" out.toArray c2)→(∀v∈out,∃t,v=.int (kV v) t)→out.map kV=ks.map (λk:Nat=>(k:Int))→Q (.ref h1.objs.size) {s with heap:=h',toks:=tk}):
  wpAny (model prog w) A (call (.builtin "sorted") [.ref a]) Q E s:=by
 obtain⟨ris,low,len,_,_⟩:=a1P' ks x.pow;refine Calls.call_function_entry kind_sorted plain_sorted entry_sorted (args_sorted1 _) ?_;unfold Builtin.«sorted»;refine Za (m:=checkCount "sorted" 1 1 _) (Zf (Za (a9x' (by simpa using calm) x λh1 tk vs k1 pm=>?_)));have keyE:es.toList.map keyI=ks.map λk:Nat=>(k:Int):=by have:=congrArg (List.map (·.2)) x.ent;rw[Z3,Z3]at this;exact this
 have isI:∀v∈vs,∃t,v=.int (kV v) t:=λv hv=>by obtain⟨e,he,rfl⟩:=Zy.mp (pm.mem_iff.mp hv);obtain⟨t,ht⟩:=el_int x.els e he;exact⟨t,by rw[ht];rfl⟩
 have pk:(vs.map kV).Perm (ks.map λk:Nat=>(k:Int)):=by refine(pm.map kV).trans (.of_eq ?_);rw[←keyE,Z3];exact List.map_congr_left λe _=>rfl
 have hl:vs.length≤8:=by have:=pk.length_eq;rw[Zm,Zm]at this;omega
 have hz:vs.length≤sizeLine:=by rw[sizeLine_eq];omega
 have at_:∀i,i<vs.length→∃t,vs.getD i Value.none=.int (kV (vs.getD i Value.none)) t:=λi hi=>isI _ (by rw[ZZ,Ze hi];exact ZY hi);refine Za (wpAny_newList ?_ hz);have hoL:(h1.push (seqObj "list" vs.toArray 0)).get? h1.objs.size=some (seqObj "list" vs.toArray 0):=Zo _ rfl;refine Za (wpAny_holding (Ye slot_list_sort ⟨_,hoL,rfl⟩ entry_list_sort ?body (args_list_sort _)))
 case body=>
  refine a4L' (c:=λi j=>decide (kV (vs.getD i Value.none)<kV (vs.getD j Value.none))) (s:={s with heap:=h1.push (seqObj "list" vs.toArray 0),toks:=tk}) hoL hz (λh2=>?_) λh' c2 out kp e O=>?_
  ·refine⟨oneType',⟨λi _=>by simp,λi j _ _ h=>?_,λi j k _ _ _ h g=>?_⟩,λi j _ _ h=>?_,λh' kp=>⟨λQ' q=>?_,λi j C hi hj hC=>?_⟩⟩
   ·simp only[Z0,Z4]at h⊢;omega
   ·simp only[Z4]at h g⊢;omega
   ·unfold rankN;dsimp only;rw[h]
   ·refine kas_kind (T:=.type "int") h2 (λu hu=>?_) (by decide) (by decide) q;obtain⟨t,ht⟩:=isI u hu;rw[ht];exact(show Looks (model prog w) h' (typeOf (.int (kV u) t)) (.type "int")from .now)
   ·unfold kas_ask;obtain⟨ta,ha⟩:=at_ i hi;obtain⟨tb,hb⟩:=at_ j hj;rw[ha,hb]at hC⊢;exact kat_lt_int hC
  ·refine⟨_,rfl,Zf ⟨_,rfl,fin h1 h' tk c2 out k1 (λb o e=>kp b o (ZJ (Zr e)) (Zd _ e)) e ?_ ?_⟩⟩
   ·obtain⟨p,rfl,pp,_⟩:=O;intro v hv;obtain⟨i,hi,rfl⟩:=Zy.mp hv;exact isI _ (by have:=Yb.mp (pp.mem_iff.mp hi);rw[ZZ,Ze this];exact ZY this)
   ·obtain⟨p,rfl,pp,pw⟩:=O;have p1:((p.map λi=>vs.getD i Value.none).map kV).Perm (ks.map λk:Nat=>(k:Int)):=by refine List.Perm.trans ?_ pk;refine((pp.map λi=>vs.getD i Value.none).map kV).trans (.of_eq (congrArg (List.map kV) ?_));refine List.ext_getElem (by simp) λi h1 h2=>?_;simp[h2]
    refine p1.eq_of_pairwise (le:=(· ≤ ·)) (λa b _ _ h1 h2=>Int.le_antisymm h1 h2) ?_ ?_
    ·rw[Z7,Z7];refine pw.imp λ{i j} h=>?_;simp only[Z4]at h;omega
    ·rw[Z7];exact ris.imp λh=>by omega
def rSS(K:Fg)(v:V)(H:Hp)(Q:VK):Prop:=∃(p:Addr) (ns:Li) (ks:List Nat),v=.ref p∧(SqL K H p (ns.map V.int)∨SqT K H p (ns.map V.int))∧(∀n∈ns,0≤n∧n<8)∧(∀k:Nat,k∈ks↔(k:Int)∈ns)∧ks.Pairwise (· < ·)∧∀l,H l=none→Q (.ref l) (upd H l (.lst (ks.map λk:Nat=>V.int k)))
theorem b4h':∀{out:Lv} {ks:List Nat},(∀v∈out,∃t,v=.int (kV v) t)→out.map kV=ks.map (λk:Nat=>(k:Int))→Vals (ks.map λk:Nat=>V.int k) out
 | [],[],_,_=>.nil
 | [],_::_,_,h=>by cases h
 |_::_,[],_,h=>by cases h
 |v::out,k::ks,hi,h=>by
  rw[ZE,ZE]at h;injection h with h1 h2
  obtain⟨t,ht⟩:=hi v Zb;rw[ZE];refine .cons ⟨t,?_⟩ (b4h' (λv hv=>hi v (Zc _ hv)) h2);rw[ht,h1]
theorem b3m':∀{a b:List Nat},a.Pairwise (· < ·)→b.Pairwise (· < ·)→(∀k,k∈a↔k∈b)→a=b:=λ{a b} h1 h2 h=>by refine List.Perm.eq_of_pairwise (le:=(· < ·)) (λx y _ _ h1 h2=>by omega) h1 h2 ?_;exact(List.perm_ext_iff_of_nodup (h1.imp λh=>ZJ h) (h2.imp λh=>ZJ h)).mpr h
theorem b1o'{z:Expr}(hc:X.calm=true)(hg1:Gl X "sorted")(hg2:Gl X "set")(hm1:X.mg "sorted"=none)(hm2:X.mg "set"=none)(hb:bootBuiltins "sorted"=some (.builtin "sorted"))(hn:a0T' z=true)(ha:PE X z ta):
  PE X (.Call (.Name "sorted" p1) [.Call (.Name "set" p2) [z] [] p3] [] p4) (λσ H Q=>ta σ H λx H1=>rSS X.K x H1 Q):=by
 intro pq s σ H Q I h;have hs:=a0y' (env:=X.env) (es:=[]) hn;refine wpAny_Call_Name_kw (a5j' I hg1 hm1 hb ?_ (by decide) (by decide));refine PyProof.Rows.callWith_builtin1 ?_ rfl rfl;refine Calls.spliced_cons ?_;refine wpAny_Call_Name_kw (a5j' I hg2 hm2 b5s' ?_ (by decide) (by decide));have hA:PA X [z] (tCons ta tNil):=b3M' ha pa_nil hs
 refine Yk (thn (hA p3 pq s σ H (λvs H1=>match vs with
  | [x]=>rSS X.K x H1 Q
  |_=>False) I h) λus s1 ⟨vs,H1,I1,r,q⟩=>?_) hs rfl
 match vs,q with
 | [v],⟨p,ns,ks,e,hq,low,hk,ris,q⟩=>
  subst e;obtain⟨u,rfl,ru⟩:=r.one;cases ru
  obtain⟨its,rv,pl⟩:∃its,Vals (ns.map V.int) its∧(s1.heap.IsList p its.toArray∨s1.heap.IsTuple p its.toArray):=by
   rcases hq with hq|hq
   ·obtain⟨its,rv,pl,_⟩:=I1.list hq;exact⟨its,rv,.inl pl.isList⟩
   ·obtain⟨its,rv,pl,_⟩:=I1.tuple hq;exact⟨its,rv,.inr pl⟩
  have calm:=I1.ok.hd hc;refine a6O' (vs:=its.toArray) (ns:=ns) calm pl (by simpa using b0r' rv) low λh' tk ⟨ks',es,x,hk'⟩ kp=>?_;have I2:Inv X pq σ H1 {s1 with heap:=h',toks:=tk}:=I1.kept (t':=tk) λb o e=>kp b o (Zr e) e;have eks:ks'=ks:=b3m' (a1P' ks' x.pow).1 ris λk=>(hk' k).trans (hk k).symm;subst eks;refine Calls.spliced_nil ?_;refine a5n' calm x λh1 h2 tk2 c2 out k1 k2 g isI ek=>?_;have I3:Inv X pq σ H1 {s1 with heap:=h1,toks:=tk}:=I2.kept (t':=tk) k1
  have hlen:(ks'.map λk:Nat=>V.int k).length≤sizeLine:=by have:=(a1P' ks' x.pow).2.2.1;rw[Zm,sizeLine_eq];omega
  exact⟨.ref h1.objs.size,upd H1 h1.objs.size (.lst (ks'.map λk:Nat=>V.int k)),I3.laid (t':=tk2) k2 (Zi _) ⟨hlen,out,c2,b4h' isI ek,g⟩,rfl,q _ (I3.hok.fresh (Zi _))⟩
end Py
namespace Py
section
variable {E:XK}
theorem blt_ok(O:XOk X cell N sc CX E Φ Γ k)(b:Blt)(hb:bltB b=true):CallR X (bltIs b) (rC X.K X.mg (bltD b)):=by
 cases b with
 |len=>exact len_D
 |tuple=>exact tuple_D
 |list box=>exact list_D box
 |int=>exact int_D
 |min=>exact b5a' O.calm rfl
 |max=>exact max_any O.calm
 |isinst=>exact b4U'
 |all=>exact all_D O.calm
 |any=>exact any_D O.calm
 |sum=>cases hb
 |repr=>cases hb
 |abs=>cases hb
 |sorted box t=>exact b5C' O.room.units box t (by unfold bltB at hb;simpa using hb)
theorem a3L':∀{l:Ls},a9r' l=true→l.Nodup
 | [],_=>List.nodup_nil
 |x::r,h=>by unfold a9r' at h;simp only[ZA,Yi,List.contains_eq_mem,Z4]at h;exact List.nodup_cons.mpr ⟨h.1,a3L' h.2⟩
theorem b1p'(O:XOk X cell N sc CX E Φ Γ k)(h:scB scope sc=true):CScope X scope:=by
 unfold scB at h;simp only[ZA,beq_iff_eq]at h;obtain⟨h1,h2⟩:=h;have key:∀y∈scope.names,((y.2 !=NameKind.cell||scope.names.lookup y.1==some .cell)&&(y.2 !=.local||scope.names.lookup y.1==some .local)&&(y.2 !=.free||(sc.lookup y.1==some .cell||sc.lookup y.1==some .free)))=true:=λy hy=>ZQ.mp h2 y hy;refine⟨h1,λy hy z=>?_,λy hy z=>?_,λy hy z=>?_⟩
 ·have:=key y hy;rw[z]at this;simp at this;exact this
 ·have:=key y hy;rw[z]at this;simp at this;exact this
 ·have:=key y hy;rw[z]at this;simp at this;show X.env.scope.names.lookup y.1=_∨X.env.scope.names.lookup y.1=_;rw[O.sc];exact this
theorem b1q'(O:XOk X cell N sc CX E Φ Γ k)(h:frB scope.names N' N fr=true):CsOk X scope N' (csOf fr):=by
 unfold frB at h;simp only[ZA,beq_iff_eq]at h;obtain⟨h1,h2⟩:=h;intro σ hl;refine⟨by simp[csOf,h1],λi v x hx hv=>?_⟩;have hi:i<N'.length:=(Zl.mp hx).1;have:=ZQ.mp h2 i (Yb.mpr hi);unfold csOf at hv;rw[ZW]at hv;cases e:fr[i]? with
 |none=>rw[e]at hv;cases hv
 |some o=>
  rw[e]at hv;cases o with
  |none=>cases hv
  |some j=>
   rw[e]at this;simp only[hx,ZA,beq_iff_eq]at this;have hv':(σ[j]?).join=some v:=Z6 hv;refine⟨this.1,j,by rw[O.n];exact this.2,?_⟩;cases e2:σ[j]? with
   |none=>rw[e2]at hv';cases hv'
   |some o=>rw[e2]at hv';have e3:o=some v:=hv';rw[e3]
theorem relB_eq(O:XOk X cell N sc CX E Φ Γ k):(relabel scope X.env).names=relB scope.names sc:=by
 unfold relabel relB;show scope.names.map _=scope.names.map _;congr 1;funext p;obtain⟨n,kd⟩:=p;have e1:X.env.kindOf n=sc.lookup n:=by show X.env.scope.names.lookup n=_;rw[O.sc]
 simp only[e1,O.kd,beq_self_eq_true,Bool.and_true]
theorem b1r'(O:XOk X cell N sc CX E Φ Γ k)(hs:scope.kind=.function)(hn:a9r' N'=true)(C:Addr)(s0:Shared)(H0:Hp)(fp:La):XOk (cxC X scope N' C s0 H0 fp) (ownB scope.names) N' (relB scope.names sc) CX E0 Φ Γ k where
 n:=rfl
 nd:=a3L' hn
 sc:=relB_eq O
 kd:=hs
 calm:=O.calm
 room:=O.room
 fn:=λx z=>z
 mod:=O.mod
 pass:=λ_ _ _ _ _ _ _ z=>O.cx0 _ _ _ _ _ z
 cx0:=O.cx0
theorem a2K'{i:Expr}(h:b2W' i=true):∀x,foldedSetIterable i env x=pure x:=by intro x;cases i<;>first|rfl|cases h
theorem t_val{e:Expr}{c:CE}(ha:PE X e (tE X.K X.mg E Φ Γ c))(he:∀whole,isTrue e X.env whole=(do let v ←whole;standAt e.pos;holding [v] (truthy v))){σ:L2.St}:
  PT X e (λσ H Q=>∃F μ ρ S,SOk X.K ⟨X.mg,F⟩ μ S H∧EnvR X.K ⟨X.mg,F⟩ μ H ρ σ∧WantG X.K ⟨X.mg,F⟩ E (λ_ _ a b=>a=b) μ H Q ((den Φ Γ c ρ S).bind λd S1=>match truD S1 d with|some k=>.ok k S1|none=>.fail)):=
 weakT (b4K' ha he) λσ H Q zz=>ex43 zz λF μ ρ S sk en w=>⟨F,μ,ρ,S,sk,en,(WantG.bind w).mono λv H1 zz=>ex34 zz λμ1 S1 d x1 s1 r1 w1=>by obtain⟨k,e,w2⟩:=b0G' w1;exact⟨k,tru_D s1 r1 e,w2 μ1 H1 k .refl s1 rfl⟩⟩
theorem a8N':∀{xs:List D},xs.all lowP=true→xs.all (hasTy .int)=true∧∀n∈xs.filterMap asInt,0≤n∧n<8
 | [],_=>⟨rfl,λn h=>by cases h⟩
 |x::xs,h=>by
  simp only[List.all_cons,ZA]at h;obtain⟨h1,h2⟩:=a8N' h.2;cases x with
  |int i=>
   have hi:=h.1;simp only[lowP,ZA,Z0]at hi;refine⟨by simp[hasTy,h1],λn hn=>?_⟩;rw[show List.filterMap asInt (D.int i::xs)=i::xs.filterMap asInt from rfl]at hn;rcases Zj.mp hn with rfl|hn
   ·exact hi
   ·exact h2 n hn
  |_=>cases h.1
theorem sset_D{Q:VK}(sk:SOk K ⟨mg,F⟩ μ S H)(r:Rep K ⟨mg,F⟩ μ H d v)(w:Want K ⟨mg,F⟩ μ H Q (ssetD d S)):rSS K v H Q:=by
 unfold ssetD at w;split at w
 ·rename_i xs e;split at w
  ·rename_i hc;obtain⟨a,vs,rfl,hq,rl⟩:=a3Y' sk r e;clear e;obtain⟨hi,low⟩:=a8N' hc;have hxs:=b3Y' hi;generalize xs.filterMap asInt=ns at low hxs w;subst hxs;have hv:=b0X' rl;subst hv;refine⟨a,ns,(List.range 8).filter λk:Nat=>ns.contains (k:Int),rfl,hq,low,λk=>?_,List.pairwise_lt_range.sublist ZK,λl hl=>?_⟩
   ·rw[Zn,Yb,List.contains_iff_mem];exact⟨λh=>h.2,λh=>⟨by have:=low _ h;omega,h⟩⟩
   ·have rr:∀ks:List Nat,RepL K ⟨mg,F⟩ μ H (ks.map λk:Nat=>D.int k) (ks.map λk:Nat=>V.int k):=λks=>by
     induction ks with
     |nil=>exact .nil
     |cons k ks ih=>exact .cons a1l' ih
    exact Want.lst w sk (rr _) l hl
  ·exact w.elim
 ·exact w.elim
theorem s_sset(O:XOk X cell N sc CX E Φ Γ k){z:Expr}{a:CE}(h1:gloB sc "sorted"=true)(h2:gloB sc "set"=true)(hn:a0T' z=true)(ha:PE X z (tE X.K X.mg E Φ Γ a)):PE X (.Call (.Name "sorted" p1) [.Call (.Name "set" p2) [z] [] p3] [] p4) (tE X.K X.mg E Φ Γ (.sset a)):=
 weakE (b1o' O.calm (O.gl (a0Q' h1).1) (O.gl (a0Q' h2).1) (O.mod.bl _ (by decide+kernel)) (O.mod.bl _ (by decide+kernel)) (by decide+kernel) hn ha) λσ H Q zz=>ex43 zz λF μ ρ S sk en w=>
  ⟨F,μ,ρ,S,sk,en,(WantG.bind w).mono λv H1 zz=>ex34 zz λμ1 S1 d x1 s1 r1 w1=>sset_D s1 r1 (a2e' w1)⟩
end
theorem tT_fail{E:XK}{c:CE}(h:∀ρ S,denT Φ Γ c ρ S=.fail):PW X e (tT X.K X.mg E Φ Γ c):=λwh pq s σ H Q I zz=>ex43 zz λF μ ρ S sk en w=>by rw[h]at w;exact w.elim
theorem b5D'{l:List α}{d:Nat}{x:α}{r:List α}(h:l.drop d=x::r):l[d]?=some x:=by have:=congrArg (λl=>l[0]?) h;simpa using this
theorem b3n'{l:List α}{d:Nat}(h:l.drop d=[]):l[d]?=none:=by have:=congrArg (λl=>l[0]?) h;simpa using this
theorem b3o'{l:List α}{d:Nat}{x:α}{r:List α}(h:l.drop d=x::r):l.drop (d+1)=r:=by
 have:(l.drop d).drop 1=r:=by rw[h];rfl
 rwa [List.drop_drop]at this
section
variable {E:XK}{a b:CE}{l x y:Expr}{pos:Pos}{n:Bool}
theorem em_and(ha:PE X l (tE X.K X.mg E Φ Γ a))(h1:n=true→PE X x (tE X.K X.mg E Φ Γ b))(h2:n=false→∃r rest,y=.BoolOp .And (r::rest) pos∧PE X y (tE X.K X.mg E Φ Γ b)):PE X (.BoolOp .And (l::cond n [x] (vw y).es) pos) (tE X.K X.mg E Φ Γ (.band a b)):=by
 cases n with
 |true=>exact s_and ha (pe_one (h1 rfl))
 |false=>obtain⟨r,rest,rfl,q⟩:=h2 rfl;exact s_and ha q
theorem em_or(ha:PE X l (tE X.K X.mg E Φ Γ a))(h1:n=true→PE X x (tE X.K X.mg E Φ Γ b))(h2:n=false→∃r rest,y=.BoolOp .Or (r::rest) pos∧PE X y (tE X.K X.mg E Φ Γ b)):PE X (.BoolOp .Or (l::cond n [x] (vw y).es) pos) (tE X.K X.mg E Φ Γ (.bor a b)):=by
 cases n with
 |true=>exact s_or ha (pe_one (h1 rfl))
 |false=>obtain⟨r,rest,rfl,q⟩:=h2 rfl;exact s_or ha q
theorem b4i'(ha:PT X l (tT X.K X.mg E Φ Γ a))(h1:n=true→PT X x (tT X.K X.mg E Φ Γ b))(h2:n=false→∃r rest,y=.BoolOp .And (r::rest) pos∧PW X y (tT X.K X.mg E Φ Γ b)):PW X (.BoolOp .And (l::cond n [x] (vw y).es) pos) (tT X.K X.mg E Φ Γ (.band a b)):=by
 cases n with
 |true=>exact t_and ha (pw_and1 (h1 rfl))
 |false=>obtain⟨r,rest,rfl,q⟩:=h2 rfl;exact t_and ha q
theorem em_orT(ha:PT X l (tT X.K X.mg E Φ Γ a))(h1:n=true→PT X x (tT X.K X.mg E Φ Γ b))(h2:n=false→∃r rest,y=.BoolOp .Or (r::rest) pos∧PW X y (tT X.K X.mg E Φ Γ b)):PW X (.BoolOp .Or (l::cond n [x] (vw y).es) pos) (tT X.K X.mg E Φ Γ (.bor a b)):=by
 cases n with
 |true=>exact t_or ha (pw_or1 (h1 rfl))
 |false=>obtain⟨r,rest,rfl,q⟩:=h2 rfl;exact t_or ha q
theorem b1s'{es:Lx}(h:b5e' b=true):∃r rest,emE b N (.BoolOp .And es pos)=.BoolOp .And (r::rest) pos:=by cases b<;>first|exact⟨_,_,rfl⟩|cases h
theorem b5E'{es:Lx}(h:isBor b=true):∃r rest,emE b N (.BoolOp .Or es pos)=.BoolOp .Or (r::rest) pos:=by cases b<;>first|exact⟨_,_,rfl⟩|cases h
theorem a6V'{tg:CT}(h:b2X' tg=true):isTup (emT tg N e)=true:=by
 cases tg with
 |var i=>cases h
 |tup ts=>rfl
theorem cond1{a b:Bool}(h:cond n a b=true)(z:n=true):a=true:=by rw[z]at h;exact h
theorem cond2{a b:Bool}(h:cond n a b=true)(z:n=false):b=true:=by rw[z]at h;exact h
end
mutual
theorem a0B'(c:CE):∀{X:Cx} {cell:Str→Bool} {N:Ls} {sc:Sc} {CX:CXT} {E:XK} {Φ:FT} {Γ:Str→Option D} {k:Nat} {e:Expr},XOk X cell N sc CX E Φ Γ k→sdE c N sc e=true→PE X (emE c N e) (tE X.K X.mg E Φ Γ c):=by
 intro X cell N sc CX E Φ Γ k e O h;cases c with
 |var i=>exact s_var O (andB h).1 (andB (andB h).2).1 (andB (andB h).2).2
 |dct=>exact s_dct
 |rv0 a b c=>cases h
 |odd a b c=>cases h
 |rev a b=>cases h
 |lit d=>exact s_lit h
 |glob y=>exact s_glob O h
 |ty n=>exact s_ty O (andB h).1 (andB h).2
 |bin op a b=>exact s_bin (a0B' a O (andB h).1) (a0B' b O (andB h).2)
 |binB a b=>cases h
 |neg a=>exact s_neg (a0B' a O h)
 |cmp op a b=>exact s_cmp O.room.units (a0B' a O (andB h).1) (a0B' b O (andB (andB h).2).1) (notB (andB (andB h).2).2)
 |chain op op' a b c=>exact s_chain O.room.units (a0B' a O (andB h).1) (a0B' b O (andB (andB h).2).1) (a0B' c O (andB (andB (andB h).2).2).1) (notB (andB (andB (andB h).2).2).2)
 |band a b=>exact em_and (a0B' a O (andB h).1) (λz=>a0B' b O (cond1 (andB h).2 z)) λz=>by obtain⟨r,rest,q⟩:=b1s' (pos:=(vw e).pos) (N:=N) (es:=(vw e).es.tail) (andB (cond2 (andB h).2 z)).1;exact⟨r,rest,q,a0B' b O (andB (cond2 (andB h).2 z)).2⟩
 |bor a b=>exact em_or (a0B' a O (andB h).1) (λz=>a0B' b O (cond1 (andB h).2 z)) λz=>by obtain⟨r,rest,q⟩:=b5E' (pos:=(vw e).pos) (N:=N) (es:=(vw e).es.tail) (andB (cond2 (andB h).2 z)).1;exact⟨r,rest,q,a0B' b O (andB (cond2 (andB h).2 z)).2⟩
 |bnot a=>exact s_not (a0B' a O h)
 |ite c a b=>exact s_ite (a3M' c O (andB h).1) (a0B' a O (andB (andB h).2).1) (a0B' b O (andB (andB h).2).2)
 |tup es=>exact s_tup (decB (andB h).2) (a4M' es O (andB h).1)
 |lst box es=>exact s_lst (decB (andB h).2) (a4M' es O (andB h).1)
 |idx a b=>exact s_idx (andB (andB h).2).2 (a0B' a O (andB h).1) (a0B' b O (andB (andB h).2).1)
 |sl a lo hi=>exact s_sl (a0B' a O (andB h).1) (soundP lo O (andB (andB h).2).1 (decB (andB (andB (andB (andB h).2).2).2).1)) (soundP hi O (andB (andB (andB h).2).2).1 (decB (andB (andB (andB (andB h).2).2).2).2))
 |call f es=>
  have hL:=a4M' es O (andB (andB h).2).1;cases es with
  |nil=>cases(andB (andB h).2).2
  |cons c cs=>exact s_call O (andB h).1 (a1O' (cs:=c::cs) (andB (andB h).2).1) hL
 |blt b es=>
  have hL:=a4M' es O (andB (andB h).2).1;cases es with
  |nil=>cases(andB (andB (andB h).2).2).1
  |cons c cs=>exact s_blt O (blt_ok O b (andB (andB (andB h).2).2).2) (andB h).1 (a1O' (cs:=c::cs) (andB (andB h).2).1) hL
 |tix o es=>cases h
 |meth m o es=>have h4:=(andB (andB (andB (andB h).2).2).2).1;exact s_meth (andB h).1 (andB (andB h).2).1 (a1O' h4) (by rw[b0H'];exact decB (andB (andB (andB (andB h).2).2).2).2) b0H'.symm (a0B' o O (andB (andB (andB h).2).2).1) (a4M' es O h4)
 |lenset=>cases h
 |sset a=>exact s_sset O (andB h).1 (andB (andB h).2).1 (andB (andB (andB h).2).2).2 (a0B' a O (andB (andB (andB h).2).2).1)
 |sumL=>cases h
 |rng=>cases h
 |comp box N' fr tg it ifs body=>
  obtain⟨h1,h⟩:=andB h;obtain⟨h2,h⟩:=andB h;obtain⟨h3,h⟩:=andB h;obtain⟨h4,h⟩:=andB h;obtain⟨h5,h⟩:=andB h;obtain⟨h6,h⟩:=andB h;obtain⟨h7,h8⟩:=andB h;have sc1:=b1p' O h1
  refine weakE (pe_comp (N:=N') (g:=gCT X.K tg) (tb:=tC X.K X.mg Φ Γ ifs body) O.calm sc1 (b1q' O h2) (b3q' it O h5 a6V') (λacc env=>a6L' _ env>>=λok=>if ok=true then cRest _ (_::_) _ _ 0 (.ref acc) env else pure ())
   (λit acc env=>a3K' rfl) (λC s0 H0 fp acc=>?_) (a2K' h6)) λσ H Q q=>c_comp (tg0:=emT tg N' ((vw e).gs.headD dG).target) q
  have O':=b1r' O sc1.kind h3 C s0 H0 fp;exact⟨g_pg O' h4,b5r' (a8O' ifs O' h7) (b5F' body O' rfl rfl h8)⟩
 |emit e=>cases h
 |inner a b c d=>cases h
 |seq a=>cases h
 |range a=>cases h
 |zip a=>cases h
 |enum a=>cases h
 |revl a=>cases h
 |by2 a=>cases h
 |down a=>cases h
theorem a3M'(c:CE):∀{X:Cx} {cell:Str→Bool} {N:Ls} {sc:Sc} {CX:CXT} {E:XK} {Φ:FT} {Γ:Str→Option D} {k:Nat} {e:Expr},XOk X cell N sc CX E Φ Γ k→sdE c N sc e=true→PT X (emE c N e) (tT X.K X.mg E Φ Γ c):=by
 intro X cell N sc CX E Φ Γ k e O h;cases c with
 |var i=>
  refine weakT (t_val (σ:=[]) (s_var O (andB h).1 (andB (andB h).2).1 (andB (andB h).2).2) λ_=>rfl) λσ H Q zz=>ex43 zz λF μ ρ S sk en w=>⟨F,μ,ρ,S,sk,en,?_⟩;cases e1:ρ[i]? with
  |none=>simp only[denT,e1]at w;exact w.elim
  |some o=>
   cases o with
   |none=>simp only[denT,e1]at w;exact w.elim
   |some d=>simp only[denT,e1]at w;simp only[den,e1];exact w
 |lit d=>exact weakT (t_val (Φ:=Φ) (Γ:=Γ) (σ:=[]) (s_lit h) λ_=>rfl) λσ H Q zz=>ex43 zz λF μ ρ S sk en w=>⟨F,μ,ρ,S,sk,en,w⟩
 |call f es=>
  have hL:=a4M' es O (andB (andB h).2).1;cases es with
  |nil=>cases(andB (andB h).2).2
  |cons c cs=>
   refine weakT (t_val (σ:=[]) (s_call O (andB h).1 (a1O' (cs:=c::cs) (andB (andB h).2).1) hL) λ_=>rfl) λσ H Q zz=>ex43 zz λF μ ρ S sk en w=>⟨F,μ,ρ,S,sk,en,?_⟩;simp only[denT]at w;simp only[den];cases e1:Φ f with
   |none=>rw[e1]at w;exact w
   |some φ=>
    rw[e1]at w;show WantG _ _ _ _ _ _ _ (((denL Φ Γ (c::cs) ρ S).bind λds S1=>φ ds S1).bind _);cases e2:denL Φ Γ (c::cs) ρ S with
    |ok ds S1=>rw[e2]at w;exact w
    |err y S1=>rw[e2]at w;exact w
    |fail=>rw[e2]at w;exact w
 |blt b es=>
  have hL:=a4M' es O (andB (andB h).2).1;cases es with
  |nil=>cases(andB (andB (andB h).2).2).1
  |cons c cs=>
   refine weakT (t_val (σ:=[]) (s_blt O (blt_ok O b (andB (andB (andB h).2).2).2) (andB h).1 (a1O' (cs:=c::cs) (andB (andB h).2).1) hL) λ_=>rfl) λσ H Q zz=>ex43 zz λF μ ρ S sk en w=>⟨F,μ,ρ,S,sk,en,?_⟩;simp only[denT]at w;simp only[den];cases e2:denL Φ Γ (c::cs) ρ S with
   |ok ds S1=>rw[e2]at w;exact w
   |err y S1=>rw[e2]at w;exact w
   |fail=>rw[e2]at w;exact w
 |cmp op a b=>exact t_cmp O.room.units (a0B' a O (andB h).1) (a0B' b O (andB (andB h).2).1) (notB (andB (andB h).2).2)
 |chain op op' a b c=>exact t_chain O.room.units (a0B' a O (andB h).1) (a0B' b O (andB (andB h).2).1) (a0B' c O (andB (andB (andB h).2).2).1) (notB (andB (andB (andB h).2).2).2)
 |band a b=>exact(b4i' (a3M' a O (andB h).1) (λz=>a3M' b O (cond1 (andB h).2 z)) λz=>by have g:=(andB (cond2 (andB h).2 z)).1;obtain⟨r,rest,q⟩:=b1s' (pos:=(vw e).pos) (N:=N) (es:=(vw e).es.tail) g;exact⟨r,rest,q,b3p' b O (andB (cond2 (andB h).2 z)).2 (by rw[g];rfl)⟩).pt
 |bor a b=>exact(em_orT (a3M' a O (andB h).1) (λz=>a3M' b O (cond1 (andB h).2 z)) λz=>by have g:=(andB (cond2 (andB h).2 z)).1;obtain⟨r,rest,q⟩:=b5E' (pos:=(vw e).pos) (N:=N) (es:=(vw e).es.tail) g;exact⟨r,rest,q,b3p' b O (andB (cond2 (andB h).2 z)).2 (by rw[g,Bool.or_true])⟩).pt
 |bnot a=>exact t_not (a3M' a O h)
 |_=>exact(tT_fail λ_ _=>by simp only[denT]).pt
theorem b3p'(c:CE):∀{X:Cx} {cell:Str→Bool} {N:Ls} {sc:Sc} {CX:CXT} {E:XK} {Φ:FT} {Γ:Str→Option D} {k:Nat} {e:Expr},XOk X cell N sc CX E Φ Γ k→sdE c N sc e=true→(b5e' c||isBor c)=true→PW X (emE c N e) (tT X.K X.mg E Φ Γ c):=by
 intro X cell N sc CX E Φ Γ k e O h hb;cases c with
 |band a b=>exact b4i' (a3M' a O (andB h).1) (λz=>a3M' b O (cond1 (andB h).2 z)) λz=>by have g:=(andB (cond2 (andB h).2 z)).1;obtain⟨r,rest,q⟩:=b1s' (pos:=(vw e).pos) (N:=N) (es:=(vw e).es.tail) g;exact⟨r,rest,q,b3p' b O (andB (cond2 (andB h).2 z)).2 (by rw[g];rfl)⟩
 |bor a b=>exact em_orT (a3M' a O (andB h).1) (λz=>a3M' b O (cond1 (andB h).2 z)) λz=>by have g:=(andB (cond2 (andB h).2 z)).1;obtain⟨r,rest,q⟩:=b5E' (pos:=(vw e).pos) (N:=N) (es:=(vw e).es.tail) g;exact⟨r,rest,q,b3p' b O (andB (cond2 (andB h).2 z)).2 (by rw[g,Bool.or_true])⟩
 |_=>cases hb
theorem a4M'(cs:List CE):∀{X:Cx} {cell:Str→Bool} {N:Ls} {sc:Sc} {CX:CXT} {E:XK} {Φ:FT} {Γ:Str→Option D} {k:Nat} {es:Lx},XOk X cell N sc CX E Φ Γ k→sdL cs N sc es=true→PA X (emL cs N es) (tL X.K X.mg E Φ Γ cs):=by
 intro X cell N sc CX E Φ Γ k es O h;cases cs with
 |nil=>exact s_nil
 |cons c cs=>exact s_cons (andB (andB h).2).1 (a0B' c O (andB h).1) (a4M' cs O (andB (andB h).2).2)
theorem soundP(cs:List CE):∀{X:Cx} {cell:Str→Bool} {N:Ls} {sc:Sc} {CX:CXT} {E:XK} {Φ:FT} {Γ:Str→Option D} {k:Nat} {es:Lx},XOk X cell N sc CX E Φ Γ k→sdL cs N sc es=true→cs.length<2→PO X (emL cs N es).head? (tPt X.K X.mg E Φ Γ cs):=by
 intro X cell N sc CX E Φ Γ k es O h hl;cases cs with
 |nil=>exact s_part0
 |cons c cs=>cases cs with
  |nil=>exact s_part1 (a0B' c O (andB h).1)
  |cons _ _=>exact absurd hl (by simp)
theorem a8O'(cs:List CE):∀{X:Cx} {cell:Str→Bool} {N:Ls} {sc:Sc} {CX:CXT} {E:XK} {Φ:FT} {Γ:Str→Option D} {k:Nat} {es:Lx},XOk X cell N sc CX E Φ Γ k→sdL cs N sc es=true→PTs X (emL cs N es) (cs.map (tT X.K X.mg E Φ Γ)):=by
 intro X cell N sc CX E Φ Γ k es O h;cases cs with
 |nil=>trivial
 |cons c cs=>exact⟨a3M' c O (andB h).1,a8O' cs O (andB (andB h).2).2⟩
theorem b3q'(c:CE):∀{X:Cx} {cell:Str→Bool} {N:Ls} {sc:Sc} {CX:CXT} {E:XK} {Φ:FT} {Γ:Str→Option D} {k:Nat} {tg:CT} {t e:Expr},XOk X cell N sc CX E Φ Γ k→sdI c N sc tg e=true→(b2X' tg=true→isTup t=true)→PI X t (emI c N e) (tI X.K X.mg E Φ Γ c):=by
 intro X cell N sc CX E Φ Γ k tg t e O h ht;cases c with
 |seq a=>exact i_seq (a0B' a O h)
 |range es=>
  have h2:=(andB (andB h).2).1;have h3:=(andB (andB h).2).2;have hs:=a1O' h2;have hL:=a4M' es O h2;cases es with
  |nil=>cases h3
  |cons a es=>cases es with
   |nil=>exact b5l' O (andB h).1 (hs _ Zb) rfl hL
   |cons b es=>cases es with
    |nil=>exact b5m' O (andB h).1 (hs _ Zb) (hs _ (Zc _ Zb)) rfl hL
    |cons d es=>cases h3
 |down es=>
  have h2:=(andB (andB (andB h).2).2).1;have h3:=(andB (andB (andB h).2).2).2;have hs:=a1O' h2;have hL:=a4M' es O h2;cases es with
  |nil=>cases h3
  |cons a es=>cases es with
   |nil=>exact i_down O (andB h).1 (andB (andB h).2).1 (hs _ Zb) hL
   |cons b es=>cases h3
 |by2 es=>cases h
 |revl es=>cases h
 |enum es=>cases h
 |zip es=>
  have h2:=(andB (andB h).2).1;have h3:=(andB (andB h).2).2;have hs:=a1O' h2;have hL:=a4M' es O h2;cases es with
  |nil=>cases(andB h3).1
  |cons a es=>cases es with
   |nil=>cases(andB h3).1
   |cons b es=>cases es with
    |nil=>exact i_zip O (andB h).1 (ht (andB h3).2) (hs _ Zb) (hs _ (Zc _ Zb)) hL
    |cons d es=>cases(andB h3).1
 |_=>cases h
theorem b5F'(c:CE):∀{X:Cx} {cell:Str→Bool} {N:Ls} {sc:Sc} {CX:CXT} {E:XK} {Φ:FT} {Γ:Str→Option D} {k:Nat} {el:Expr} {gens gs:List Comprehension} {scope:Scope} {pos:Pos} {d:Nat} {acc:Addr},XOk X cell N sc CX E Φ Γ k→X.xe=(λ_ _=>False)→gens.drop (d+1)=emBg c N gs→sdB c cell N sc gs el=true→
  PB X (cRest (emBe c N el) gens scope pos d (.ref acc) X.env) (tB X.K X.mg Φ Γ c acc):=by
 intro X cell N sc CX E Φ Γ k el gens gs scope pos d acc O hx hd h;cases c with
 |emit a=>exact c_emit (b3n' hd) (a0B' a O h)
 |inner tg it ifs body=>obtain⟨h4,h⟩:=andB h;obtain⟨h5,h⟩:=andB h;obtain⟨h6,h⟩:=andB h;obtain⟨h7,h8⟩:=andB h;exact c_inner hx O.calm (b5D' hd) (b3q' it O h5 a6V') (a2K' h6) (g_pg O h4) (b5r' (a8O' ifs O h7) (b5F' body O hx (b3o' hd) h8))
 |_=>cases h
end
def WantS(K:Fg)(mg:GS)(E:XK)(D:Ends)(μ:La)(H:Hp):Res Fl→Prop
 | .ok (.next ρ') S'=>∀μ' H' σ',Ext μ H μ' H'→SOk K mg μ' S' H'→EnvR K mg μ' H' ρ' σ'→D.nx σ' H'
 | .ok (.ret d) S'=>∀μ' H' v,Ext μ H μ' H'→SOk K mg μ' S' H'→Rep K mg μ' H' d v→D.rt v H'
 | .ok (.brk ρ') S'=>∀μ' H' σ',Ext μ H μ' H'→SOk K mg μ' S' H'→EnvR K mg μ' H' ρ' σ'→D.bk σ' H'
 | .ok (.cont ρ') S'=>∀μ' H' σ',Ext μ H μ' H'→SOk K mg μ' S' H'→EnvR K mg μ' H' ρ' σ'→D.ct σ' H'
 | .err x S'=>∀μ' H',Ext μ H μ' H'→SOk K mg μ' S' H'→exOf mg.mg E x H'
 | .fail=>False
def tS(K:Fg)(mg:Mg)(E:XK)(Φ:FT)(Γ:Str→Option D)(c:CS):TS:=λD σ H=>∃F μ ρ S,SOk K ⟨mg,F⟩ μ S H∧EnvR K ⟨mg,F⟩ μ H ρ σ∧WantS K ⟨mg,F⟩ E D μ H (denS Φ Γ c ρ S)
def tSs(K:Fg)(mg:Mg)(E:XK)(Φ:FT)(Γ:Str→Option D)(cs:List CS):TS:=λD σ H=>∃F μ ρ S,SOk K ⟨mg,F⟩ μ S H∧EnvR K ⟨mg,F⟩ μ H ρ σ∧WantS K ⟨mg,F⟩ E D μ H (denSs Φ Γ cs ρ S)
section
variable {mg:GS}{E:XK}{D D':Ends}
theorem WantS.ext{r:Res Fl}(x:Ext μ H μ' H')(w:WantS K mg E D μ H r):WantS K mg E D μ' H' r:=by
 cases r with
 |ok f S=>
  cases f with
  |next ρ=>exact λm h s y=>w m h s (x.trans y)
  |ret d=>exact λm h s y=>w m h s (x.trans y)
  |brk ρ=>exact λm h s y=>w m h s (x.trans y)
  |cont ρ=>exact λm h s y=>w m h s (x.trans y)
 |err z S=>exact λm h y=>w m h (x.trans y)
 |fail=>exact w
theorem WantS.bind{Rel:La→Hp→α→β→Prop}{r:Res α}{f:α→Store→Res Fl}(w:WantS K mg E D μ H (r.bind f)):
  WantG K mg E Rel μ H (λb H'=>∃μ' S' a,Ext μ H μ' H'∧SOk K mg μ' S' H'∧Rel μ' H' a b∧WantS K mg E D μ' H' (f a S')) r:=by
 cases r with
 |ok a S'=>exact λμ2 H2 b x s r=>⟨μ2,S',a,x,s,r,WantS.ext x (show WantS K mg E D μ H (f a S')from w)⟩
 |err y S'=>exact w
 |fail=>exact w
theorem WantS.seq{r:Res Fl}{f:Rho→Store→Res Fl}{N:L2.St→Hp→Prop}(w:WantS K mg E D μ H (r.bind λfl S1=>match fl with
   | .next ρ'=>f ρ' S1
   |fl=>.ok fl S1)) (hN:∀μ' H' σ' ρ' S',Ext μ H μ' H'→SOk K mg μ' S' H'→EnvR K mg μ' H' ρ' σ'→WantS K mg E D μ' H' (f ρ' S')→N σ' H'):WantS K mg E {D with nx:=N} μ H r:=by
 cases r with
 |ok fl S=>
  cases fl with
  |next ρ=>exact λm h s x k en=>hN m h s ρ S x k en (WantS.ext x (show WantS K mg E D μ H (f ρ S)from w))
  |ret d=>exact w
  |brk ρ=>exact w
  |cont ρ=>exact w
 |err z S=>exact w
 |fail=>exact w
end
theorem weakS{t t':TS}(h:PS X st t)(w:∀D σ H,t' D σ H→t D σ H):PS X st t':=λpq s σ H D I q=>h pq s σ H D I (w D σ H q)
theorem weakSs{st:List Stmt}{t t':TS}(h:PSs X st t)(w:∀D σ H,t' D σ H→t D σ H):PSs X st t':=λpq s σ H D I q=>h pq s σ H D I (w D σ H q)
noncomputable def a5C':Expr→Bool
 | .ListComp .. =>false
 | .SetComp .. =>false
 | .DictComp .. =>false
 |_=>true
def isComp:Expr→Bool
 | .ListComp .. =>true
 |_=>false
noncomputable def locB(sc:Sc)(x:Str):Bool:=sc.lookup x==some .local||sc.lookup x==some .cell
noncomputable def swB(sc:Sc)(x:Str)(p:Pos)(v:Expr):Bool:=sc.lookup x==some .local&&(p.line==(vw v).pos.line&& !((vw v).sc.names.any λ(n,k)=>n==x&&(k== .local||k== .cell)))
def dS:Stmt:=.Pass ⟨0,0,0,0⟩
structure NdS where
 e0:Expr:=dE
 e1:Expr:=dE
 a:List Stmt:=[]
 b:List Stmt:=[]
 pos:Pos:=⟨0,0,0,0⟩
noncomputable def vs:Stmt→NdS
 | .Assign ts v p=>{e0:=ts.headD dE,e1:=v,pos:=p}
 | .AugAssign t _ v p=>{e0:=t,e1:=v,pos:=p}
 | .Expr v p=>{e0:=v,pos:=p}
 | .Return v p=>{e0:=v.getD dE,pos:=p}
 | .Pass p=>{pos:=p}
 | .Break p=>{pos:=p}
 | .Continue p=>{pos:=p}
 | .If t x y p=>{e0:=t,a:=x,b:=y,pos:=p}
 | .For t i x _ p=>{e0:=t,e1:=i,a:=x,pos:=p}
 | .While t x _ p=>{e0:=t,a:=x,pos:=p}
 |_=>{}
mutual
noncomputable def emS:CS→Ls→Stmt→Stmt
 | .asg i e,N,st=>.Assign [.Name (N.getD i "") (vw (vs st).e0).pos] (emE e N (vs st).e1) (vs st).pos
 | .asgT t e,N,st=>.Assign [emT t N (vs st).e0] (emE e N (vs st).e1) (vs st).pos
 | .par _ _,_,st=>st
 | .aug _ _,_,st=>st
 | .set _ _ _,_,st=>st
 | .set2 _ _ _ _ _,_,st=>st
 | .expr e,N,st=>.Expr (emE e N (vs st).e0) (vs st).pos
 | .ret e,N,st=>.Return (some (emE e N (vs st).e0)) (vs st).pos
 | .retN,_,st=>.Return none (vs st).pos
 | .pass,_,st=>.Pass (vs st).pos
 | .brk,_,st=>.Break (vs st).pos
 | .cont,_,st=>.Continue (vs st).pos
 | .ite c a b,N,st=>.If (emE c N (vs st).e0) (emSs a N (vs st).a) (emSs b N (vs st).b) (vs st).pos
 | .for_ t it body,N,st=>.For (emT t N (vs st).e0) (emI it N (vs st).e1) (emSs body N (vs st).a) [] (vs st).pos
 | .while_ _ c body,N,st=>.While (emE c N (vs st).e0) (emSs body N (vs st).a) [] (vs st).pos
 | .never,_,st=>st
noncomputable def emSs:List CS→Ls→List Stmt→List Stmt
 | [],_,_=>[]
 |c::cs,N,st=>emS c N (st.headD dS)::emSs cs N st.tail
end
noncomputable def foldB:Expr→Bool
 | .Tuple xs _ _=>xs.all (foldedForSure 8)
 |_=>true
noncomputable def cellB(sc:Sc):Expr→Bool
 | .Tuple ts _ _=>ts.any fun
  | .Name id _=>sc.lookup id==some .cell
  |_=>false
 |_=>false
mutual
noncomputable def sdS:CS→Ls→Sc→Stmt→Bool
 | .asg i e,N,sc,st=>N[i]?==some (N.getD i "")&&(locB sc (N.getD i "")&&(sdE e N sc (vs st).e1&&(a5C' (emE e N (vs st).e1)||(isCmp e&&(sc.lookup (N.getD i "")==some .cell||swB sc (N.getD i "") (vw (vs st).e0).pos (emE e N (vs st).e1))))))
 | .asgT t e,N,sc,st=>b2X' t&&((foldB (emE e N (vs st).e1)||cellB sc (emT t N (vs st).e0))&&(a5C' (emE e N (vs st).e1)&&(sdT (λ_=>true) N sc t&&sdE e N sc (vs st).e1)))
 | .par _ _,_,_,_=>false
 | .aug _ _,_,_,_=>false
 | .set _ _ _,_,_,_=>false
 | .set2 _ _ _ _ _,_,_,_=>false
 | .expr e,N,sc,st=>a5C' (emE e N (vs st).e0)&&sdE e N sc (vs st).e0
 | .ret e,N,sc,st=>sdE e N sc (vs st).e0
 | .retN,_,_,_=>true
 | .pass,_,_,_=>true
 | .brk,_,_,_=>true
 | .cont,_,_,_=>true
 | .ite c a b,N,sc,st=>sdE c N sc (vs st).e0&&(sdSs a N sc (vs st).a&&sdSs b N sc (vs st).b)
 | .for_ t it body,N,sc,st=>sdT (λ_=>true) N sc t&&(sdI it N sc t (vs st).e1&&(b2W' (emI it N (vs st).e1)&&sdSs body N sc (vs st).a))
 | .while_ _ c body,N,sc,st=>sdE c N sc (vs st).e0&&sdSs body N sc (vs st).a
 | .never,_,_,_=>true
noncomputable def sdSs:List CS→Ls→Sc→List Stmt→Bool
 | [],_,_,_=>true
 |c::cs,N,sc,st=>sdS c N sc (st.headD dS)&&sdSs cs N sc st.tail
end
section
variable {E:XK}{pos:Pos}
theorem b5G'{v:Expr}{o:Option Expr}(h:a5C' v=true):swapsWith v o line env=pure false:=by cases v<;>first|rfl|cases h
theorem bk_fn(O:XOk X cell N sc CX E Φ Γ k):X.env.blockKind=.function:=by unfold Env.blockKind;rw[O.kd];rfl
theorem sw_cell(O:XOk X cell N sc CX E Φ Γ k){v:Expr}{x:Str}{p:Pos}(h:isComp v=true)(hx:sc.lookup x=some .cell):swapsWith v (some (.Name x p)) line X.env=pure false:=by
 have e1:X.env.kindOf x=some .cell:=by show X.env.scope.names.lookup x=_;rw[O.sc];exact hx
 cases v<;>first| (cases h;done)|skip
 rename_i el gs scope vp;unfold swapsWith;show(pure (X.env.blockKind== .function&&X.env.kindOf x==some .local&&p.line==vp.line&& !_):Sem Bool)=pure false;rw[e1];have e2:(some NameKind.cell==some NameKind.local)=false:=by decide
 rw[e2,Bool.and_false,Bool.false_and,Bool.false_and]
theorem sw_yes(O:XOk X cell N sc CX E Φ Γ k){el:Expr}{gs:List Comprehension}{vp p:Pos}{x:Str}(h:swB sc x p (.ListComp el gs scope vp)=true):swapsWith (.ListComp el gs scope vp) (some (.Name x p)) line X.env=pure true:=by
 obtain⟨h1,h⟩:=andB h;obtain⟨h2,h3⟩:=andB h;have e1:X.env.kindOf x=some .local:=by show X.env.scope.names.lookup x=_;rw[O.sc];exact beq_iff_eq.mp h1
 unfold swapsWith;show(pure (X.env.blockKind== .function&&X.env.kindOf x==some .local&&p.line==vp.line&& !_):Sem Bool)=pure true;rw[bk_fn O,e1,show(p.line==vp.line)=true from h2];have h3':(!(scope.names.any λx_1=>match x_1 with| (n,k)=>n==x&&(k== .local||k== .cell)))=true:=h3
 first|rw[h3'];rfl|simp_all
theorem loc_ok(O:XOk X (λ_=>true) N sc CX E Φ Γ k){x:Str}(h:locB sc x=true):L2.Loc X.env.scope x:=by unfold L2.Loc;rw[O.sc];unfold locB at h;simpa using h
theorem b4j'{D:Ends}{i:Nat}{e:CE}(h:tS X.K X.mg E Φ Γ (.asg i e) D σ H):tE X.K X.mg E Φ Γ e σ H λv H1=>D.nx (σ.set i (some v)) H1:=by obtain⟨F,μ,ρ,S,sk,en,w⟩:=h;simp only[denS]at w;exact⟨F,μ,ρ,S,sk,en,(WantS.bind w).mono λv H1 zz=>ex34 zz λμ1 S1 d x1 s1 r1 w1=>w1 μ1 H1 _ .refl s1 ((en.mono x1).set r1)⟩
theorem s_asg(O:XOk X (λ_=>true) N sc CX E Φ Γ k){i:Nat}{e:CE}(h:sdS (.asg i e) N sc st=true):PS X (emS (.asg i e) N st) (tS X.K X.mg E Φ Γ (.asg i e)):=by
 obtain⟨h1,h⟩:=andB h;obtain⟨h2,h⟩:=andB h;obtain⟨h3,h4⟩:=andB h;have h1:=beq_iff_eq.mp h1
 have plain:swapsWith (emE e N (vs st).e1) (some (.Name (N.getD i "") (vw (vs st).e0).pos)) (vs st).pos.line X.env=pure false→PS X (emS (.asg i e) N st) (tS X.K X.mg E Φ Γ (.asg i e)):=λhs=>
  weakS (ps_set (i:=i) (by rw[O.n];exact O.nd) (by rw[O.n];exact h1) (loc_ok O h2) (a0B' e O h3) hs (.inl (O.fn _ rfl))) λD σ H q=>b4j' q
 rcases Bool.or_eq_true_iff.mp h4 with h4|h4
 ·exact plain (b5G' h4)
 ·obtain⟨h4,h5⟩:=andB h4;cases e with
  |comp box N' fr tg it ifs body=>
   rcases Bool.or_eq_true_iff.mp h5 with h5|h5
   ·exact plain (sw_cell O rfl (beq_iff_eq.mp h5))
   ·have hsw:=sw_yes O (line:=(vs st).pos.line) h5;have hx:X.env.scope.names.lookup (N.getD i "")=some .local:=by rw[O.sc];exact beq_iff_eq.mp (andB h5).1
    obtain⟨k1,h⟩:=andB h3;obtain⟨k2,h⟩:=andB h;obtain⟨k3,h⟩:=andB h;obtain⟨k4,h⟩:=andB h;obtain⟨k5,h⟩:=andB h;obtain⟨k6,h⟩:=andB h;obtain⟨k7,k8⟩:=andB h;have sc1:=b1p' O k1
    refine weakS (ps_comp (N:=N') (j:=i) (g:=gCT X.K tg) (tb:=tC X.K X.mg Φ Γ ifs body) O.calm (by rw[O.n];exact O.nd) (by rw[O.n];exact h1) hx hsw sc1 (b1q' O k2) (b3q' it O k5 a6V') (λacc env=>a6L' _ env>>=λok=>if ok=true then cRest _ (_::_) _ _ 0 (.ref acc) env else pure ())
     (λit acc env=>a3K' rfl) (λC s0 H0 fp acc=>?_) (a2K' k6)) λD σ H q=>c_comp (tg0:=.Name (N.getD i "") (vw (vs st).e0).pos) (b4j' q)
    have O':=b1r' O sc1.kind k3 C s0 H0 fp;exact⟨g_pg O' k4,b5r' (a8O' ifs O' k7) (b5F' body O' rfl rfl k8)⟩
  |_=>cases h4
end
structure YOk (X:Cx)(N:Ls)(sc:Sc)(CX:CXT)(E:XK)(Φ:FT)(Γ:Str→Option D)(k:Nat):Prop where
 x:XOk X (λ_=>true) N sc CX E Φ Γ k
 own:PassesOwn (model X.prog X.w) X.A X.env X.xe
section
variable {E:XK}{pos:Pos}
theorem fm_lt{α β:Type}{f:α→Option β}{x:α}(h:f x=none):∀{l:List α},x∈l→(l.filterMap f).length<l.length
 | [],hx=>by cases hx
 |y::l,hx=>by
  rcases Zj.mp hx with rfl|hx
  ·rw[List.filterMap_cons_none h];exact Nat.lt_succ_of_le (List.length_filterMap_le _ _)
  ·have:=fm_lt h hx;have h2:=List.length_filterMap_le f [y];rw[show y::l=[y]++l from rfl,List.filterMap_append,Zp,Zp];simp at h2⊢;omega
theorem sws_tup{v:Expr}(hs:env.scope.names=sc)(h1:isTup tg=true)(h2:(foldB v||cellB sc tg)=true):swappedStores [tg] v env=pure none:=by
 cases tg<;>first| (cases h1;done)|skip
 cases v<;>first|rfl|skip
 rename_i ts _ _ us _ _;unfold swappedStores;simp only[];split
 ·rfl
 ·split
  ·rfl
  ·split
   ·rfl
   ·rename_i hn;rcases Bool.or_eq_true_iff.mp h2 with h|h
    ·have h:(List.all us (foldedForSure 8))=true:=h
     first|rfl|rw[if_pos h]
    ·exfalso
     have h:(ts.any λx=>match x with
      | .Name id _=>sc.lookup id==some .cell
      |_=>false)=true:=h
     obtain⟨x,hx,hc⟩:=List.any_eq_true.mp h;refine hn ?_
     have hl:=fm_lt (f:=λx=>match x with
      |Expr.Name id pos=>if env.kindOf id==some .local&&pos.line==(ts.head?.map (·.pos.line)).getD 0 then some id else none
      |_=>none) (x:=x) (by
       cases x<;>first|rfl|skip
       rename_i id pos;have hc:(sc.lookup id==some .cell)=true:=hc
       have e:env.kindOf id=some .cell:=by show env.scope.names.lookup id=_;rw[hs];exact eq_of_beq hc
       show(if(env.kindOf id==some .local&&_)=true then _ else _)=none;rw[e];rfl) hx
     rw[Bool.or_eq_true];exact .inl (bne_iff_ne.mpr (ZJ hl))
theorem b5H'(h1:isTup tg=true):(assignEach [tg] env).map (·.2)=[assign tg env]:=by cases tg<;>first|rfl|cases h1
theorem s_asgT(O:XOk X (λ_=>true) N sc CX E Φ Γ k){t:CT}{e:CE}{v:Expr}(h1:isTup (emT t N tg)=true)(h2:(foldB v||cellB sc (emT t N tg))=true)(h3:a5C' v=true)(h4:sdT (λ_=>true) N sc t=true)(h5:PE X v (tE X.K X.mg E Φ Γ e)):PS X (.Assign [emT t N tg] v pos) (tS X.K X.mg E Φ Γ (.asgT t e)):=
 weakS (ps_asg h5 (g_pg O h4) (b5G' h3) (sws_tup O.sc h1 h2) (b5H' h1)) λD σ H zz=>ex43 zz λF μ ρ S sk en w=>by
  simp only[denS]at w;refine⟨F,μ,ρ,S,sk,en,(WantS.bind w).mono λv H1 zz=>ex34 zz λμ1 S1 d x1 s1 r1 w1=>?_⟩;cases ea:asgCT t d ρ with
  |none=>rw[ea]at w1;exact w1.elim
  |some ρ'=>rw[ea]at w1;exact g_do ea r1 (en.mono x1) λσ' en'=>w1 μ1 H1 σ' .refl s1 en'
theorem s_expr{e:CE}{v:Expr}(h0:a5C' v=true)(he:PE X v (tE X.K X.mg E Φ Γ e)):PS X (.Expr v pos) (tS X.K X.mg E Φ Γ (.expr e)):=
 weakS (ps_expr he (b5G' h0)) λD σ H zz=>ex43 zz λF μ ρ S sk en w=>by simp only[denS]at w;exact⟨F,μ,ρ,S,sk,en,(WantS.bind w).mono λv H1 zz=>ex34 zz λμ1 S1 d x1 s1 r1 w1=>w1 μ1 H1 σ .refl s1 (en.mono x1)⟩
theorem s_ret{e:CE}{v:Expr}(he:PE X v (tE X.K X.mg E Φ Γ e)):PS X (.Return (some v) pos) (tS X.K X.mg E Φ Γ (.ret e)):=
 weakS (ps_ret he) λD σ H zz=>ex43 zz λF μ ρ S sk en w=>by simp only[denS]at w;exact⟨F,μ,ρ,S,sk,en,(WantS.bind w).mono λv H1 zz=>ex34 zz λμ1 S1 d x1 s1 r1 w1=>w1 μ1 H1 v .refl s1 r1⟩
theorem s_retN:PS X (.Return none pos) (tS X.K X.mg E Φ Γ .retN):=weakS ps_retN λD σ H zz=>ex43 zz λF μ ρ S sk en w=>w μ H .non .refl sk b0u'
theorem s_pass:PS X (.Pass pos) (tS X.K X.mg E Φ Γ .pass):=weakS ps_pass λD σ H zz=>ex43 zz λF μ ρ S sk en w=>w μ H σ .refl sk en
theorem s_brk:PS X (.Break pos) (tS X.K X.mg E Φ Γ .brk):=weakS b4F' λD σ H zz=>ex43 zz λF μ ρ S sk en w=>w μ H σ .refl sk en
theorem s_cont:PS X (.Continue pos) (tS X.K X.mg E Φ Γ .cont):=weakS a9n' λD σ H zz=>ex43 zz λF μ ρ S sk en w=>w μ H σ .refl sk en
theorem s_if{c:CE}{a b:List CS}{t:Expr}{x y:List Stmt}(hc:PT X t (tT X.K X.mg E Φ Γ c))(ha:PSs X x (tSs X.K X.mg E Φ Γ a))(hb:PSs X y (tSs X.K X.mg E Φ Γ b)):PS X (.If t x y pos) (tS X.K X.mg E Φ Γ (.ite c a b)):=
 weakS (ps_if hc ha hb) λD σ H zz=>ex43 zz λF μ ρ S sk en w=>by
  simp only[denS]at w;refine⟨F,μ,ρ,S,sk,en,(WantS.bind w).mono λk H1 zz=>ex34 zz λμ1 S1 k' x1 s1 e1 w1=>?_⟩;subst e1;cases k' with
  |true=>rw[if_pos rfl]at w1⊢;exact⟨F,μ1,ρ,S1,s1,en.mono x1,w1⟩
  |false=>rw[if_neg (by decide)]at w1⊢;exact⟨F,μ1,ρ,S1,s1,en.mono x1,w1⟩
theorem s_nilS:PSs X [] (tSs X.K X.mg E Φ Γ []):=weakSs pss_nil λD σ H zz=>ex43 zz λF μ ρ S sk en w=>w μ H σ .refl sk en
theorem s_consS{c:CS}{s:Stmt}{st:List Stmt}(h1:PS X s (tS X.K X.mg E Φ Γ c))(h2:PSs X st (tSs X.K X.mg E Φ Γ cs)):PSs X (s::st) (tSs X.K X.mg E Φ Γ (c::cs)):=
 weakSs (b4E' h1 h2) λD σ H zz=>ex43 zz λF μ ρ S sk en w=>by simp only[denSs]at w;exact⟨F,μ,ρ,S,sk,en,WantS.seq w λμ' H' σ' ρ' S' x k en' w'=>⟨F,μ',ρ',S',k,en',w'⟩⟩
theorem a8P'{mg:GS}{D:Ends}{r:Res Fl}{f:Rho→Store→Res Fl}{Nx:L2.St→Hp→Prop}(w:WantS K mg E D μ H (r.bind λfl S'=>match fl with
   | .next ρ'=>f ρ' S'
   | .cont ρ'=>f ρ' S'
   | .brk ρ'=>.ok (.next ρ') S'
   | .ret d=>.ok (.ret d) S')) (hN:∀μ' H' σ' ρ' S',Ext μ H μ' H'→SOk K mg μ' S' H'→EnvR K mg μ' H' ρ' σ'→WantS K mg E D μ' H' (f ρ' S')→Nx σ' H'):WantS K mg E {D with nx:=Nx,ct:=Nx,bk:=D.nx} μ H r:=by
 cases r with
 |ok fl S=>
  cases fl with
  |next ρ=>exact λm h s x k en=>hN m h s ρ S x k en (WantS.ext x (show WantS K mg E D μ H (f ρ S)from w))
  |ret d=>exact w
  |brk ρ=>exact w
  |cont ρ=>exact λm h s x k en=>hN m h s ρ S x k en (WantS.ext x (show WantS K mg E D μ H (f ρ S)from w))
 |err z S=>exact w
 |fail=>exact w
theorem s_while{c:CE}{t:Expr}{x:List Stmt}(hp:PassesOwn (model X.prog X.w) X.A X.env X.xe)(hc:PT X t (tT X.K X.mg E Φ Γ c))(hb:PSs X x (tSs X.K X.mg E Φ Γ body)):PS X (.While t x [] pos) (tS X.K X.mg E Φ Γ (.while_ n c body)):=
 weakS (b4H' hp hc hb) λD σ H zz=>ex43 zz λF μ ρ S sk en w=>by
  simp only[denS]at w;refine⟨λm σ H=>∃μ ρ S,SOk X.K ⟨X.mg,F⟩ μ S H∧EnvR X.K ⟨X.mg,F⟩ μ H ρ σ∧WantS X.K ⟨X.mg,F⟩ E D μ H (a3J' (denT Φ Γ c) (denSs Φ Γ body) m ρ S),⟨n,μ,ρ,S,sk,en,w⟩,?_⟩;rintro m σ H ⟨μ,ρ,S,sk,en,w⟩;cases m with
  |zero=>exact w.elim
  |succ m=>
   unfold a3J' at w;refine⟨F,μ,ρ,S,sk,en,(WantS.bind w).mono λk H1 zz=>ex34 zz λμ1 S1 k' x1 s1 e1 w1=>?_⟩;subst e1;cases k' with
   |true=>rw[if_pos rfl]at w1⊢;refine⟨λσ' H'=>∃μ ρ S,SOk X.K ⟨X.mg,F⟩ μ S H'∧EnvR X.K ⟨X.mg,F⟩ μ H' ρ σ'∧WantS X.K ⟨X.mg,F⟩ E D μ H' (a3J' (denT Φ Γ c) (denSs Φ Γ body) m ρ S),λσ' H' q=>⟨m,Nat.lt_succ_self m,q⟩,F,μ1,ρ,S1,s1,en.mono x1,?_⟩;exact a8P' w1 λμ' H' σ' ρ' S' x k en' w'=>⟨μ',ρ',S',k,en',w'⟩
   |false=>rw[if_neg (by decide)]at w1⊢;exact w1 μ1 H1 σ .refl s1 (en.mono x1)
end
theorem a4N'(step:D→Rho→Store→Res Fl)(xs:List D):∀(n i:Nat) (ρ:Rho) (S:Store),i+n=xs.length→forB step (λ_ i=>some xs[i]?) (n+1) i ρ S=forD step (xs.drop i) ρ S
 |0,i,ρ,S,h=>by rw[List.drop_eq_nil_of_le (by omega)];unfold forB;have:xs[i]?=none:=Yc.mpr (by omega);rw[this];rfl
 |n+1,i,ρ,S,h=>by
  have hi:i<xs.length:=by omega
  rw[Z8 hi];unfold forB;rw[Ze hi];show(step xs[i] ρ S).bind _=(step xs[i] ρ S).bind _;congr 1;funext fl S';cases fl with
  |next ρ'=>exact a4N' step xs n (i+1) ρ' S' (by omega)
  |cont ρ'=>exact a4N' step xs n (i+1) ρ' S' (by omega)
  |brk ρ'=>rfl
  |ret d=>rfl
theorem forI_eq(step:D→Rho→Store→Res Fl)(its:Its)(ρ:Rho)(S:Store):forI step its ρ S=forB step (getOf its) (b0T' its) 0 ρ S:=by
 cases its with
 |items xs=>exact(a4N' step xs xs.length 0 ρ S (by omega)).symm
 |live f get=>rfl
noncomputable def stepF(Φ:FT)(Γ:Str→Option D)(t:CT)(body:List CS):D→Rho→Store→Res Fl:=λx ρ S=>match asgCT t x ρ with
 |some ρ'=>denSs Φ Γ body ρ' S
 |none=>.fail
section
variable {E:XK}{pos:Pos}
theorem s_for{t:CT}{it:CE}{i:Expr}{x:List Stmt}(hp:PassesOwn (model X.prog X.w) X.A X.env X.xe)(hc:X.calm=true)(hi:PI X tg i (tI X.K X.mg E Φ Γ it))(hg:PG X tg (gCT X.K t))(hs:∀x,foldedSetIterable i X.env x=pure x)(hb:PSs X x (tSs X.K X.mg E Φ Γ body)):
  PS X (.For tg i x [] pos) (tS X.K X.mg E Φ Γ (.for_ t it body)):=
 weakS (ps_for hp hc hi hg hb hs) λD σ H zz=>ex43 zz λF μ ρ S sk en w=>by
  simp only[denS]at w;refine⟨F,μ,ρ,S,sk,en,WantG.mono (Rel:=λμ' H' its J=>ItOk X.K ⟨X.mg,F⟩ J (getOf its) μ' H') (WantS.bind w) λJ H1 h=>?_⟩;obtain⟨μ1,S1,its,x1,s1,ok,w1⟩:=h;have w2:WantS X.K ⟨X.mg,F⟩ E D μ1 H1 (forI (stepF Φ Γ t body) its ρ S1):=w1;rw[forI_eq]at w2;refine⟨λi m σ H=>∃μ ρ S,Chg X.K F μ1 H1 F μ H∧SOk X.K ⟨X.mg,F⟩ μ S H∧EnvR X.K ⟨X.mg,F⟩ μ H ρ σ∧WantS X.K ⟨X.mg,F⟩ E D μ H (forB (stepF Φ Γ t body) (getOf its) m i ρ S),⟨b0T' its,μ1,ρ,S1,.refl,s1,en.mono x1,w2⟩,?_⟩;rintro i m σ H ⟨μ,ρ,S,ch,sk,en,w⟩;cases m with
  |zero=>exact w.elim
  |succ m=>
   unfold forB at w;obtain⟨k1,k2⟩:=ok i μ S H F ch sk;cases e:getOf its S i with
   |none=>rw[e]at w;exact w.elim
   |some o=>
    cases o with
    |none=>rw[e]at w;exact .inl ⟨k2 e,w μ H σ .refl sk en⟩
    |some y=>
     rw[e]at w;obtain⟨go,yld⟩:=k1 y e;refine .inr ⟨go,λσ' H'=>∃μ ρ S,Chg X.K F μ1 H1 F μ H'∧SOk X.K ⟨X.mg,F⟩ μ S H'∧EnvR X.K ⟨X.mg,F⟩ μ H' ρ σ'∧WantS X.K ⟨X.mg,F⟩ E D μ H' (forB (stepF Φ Γ t body) (getOf its) m (i+1) ρ S),λσ' H' q=>⟨m,Nat.lt_succ_self m,q⟩,λv H' hv=>?_⟩;obtain⟨x2,s2,r2⟩:=yld v H' hv;have ch2:Chg X.K F μ1 H1 F μ H':=ch.trans (.of_ext x2 λ_ z=>.inl z);have w':=WantS.ext x2 w
     have w3:WantS X.K ⟨X.mg,F⟩ E D μ H' ((stepF Φ Γ t body y ρ S).bind λfl S'=>match fl with
      | .next ρ'=>forB (stepF Φ Γ t body) (getOf its) m (i+1) ρ' S'
      | .cont ρ'=>forB (stepF Φ Γ t body) (getOf its) m (i+1) ρ' S'
      | .brk ρ'=>.ok (.next ρ') S'
      | .ret d=>.ok (.ret d) S'):=w'
     have w4:=a8P' (f:=λρ' S'=>forB (stepF Φ Γ t body) (getOf its) m (i+1) ρ' S') (Nx:=λσ' H'=>∃μ ρ S,Chg X.K F μ1 H1 F μ H'∧SOk X.K ⟨X.mg,F⟩ μ S H'∧EnvR X.K ⟨X.mg,F⟩ μ H' ρ σ'∧WantS X.K ⟨X.mg,F⟩ E D μ H' (forB (stepF Φ Γ t body) (getOf its) m (i+1) ρ S)) w3
      λμ' H'' σ' ρ' S' x3 k en' w''=>⟨μ',ρ',S',ch2.trans (.of_ext x3 λ_ z=>.inl z),k,en',w''⟩
     unfold stepF at w4;cases ea:asgCT t y ρ with
     |none=>simp only[ea]at w4;exact w4.elim
     |some ρ'=>simp only[ea]at w4;exact g_do ea r2 (en.mono x2) λσ2 en2=>⟨F,μ,ρ',S,s2,en2,w4⟩
end
mutual
theorem soundS(c:CS):∀{X:Cx} {N:Ls} {sc:Sc} {CX:CXT} {E:XK} {Φ:FT} {Γ:Str→Option D} {k:Nat} {st:Stmt},YOk X N sc CX E Φ Γ k→sdS c N sc st=true→PS X (emS c N st) (tS X.K X.mg E Φ Γ c):=by
 intro X N sc CX E Φ Γ k st O h;cases c with
 |asg i e=>exact s_asg O.x h
 |asgT t e=>exact s_asgT O.x (a6V' (andB h).1) ((andB (andB h).2).1) (andB (andB (andB h).2).2).1 (andB (andB (andB (andB h).2).2).2).1 (a0B' e O.x (andB (andB (andB (andB h).2).2).2).2)
 |par=>cases h
 |aug=>cases h
 |set=>cases h
 |set2=>cases h
 |expr e=>exact s_expr (andB h).1 (a0B' e O.x (andB h).2)
 |ret e=>exact s_ret (a0B' e O.x h)
 |retN=>exact s_retN
 |pass=>exact s_pass
 |brk=>exact s_brk
 |cont=>exact s_cont
 |ite c a b=>exact s_if (a3M' c O.x (andB h).1) (a5D' a O (andB (andB h).2).1) (a5D' b O (andB (andB h).2).2)
 |for_ t it body=>exact s_for O.own O.x.calm (b3q' it O.x (andB (andB h).2).1 a6V') (g_pg O.x (andB h).1) (a2K' (andB (andB (andB h).2).2).1) (a5D' body O (andB (andB (andB h).2).2).2)
 |while_ n c body=>exact s_while O.own (a3M' c O.x (andB h).1) (a5D' body O (andB h).2)
 |never=>exact λpq s σ H D I zz=>ex43 zz λF μ ρ S sk en w=>w.elim
theorem a5D'(cs:List CS):∀{X:Cx} {N:Ls} {sc:Sc} {CX:CXT} {E:XK} {Φ:FT} {Γ:Str→Option D} {k:Nat} {st:List Stmt},YOk X N sc CX E Φ Γ k→sdSs cs N sc st=true→PSs X (emSs cs N st) (tSs X.K X.mg E Φ Γ cs):=by
 intro X N sc CX E Φ Γ k st O h;cases cs with
 |nil=>exact s_nilS
 |cons c cs=>exact s_consS (soundS c O (andB h).1) (a5D' cs O (andB h).2)
end
mutual
noncomputable def lowD(k:Nat):D→Bool
 | .tup xs=>lowL k xs
 | .lst xs=>lowL k xs
 | .scr xs=>lowL k xs
 | .ref n=>decide (n<k)
 |_=>true
noncomputable def lowL(k:Nat):List D→Bool
 | []=>true
 |x::xs=>lowD k x&&lowL k xs
end
noncomputable def trim(k:Nat)(d:D)(S':Store):Res D:=
 if(S'.take k).all (lowL k)=true then
  (if lowD k d=true then .ok d (S'.take k)else match d with
   | .ref n=>(match S'[n]? with
    |some xs=>if lowL k xs=true∧k≤n then .ok (.ref k) (S'.take k++[xs])else .fail
    |none=>.fail)
   |_=>.fail)
 else .fail
noncomputable def runD(Φ:FT)(Γ:Str→Option D)(body:List CS)(n np:Nat)(ds:List D)(S:Store):Res D:=
 if ds.length=np then
  (match denSs Φ Γ body (ds.map some++List.replicate (n-np) none) S with
  | .ok (.ret d) S'=>trim S.length d S'
  | .ok (.next _) S'=>trim S.length .non S'
  | .err x S'=>if(S'.take S.length).all (lowL S.length)=true then .err x (S'.take S.length)else .fail
  |_=>.fail)
 else .fail
section
variable {mg:GS}{μ'':La}
mutual
theorem Rep.low(hk:∀n,n<k→μ''[n]?=μ'[n]?)(hs:∀a∈μ'',a∈μ'):∀(d:D) (v:V),lowD k d=true→Rep K mg μ' H d v→Rep K mg μ'' H d v
 | .non,_,_,h=>h
 | .bl _,_,_,h=>h
 | .int _,_,_,h=>h
 | .str _,_,_,h=>h
 | .tup ds,v,l,h=>by unfold Rep at h⊢;unfold lowD at l;obtain⟨a,vs,e,q,r⟩:=h;exact⟨a,vs,e,q,RepL.low hk hs ds vs l r⟩
 | .lst ds,v,l,h=>by unfold Rep at h⊢;unfold lowD at l;obtain⟨a,vs,e,q,n,r⟩:=h;exact⟨a,vs,e,q,⟨λz=>n.1 (hs a z),n.2⟩,RepL.low hk hs ds vs l r⟩
 | .scr ds,v,l,h=>by unfold Rep at h⊢;unfold lowD at l;obtain⟨a,vs,e,q,r⟩:=h;exact⟨a,vs,e,q,RepL.low hk hs ds vs l r⟩
 | .ref n,v,l,h=>by unfold Rep at h⊢;unfold lowD at l;obtain⟨a,e,q⟩:=h;exact⟨a,e,by rw[hk n (by simpa using l)];exact q⟩
 | .fn y,v,_,h=>h
 | .ty y,v,_,h=>h
 | .dct,v,_,h=>h
theorem RepL.low(hk:∀n,n<k→μ''[n]?=μ'[n]?)(hs:∀a∈μ'',a∈μ'):∀(ds:List D) (vs:List V),lowL k ds=true→RepL K mg μ' H ds vs→RepL K mg μ'' H ds vs
 | [],vs,_,h=>h
 |d::ds,vs,l,h=>by unfold RepL at h⊢;unfold lowL at l;simp only[ZA]at l;obtain⟨w,ws,e,r,q⟩:=h;exact⟨w,ws,e,Rep.low hk hs d w l.1 r,RepL.low hk hs ds ws l.2 q⟩
end
theorem Ext.cut(x:Ext μ H μ' H'):Ext μ H μ H':=⟨⟨[],by simp⟩,x.keep,x.there,λ_ h=>.inl h⟩
theorem SOk.cut(x:Ext μ H μ' H')(hk:μ.length=k)(s:SOk K mg μ' S' H')(l:(S'.take k).all (lowL k)=true):SOk K mg μ (S'.take k) H':=by
 obtain⟨r,rfl⟩:=x.pre;have hl:=s.len;simp at hl;refine⟨s.live,by rw[Yf];omega,(Z2.mp s.nd).1,λn a ds h1 h2=>?_⟩;have hn:n<k:=by rw[←hk];exact(Zl.mp h1).1
 have h2':=h2;rw[List.getElem?_take_of_lt hn]at h2;obtain⟨vs,q,rr⟩:=s.at_ n a ds (by rw[ZB (by omega)];exact h1) h2;exact⟨vs,q,RepL.low (k:=k) (λm hm=>by rw[ZB (by omega)]) (λb hb=>ZG _ hb) _ _ (ZQ.mp l ds (ZI h2')) rr⟩
theorem b4k'{E:XK}{Q:VK}(x:Ext μ H μ' H')(hk:μ.length=k)(s:SOk K mg μ' S' H')(r:Rep K mg μ' H' d v)(w:WantG K mg E (Rep K mg) μ H Q (trim k d S')):Q v H':=by
 unfold trim at w;split at w
 ·rename_i hl;split at w
  ·rename_i hd;refine w μ H' v x.cut (SOk.cut x hk s hl) ?_;obtain⟨r',rfl⟩:=x.pre;exact Rep.low (k:=k) (λm hm=>by rw[ZB (by omega)]) (λb hb=>ZG _ hb) _ _ hd r
  ·split at w
   ·rename_i n hnl;split at w
    ·rename_i xs hx;split at w
     ·rename_i hxl;unfold Rep at r;obtain⟨a,rfl,ha⟩:=r;obtain⟨vs,q,rr⟩:=s.at_ n a xs ha hx;have s1:=SOk.cut x hk s hl;obtain⟨r',rfl⟩:=x.pre;have hnd:=Z2.mp s.nd;have hn:μ.length≤n:=by omega
      have har:a∈r':=by rw[Zv hn]at ha;exact ZI ha
      have hna:a∉μ:=λz=>hnd.2.2 a z a har rfl
      have hfr:H a=none:=by
       rcases x.fresh a (Zz _ har)with z|z
       ·exact absurd z hna
       ·exact z
      have sub:∀b∈μ++[a],b∈μ++r':=λb hb=>by
       rcases Zs.mp hb with z|z
       ·exact ZG _ z
       ·have:b=a:=by simpa using z
        subst this;exact Zz _ har
      have same:∀m,m<k→(μ++[a])[m]?=(μ++r')[m]? :=λm hm=>by rw[ZB (by omega),ZB (by omega)]
      have hl2:=s.len;simp at hl2;refine w (μ++[a]) H' (.ref a) ⟨⟨[a],rfl⟩,x.keep,x.there,λb hb=>?_⟩ ⟨s.live,?_,?_,λm b ds h1 h2=>?_⟩ ?_
      ·rcases Zs.mp hb with z|z
       ·exact .inl z
       ·have:b=a:=by simpa using z
        subst this;exact .inr hfr
      ·rw[Zp,Zp,Yf];simp;omega
      ·rw[Z2]
       exact⟨hnd.1,by simp,λb hb c hc=>by
        have:c=a:=by simpa using hc
        subst this;intro z;subst z;exact hna hb⟩
      ·by_cases hm:m<μ.length
       ·rw[ZB hm]at h1;rw[ZB (by rw[Yf];omega)]at h2;have h2':=h2;rw[List.getElem?_take_of_lt (by omega)]at h2;obtain⟨ws,q',rr'⟩:=s.at_ m b ds (by rw[ZB hm];exact h1) h2;exact⟨ws,q',RepL.low (k:=k) same sub _ _ (ZQ.mp hl ds (ZI h2')) rr'⟩
       ·have e1:m=μ.length:=by
         have:=(Zl.mp h1).1;simp at this;omega
        subst e1;rw[Zv (Zi _)]at h1;rw[Zv (by rw[Yf];omega)]at h2;have e2:μ.length-(S'.take k).length=0:=by rw[Yf];omega
        rw[e2]at h2;simp at h1 h2;subst h1;subst h2;exact⟨vs,q,RepL.low (k:=k) same sub _ _ hxl.1 rr⟩
      ·unfold Rep;exact⟨a,rfl,by rw[←hk,Zv (Zi _)];simp⟩
     ·exact w.elim
    ·exact w.elim
   ·exact w.elim
 ·exact w.elim
end
theorem b3r'{mg:GS}{vs:List V}(r:RepL K mg μ H ds vs):EnvR K mg μ H (ds.map some++List.replicate (N.length-ds.length) none) (L2.start N vs):=by
 unfold L2.start;have hl:=r.length;refine⟨by simp[hl],λi d e=>?_⟩;by_cases hi:i<ds.length
 ·rw[ZB (by simpa using hi),ZW]at e;cases e1:ds[i]? with
  |none=>rw[e1]at e;cases e
  |some d'=>rw[e1]at e;cases e;obtain⟨v,h1,h2⟩:=r.get e1;exact⟨v,by rw[ZB (by simp;omega),ZW,h1];rfl,h2⟩
 ·rw[Zv (by simpa using hi),List.getElem?_replicate]at e;split at e<;>cases e
theorem FOk.mono{j:Nat}{f:Str}(F:FOk P w K mg base CX j f φ)(h:j≤k):FOk P w K mg base CX k f φ:=by obtain⟨fa,fd,ps,m1,m2,m3,m4,m5⟩:=F.ex;exact⟨fa,fd,ps,m1,m2,m3,m4.mono h,m5⟩
theorem fnok{x:Str}{fd:FuncData}(F:Fun K x qual st f fd)(S:FnScope N ps (a0p' st))(M:MOk P w K mg base CX0 Φ Γ k)(he:emSs body N (a1a' st)=a1a' st)(hc:sdSs body N (a0p' st).names (a1a' st)=true):
  FnOk P w K mg base CX0 (k+1) f fd ps (spOf K mg ps.length (runD Φ Γ body N.length ps.length)):=by
 refine F.ok S (λvs H Q E h=>h.1) (λcdv A outer s H vs Q E hr h=>?_)
 ·obtain⟨hl,F',μ,S0,ds,sk,r,wt⟩:=h;have O:YOk (cxOf CX0 P w K mg base N qual (a0p' st) f cdv A outer s H E).nox N (a0p' st).names CX0 E Φ Γ k:=⟨⟨rfl,S.nd,rfl,S.kind,rfl,hr,λ_ _=>rfl,M,λ_ _ _ _ _ _ _ z=>z.elim,λ_ _ _ _ _ z=>z⟩,PassesOwn.never⟩;refine⟨_,he▸a5D' body O hc,F',μ,ds.map some++List.replicate (N.length-ds.length) none,S0,sk,b3r' r,?_⟩;have hl2:ds.length=ps.length:=by rw[r.length];exact hl
  unfold runD at wt;rw[if_pos hl2,←hl2]at wt;have hkl:μ.length=S0.length:=sk.len;show WantS K ⟨mg,F'⟩ E _ μ H (denSs Φ Γ body (ds.map some++List.replicate (N.length-ds.length) none) S0);cases e:denSs Φ Γ body (ds.map some++List.replicate (N.length-ds.length) none) S0 with
  |ok fl S'=>
   rw[e]at wt;cases fl with
   |next ρ=>exact λμ' H' σ' x s' _=>b4k' x hkl s' b0u' wt
   |ret d=>exact λμ' H' v x s' r'=>b4k' x hkl s' r' wt
   |brk ρ=>exact wt.elim
   |cont ρ=>exact wt.elim
  |err y S'=>
   rw[e]at wt;intro μ' H' x s';by_cases hz:(S'.take S0.length).all (lowL S0.length)=true
   ·simp only[hz,if_true]at wt;exact wt μ H' x.cut (SOk.cut x hkl s' hz)
   ·simp only[hz]at wt;exact wt.elim
  |fail=>rw[e]at wt;exact wt.elim
theorem fok{x:Str}{fd:FuncData}(F:Fun K x qual st f fd)(S:FnScope N ps (a0p' st))(hm:mg x=some (.ref f))(hb:Binds K fd ps [])(M:MOk P w K mg base CX0 Φ Γ k)(he:emSs body N (a1a' st)=a1a' st)(hc:sdSs body N (a0p' st).names (a1a' st)=true):
  FOk P w K mg base CX0 (k+1) x (runD Φ Γ body N.length ps.length):=by
 refine⟨f,fd,ps,hm,F.kp,hb,fnok F S M he hc,λds S' hne=>?_⟩;unfold runD at hne;by_cases h:ds.length=ps.length
 ·exact h
 ·rw[if_neg h]at hne;exact absurd rfl hne
theorem fok0{x:Str}{fd:FuncData}(F:Fun K x qual st f fd)(S:FnScope N ps (a0p' st))(hm:mg x=some (.ref f))(hb:Binds K fd ps []):FOk P w K mg base CX0 k x (λ_ _=>.fail):=
 ⟨f,fd,ps,hm,F.kp,hb,⟨λvs H Q E h=>h.1,λA outer s H args us vs Q E _ _ _ _ h=>by obtain⟨_,_,_,_,_,_,_,z⟩:=h;exact z.elim⟩,λ_ _ h=>absurd rfl h⟩
theorem len1{P:Lv→Prop}(h:∀a,P [a]):∀us:Lv,us.length=1→P us:=λus hl=>by obtain⟨a,rfl⟩:=List.length_eq_one_iff.mp hl;exact h a
theorem len2{P:Lv→Prop}(h:∀a b,P [a,b]):∀us:Lv,us.length=2→P us:=λus hl=>by
 cases us with
 |nil=>cases hl
 |cons a us=>exact len1 (P:=λus=>P (a::us)) (h a) us (Nat.succ.inj hl)
theorem len3{P:Lv→Prop}(h:∀a b c,P [a,b,c]):∀us:Lv,us.length=3→P us:=λus hl=>by
 cases us with
 |nil=>cases hl
 |cons a us=>exact len2 (P:=λus=>P (a::us)) (h a) us (Nat.succ.inj hl)
noncomputable def tbl(l:List (Str×(List D→Store→Res D))):FT:=λf=>l.lookup f
theorem mok{l:List (Str×(List D→Store→Res D))}(h:∀p∈l,FOk P w K mg base CX0 k p.1 p.2)(hg:∀x d,Γ x=some d→∃v u,mg x=some u∧RelV v u∧∀F μ H,Rep K ⟨mg,F⟩ μ H d v)(hb:∀x∈a2m',mg x=none):MOk P w K mg base CX0 (tbl l) Γ k:=
 ⟨λf φ e=>h (f,φ) (ZV e),hg,hb⟩
end Py
namespace K50
noncomputable def G0:Str→Option D:=λx=>[(("MOST_PLACES":Str),D.int 8)].lookup x
def a9D':Ls:=["thing"]
noncomputable def a9E':List CS:=[.ret (.band (.blt .isinst [.var 0,.ty "int"]) (.bnot (.blt .isinst [.var 0,.ty "bool"])))]
def a9F':FT:=tbl []
noncomputable def a2L':List D→Store→Res D:=runD a9F' G0 a9E' a9D'.length 1
def a2q':Ls:=["thing","low","high"]
noncomputable def a2r':List CS:=[.ret (.band (.call "is_number" [.var 0]) (.chain .LtE .LtE (.var 1) (.var 0) (.var 2)))]
def a2s':FT:=tbl [("is_number",a2L')]
theorem a1t':a2s' "is_number"=some a2L':=rfl
noncomputable def a0q':List D→Store→Res D:=runD a2s' G0 a2r' a2q'.length 3
def a6W':Ls:=["many","thing"]
noncomputable def a6X':List CS:=[.ret (.call "is_number_from" [.var 1,.lit (.int 0),.bin .Sub (.var 0) (.lit (.int 1))])]
def a6Y':FT:=tbl [("is_number_from",a0q')]
theorem a1B':a6Y' "is_number_from"=some a0q':=rfl
noncomputable def a3r':List D→Store→Res D:=runD a6Y' G0 a6X' a6W'.length 2
def a5E':Ls:=["things"]
noncomputable def a5F':List CS:=[.ret (.blt .all [.comp false ["one","other"] [none,none] (.tup [.var 0,.var 1]) (.zip [.var 0,.sl (.var 0) [.lit (.int 1)] []]) [] (.emit (.cmp .Lt (.var 0) (.var 1)))])]
def a9G':FT:=tbl []
noncomputable def a0r':List D→Store→Res D:=runD a9G' G0 a5F' a5E'.length 1
def a4O':Ls:=["many","thing"]
noncomputable def a4P':List CS:=[.ret (.band (.blt .isinst [.var 1,.ty "tuple"]) (.blt .all [.comp false ["place","many"] [none,some 0] (.var 0) (.seq (.var 1)) [] (.emit (.call "is_place" [.var 1,.var 0]))]))]
def a4Q':FT:=tbl [("is_place",a3r')]
theorem a2t':a4Q' "is_place"=some a3r':=rfl
noncomputable def a0C':List D→Store→Res D:=runD a4Q' G0 a4P' a4O'.length 2
def b1t':Ls:=["many","thing"]
noncomputable def b1u':List CS:=[.ret (.band (.call "are_places" [.var 0,.var 1]) (.band (.cmp .Eq (.blt .len [.var 1]) (.lit (.int 2))) (.call "is_rising" [.var 1])))]
def a7N':FT:=tbl [("are_places",a0C'),("is_rising",a0r')]
theorem a2Z':a7N' "are_places"=some a0C':=rfl
theorem a3s':a7N' "is_rising"=some a0r':=rfl
noncomputable def a6h':List D→Store→Res D:=runD a7N' G0 b1u' b1t'.length 2
def b1v':Ls:=["thing","many","ties"]
noncomputable def b1w':List CS:=[.ite (.bor (.bnot (.blt .isinst [.var 0,.ty "tuple"])) (.cmp .NotEq (.blt .len [.var 0]) (.lit (.int 2)))) [.ret (.lit (.bl false))] [],.asgT (.tup [.var 1,.var 2]) (.var 0),.ite (.bor (.bnot (.call "is_number_from" [.var 1,.lit (.int 1),.glob "MOST_PLACES"])) (.bnot (.blt .isinst [.var 2,.ty "tuple"]))) [.ret (.lit (.bl false))] [],.ret (.band (.blt .all [.comp false ["tie","many"] [none,some 1] (.var 0) (.seq (.var 2)) [] (.emit (.call "is_tie" [.var 1,.var 0]))]) (.call "is_rising" [.var 2]))]
noncomputable def a6i':FT:=tbl [("is_rising",a0r'),("is_number_from",a0q'),("is_tie",a6h')]
theorem a3t':a6i' "is_rising"=some a0r':=rfl
theorem a1Q':a6i' "is_number_from"=some a0q':=rfl
theorem a2u':a6i' "is_tie"=some a6h':=rfl
noncomputable def a6j':List D→Store→Res D:=runD a6i' G0 b1w' b1v'.length 1
def a8Q':Ls:=["web","thing"]
noncomputable def a8R':List CS:=[.ret (.band (.call "are_places" [.idx (.var 0) (.lit (.int 0)),.var 1]) (.call "is_rising" [.var 1]))]
def a6k':FT:=tbl [("are_places",a0C'),("is_rising",a0r')]
theorem a2S':a6k' "are_places"=some a0C':=rfl
theorem a3a':a6k' "is_rising"=some a0r':=rfl
noncomputable def a4z':List D→Store→Res D:=runD a6k' G0 a8R' a8Q'.length 2
def a4d':Ls:=["thing"]
noncomputable def a4e':List CS:=[.ite (.bnot (.call "is_web" [.var 0])) [.never] []]
def a4f':FT:=tbl [("is_web",a6j')]
theorem a2T':a4f' "is_web"=some a6j':=rfl
noncomputable def a0u':List D→Store→Res D:=runD a4f' G0 a4e' a4d'.length 1
def a3u':Ls:=["web","thing"]
noncomputable def a3v':List CS:=[.ite (.bnot (.call "is_some" [.var 0,.var 1])) [.never] []]
def a3w':FT:=tbl [("is_some",a4z')]
theorem a2h':a3w' "is_some"=some a4z':=rfl
noncomputable def a1i':List D→Store→Res D:=runD a3w' G0 a3v' a3u'.length 2
def b1x':Ls:=["one","other"]
noncomputable def b1y':List CS:=[.ret (.tup [.blt .min [.var 0,.var 1],.blt .max [.var 0,.var 1]])]
def b5I':FT:=tbl []
noncomputable def a6l':List D→Store→Res D:=runD b5I' G0 b1y' b1x'.length 2
def a6Z':Ls:=["web","one","other"]
noncomputable def a7a':List CS:=[.ret (.cmp .In (.call "tie_of" [.var 1,.var 2]) (.idx (.var 0) (.lit (.int 1))))]
def a7b':FT:=tbl [("tie_of",a6l')]
theorem a3N':a7b' "tie_of"=some a6l':=rfl
noncomputable def a1m':List D→Store→Res D:=runD a7b' G0 a7a' a6Z'.length 3
noncomputable def a4R':Ls:=["web","left","start","reached","waiting","here","fresh"]
noncomputable def a2v':List CS:=[.asg 3 (.lst true [.var 2]),.asg 4 (.lst true [.var 2]),.while_ 100 (.var 4) [.asg 5 (.meth .pop (.var 4) []),.asg 6 (.comp false ["place","reached","web","here"] [none,some 3,some 0,some 5] (.var 0) (.seq (.var 1)) [.band (.cmp .NotIn (.var 0) (.var 1)) (.call "have_tie" [.var 2,.var 3,.var 0])] (.emit (.var 0))),.expr (.meth .extend (.var 3) [.var 6]),.expr (.meth .extend (.var 4) [.var 6])],.ret (.blt .tuple [.blt (.sorted false (.int)) [.var 3]])]
def a0n':FT:=tbl [("have_tie",a1m')]
theorem a3b':a0n' "have_tie"=some a1m':=rfl
noncomputable def a2w':List D→Store→Res D:=runD a0n' G0 a2v' a4R'.length 3
def a2x':Ls:=["web","some","left","found","place"]
noncomputable def a2y':List CS:=[.expr (.call "must_be_web" [.var 0]),.expr (.call "must_be_some" [.var 0,.var 1]),.asg 2 (.comp false ["place","some"] [none,some 1] (.var 0) (.range [.idx (.var 0) (.lit (.int 0))]) [.cmp .NotIn (.var 0) (.var 1)] (.emit (.var 0))),.asg 3 (.lst true []),.for_ (.var 4) (.seq (.var 2)) [.ite (.bnot (.blt .any [.comp false ["piece","place"] [none,some 4] (.var 0) (.seq (.var 3)) [] (.emit (.cmp .In (.var 1) (.var 0)))])) [.expr (.meth .append (.var 3) [.call "piece_of" [.var 0,.var 2,.var 4]])] []],.ret (.var 3)]
noncomputable def a0d':FT:=tbl [("must_be_web",a0u'),("must_be_some",a1i'),("piece_of",a2w')]
theorem a1j':a0d' "must_be_web"=some a0u':=rfl
theorem a1e':a0d' "must_be_some"=some a1i':=rfl
theorem a1C':a0d' "piece_of"=some a2w':=rfl
noncomputable def a0D':List D→Store→Res D:=runD a0d' G0 a2y' a2x'.length 2
def a8S':Ls:=["pairing","place","low","high"]
noncomputable def a8T':List CS:=[.for_ (.tup [.var 2,.var 3]) (.seq (.var 0)) [.ite (.cmp .Eq (.var 1) (.var 2)) [.ret (.var 3)] [],.ite (.cmp .Eq (.var 1) (.var 3)) [.ret (.var 2)] []],.ret (.lit (.non))]
def a3x':FT:=tbl []
noncomputable def a1R':List D→Store→Res D:=runD a3x' G0 a8T' a8S'.length 2
def a7c':Ls:=["web","ties"]
noncomputable def a7d':List CS:=[.ret (.blt .tuple [.comp false ["place","ties"] [none,some 1] (.var 0) (.range [.idx (.var 0) (.lit (.int 0))]) [.cmp .Is (.call "mate_of" [.var 1,.var 0]) (.lit (.non))] (.emit (.var 0))])]
def a7e':FT:=tbl [("mate_of",a1R')]
theorem a3y':a7e' "mate_of"=some a1R':=rfl
noncomputable def a2z':List D→Store→Res D:=runD a7e' G0 a7d' a7c'.length 2
def a6m':Ls:=["web","found","place","ties"]
noncomputable def a1S':List CS:=[.expr (.call "must_be_web" [.var 0]),.asg 1 (.lst false [.tup []]),.for_ (.var 2) (.down [.idx (.var 0) (.lit (.int 0))]) [.asg 3 (.comp false ["tie","place"] [none,some 2] (.var 0) (.seq (.idx (.var 0) (.lit (.int 1)))) [.cmp .Eq (.idx (.var 0) (.lit (.int 0))) (.var 1)] (.emit (.var 0))),.asg 1 (.bin .Add (.var 1) (.comp false ["tie","pairing","found"] [none,none,some 1] (.var 0) (.seq (.var 3)) [] (.inner (.var 1) (.seq (.var 2)) [.cmp .Is (.call "mate_of" [.var 1,.idx (.var 0) (.lit (.int 1))]) (.lit (.non))] (.emit (.bin .Add (.tup [.var 0]) (.var 1))))))],.ret (.blt (.sorted true (.seq (.seq .int))) [.var 1])]
def a0i':FT:=tbl [("must_be_web",a0u'),("mate_of",a1R')]
theorem a1u':a0i' "must_be_web"=some a0u':=rfl
theorem a2i':a0i' "mate_of"=some a1R':=rfl
noncomputable def a0F':List D→Store→Res D:=runD a0i' G0 a1S' a6m'.length 1
def a4S':Ls:=["web","found","many"]
noncomputable def grL:CE:=.comp false ["pairing"] [none] (.var 0) (.seq (.var 1)) [] (.emit (.blt .len [.var 0]))
noncomputable def grC:CE:=.comp true ["pairing","many"] [none,some 2] (.var 0) (.seq (.var 1)) [.cmp .Eq (.blt .len [.var 0]) (.var 1)] (.emit (.var 0))
noncomputable def a2A':List CS:=[.asg 1 (.call "all_pairings" [.var 0]),.asg 2 (.blt .max [grL]),.ret grC]
def a0x':FT:=tbl [("all_pairings",a0F')]
theorem a1T':a0x' "all_pairings"=some a0F':=rfl
noncomputable def a1J':List D→Store→Res D:=runD a0x' G0 a2A' a4S'.length 1
def b1z':Ls:=["web","free","missed","others","beside"]
noncomputable def prF50:CE:=.comp false ["pairing","place","web"] [none,none,some 0] (.var 0) (.seq (.call "greatest" [.var 0])) [] (.inner (.var 1) (.seq (.call "loose_of" [.var 2,.var 0])) [] (.emit (.var 1)))
noncomputable def prA50:CE:=.comp false ["other","web","place"] [none,some 2,some 0] (.var 0) (.seq (.var 1)) [] (.emit (.call "have_tie" [.var 1,.var 2,.var 0]))
noncomputable def prB50:CE:=.comp false ["place","missed","web"] [none,some 2,some 0] (.var 0) (.seq (.var 3)) [.blt .any [prA50]] (.emit (.var 0))
noncomputable def a7f':List CS:=[.asg 1 prF50,.asg 2 (.blt .tuple [.sset (.var 1)]),.asg 3 (.comp false ["place","missed"] [none,some 2] (.var 0) (.range [.idx (.var 0) (.lit (.int 0))]) [.cmp .NotIn (.var 0) (.var 1)] (.emit (.var 0))),.asg 4 (.blt .tuple [prB50]),.ret (.tup [.var 2,.var 4,.blt .tuple [.comp false ["place","beside"] [none,some 4] (.var 0) (.seq (.var 3)) [.cmp .NotIn (.var 0) (.var 1)] (.emit (.var 0))]])]
noncomputable def a1f':FT:=tbl [("greatest",a1J'),("loose_of",a2z'),("have_tie",a1m')]
theorem a4n':a1f' "greatest"=some a1J':=rfl
theorem a4o':a1f' "loose_of"=some a2z':=rfl
theorem a4p':a1f' "have_tie"=some a1m':=rfl
noncomputable def a5G':List D→Store→Res D:=runD a1f' G0 a7f' b1z'.length 1
def a5o':Ls:=["web","missed","beside","rest"]
noncomputable def a1D':List CS:=[.asgT (.tup [.var 1,.var 2,.var 3]) (.call "parts" [.var 0]),.ret (.call "pieces_without" [.var 0,.blt .tuple [.blt (.sorted false (.int)) [.bin .Add (.var 2) (.var 3)]]])]
def a0Y':FT:=tbl [("parts",a5G'),("pieces_without",a0D')]
theorem a2B':a0Y' "parts"=some a5G':=rfl
theorem a1b':a0Y' "pieces_without"=some a0D':=rfl
noncomputable def a0Z':List D→Store→Res D:=runD a0Y' G0 a1D' a5o'.length 1
def a4g':Ls:=["_law_script","_law_k"]
noncomputable def a4h':List CS:=[.ite (.cmp .Lt (.var 1) (.blt .len [.var 0])) [.ret (.idx (.var 0) (.var 1))] [],.ret (.lit (.int 0))]
def a7g':FT:=tbl []
noncomputable def a0N':List D→Store→Res D:=runD a7g' G0 a4h' a4g'.length 2
def b1A':Ls:=["_law_cell","_law_k","_law_number"]
noncomputable def a4T':List CS:=[.asg 2 (.bin .Mod (.bin .Mult (.bin .Add (.bin .Add (.bin .Mod (.var 0) (.lit (.int 2147483647))) (.bin .Mult (.lit (.int 977)) (.var 1))) (.lit (.int 1))) (.lit (.int 48271))) (.lit (.int 2147483647))),.asg 2 (.bin .Mod (.bin .Mult (.var 2) (.var 2)) (.lit (.int 2147483629))),.asg 2 (.bin .Mod (.bin .Mult (.bin .Add (.var 2) (.bin .Mult (.lit (.int 40692)) (.bin .Add (.var 1) (.lit (.int 3))))) (.lit (.int 69621))) (.lit (.int 2147483647))),.ret (.bin .FloorDiv (.var 2) (.lit (.int 8)))]
def a7h':FT:=tbl []
noncomputable def a3z':List D→Store→Res D:=runD a7h' G0 a4T' b1A'.length 2
noncomputable def a6n':Ls:=["_law_cell","_law_top","_law_many","_law_left","_law_way","_law_ties","_law_b","_law_a","_law_chance","_law_rows"]
noncomputable def wS1:CE:=.bin .BitAnd (.bin .RShift (.bin .FloorDiv (.var 3) (.lit (.int 6))) (.bin .Add (.bin .FloorDiv (.bin .Mult (.var 6) (.bin .Sub (.var 6) (.lit (.int 1)))) (.lit (.int 2))) (.var 7))) (.lit (.int 1))
noncomputable def wW(k:Int)(b:List CS):CS:=.ite (.cmp .Eq (.var 4) (.lit (.int k))) b []
noncomputable def wSt:CE:=.call "_law_stir" [.var 0,.bin .Add (.bin .Mult (.lit (.int 8)) (.var 7)) (.var 6)]
noncomputable def wS2:CE:=.bin .FloorDiv (.bin .Mod wSt (.lit (.int 3))) (.lit (.int 2))
noncomputable def wS3:CE:=.bin .FloorDiv (.bin .Add (.bin .Mod wSt (.lit (.int 4))) (.lit (.int 2))) (.lit (.int 3))
noncomputable def wE1:CE:=.cmp .Eq (.var 6) (.bin .Add (.var 7) (.lit (.int 1)))
noncomputable def wE2:CE:=.bor (.cmp .Eq (.var 6) (.bin .Add (.var 7) (.lit (.int 1)))) (.cmp .Eq (.bin .Sub (.var 6) (.var 7)) (.bin .Sub (.var 2) (.lit (.int 1))))
noncomputable def wE5:CE:=.band (.cmp .Eq (.var 6) (.bin .Add (.var 7) (.lit (.int 1)))) (.cmp .Lt (.bin .Mod (.var 7) (.lit (.int 3))) (.lit (.int 2)))
noncomputable def wS4:CE:=.lst false [wE1,wE2,.cmp .Eq (.var 7) (.lit (.int 0)),.lit (.bl true),wE5]
noncomputable def wS5:CE:=.blt .int [.idx (.var 9) (.bin .Mod (.bin .FloorDiv (.var 3) (.lit (.int 6))) (.lit (.int 5)))]
noncomputable def wB:List CS:=[.asg 8 wS1,wW 3 [.asg 8 wS2],wW 4 [.asg 8 wS3],wW 5 [.asg 9 wS4,.asg 8 wS5],.ite (.cmp .Eq (.var 8) (.lit (.int 1))) [.expr (.meth .append (.var 5) [.tup [.var 7,.var 6]])] []]
def wA:List CS:=[.for_ (.var 7) (.range [.var 6]) wB]
noncomputable def a3A':List CS:=[.asg 2 (.bin .Add (.lit (.int 1)) (.bin .Mod (.var 0) (.var 1))),.asg 3 (.bin .FloorDiv (.var 0) (.var 1)),.asg 4 (.bin .Mod (.var 3) (.lit (.int 6))),.asg 5 (.lst true []),.for_ (.var 6) (.range [.lit (.int 1),.var 2]) wA,.ret (.tup [.var 2,.blt .tuple [.blt (.sorted false (.seq .int)) [.var 5]]])]
def a0g':FT:=tbl [("_law_stir",a3z')]
theorem a3B':a0g' "_law_stir"=some a3z':=rfl
noncomputable def a2M':List D→Store→Res D:=runD a0g' G0 a3A' a6n'.length 2
def a3C':Ls:=["_law_found","_law_due"]
noncomputable def a0R':List CS:=[.ite (.bor (.blt .isinst [.var 1,.ty "tuple"]) (.blt .isinst [.var 1,.ty "list"])) [.ite (.bor (.cmp .NotEq (.blt .isinst [.var 0,.ty "tuple"]) (.blt .isinst [.var 1,.ty "tuple"])) (.cmp .NotEq (.blt .isinst [.var 0,.ty "list"]) (.blt .isinst [.var 1,.ty "list"]))) [.ret (.lit (.bl false))] [],.ret (.band (.cmp .Eq (.blt .len [.var 0]) (.blt .len [.var 1])) (.blt .all [.comp false ["_law_one","_law_other"] [none,none] (.tup [.var 0,.var 1]) (.zip [.var 0,.var 1]) [] (.emit (.call "_law_same" [.var 0,.var 1]))]))] [],.ite (.cmp .Is (.var 1) (.lit (.non))) [.ret (.cmp .Is (.var 0) (.lit (.non)))] [],.ret (.band (.cmp .Eq (.blt .isinst [.var 0,.ty "bool"]) (.blt .isinst [.var 1,.ty "bool"])) (.band (.blt .isinst [.var 0,.ty "int"]) (.cmp .Eq (.var 0) (.var 1))))]
noncomputable def a0c':Nat→List D→Store→Res D
 |0=>λ_ _=>.fail
 |n+1=>runD (tbl [("_law_same",a0c' n)]) G0 a0R' a3C'.length 2
def a1n':List D→Store→Res D:=a0c' 6
def b1B':Ls:=["_law_tie","_law_line"]
noncomputable def frE:CE:=.bor (.cmp .In (.idx (.var 1) (.lit (.int 0))) (.var 0)) (.cmp .In (.idx (.var 1) (.lit (.int 1))) (.var 0))
noncomputable def frC:CE:=.comp false ["_law_one","_law_tie"] [none,some 0] (.var 0) (.seq (.var 1)) [] (.emit frE)
def a4U':List CS:=[.ret (.bnot (.blt .any [frC]))]
def a2C':FT:=tbl []
noncomputable def a3D':List D→Store→Res D:=runD a2C' G0 a4U' b1B'.length 2
def a6o':Ls:=["_law_web_here","_law_rows","_law_tie"]
noncomputable def prC:CE:=.comp false ["_law_line","_law_tie"] [none,some 2] (.var 0) (.seq (.var 1)) [.call "_law_free" [.var 1,.var 0]] (.emit (.bin .Add (.var 0) (.tup [.var 1])))
def prB:List CS:=[.asg 1 (.bin .Add (.var 1) prC)]
noncomputable def a1U':List CS:=[.asg 1 (.lst false [.tup []]),.for_ (.var 2) (.seq (.idx (.var 0) (.lit (.int 1)))) prB,.ret (.blt (.sorted false (.seq (.seq .int))) [.var 1])]
def a0j':FT:=tbl [("_law_free",a3D')]
theorem a1V':a0j' "_law_free"=some a3D':=rfl
noncomputable def a1k':List D→Store→Res D:=runD a0j' G0 a1U' a6o'.length 1
def b1C':Ls:=["_law_web_here","_law_place"]
noncomputable def a7i':List CS:=[.ret (.comp false ["_law_one","_law_other","_law_place"] [none,none,some 1] (.tup [.var 0,.var 1]) (.seq (.idx (.var 0) (.lit (.int 1)))) [.cmp .In (.var 2) (.tup [.var 0,.var 1])] (.emit (.bin .Sub (.bin .Add (.var 0) (.var 1)) (.var 2))))]
def a4V':FT:=tbl []
noncomputable def a1o':List D→Store→Res D:=runD a4V' G0 a7i' b1C'.length 2
def a9H':Ls:=["_law_web_here","_law_line"]
noncomputable def llI:CE:=.comp false ["_law_tie","_law_place"] [none,some 0] (.var 0) (.seq (.var 1)) [] (.emit (.cmp .In (.var 1) (.var 0)))
noncomputable def llC:CE:=.comp false ["_law_place","_law_line"] [none,some 1] (.var 0) (.range [.idx (.var 0) (.lit (.int 0))]) [.bnot (.blt .any [llI])] (.emit (.var 0))
def a3O':List CS:=[.ret (.blt .tuple [llC])]
def a0O':FT:=tbl []
noncomputable def a2N':List D→Store→Res D:=runD a0O' G0 a3O' a9H'.length 2
def a6p':Ls:=["_law_web_here","_law_rows","_law_top"]
noncomputable def gtL:CE:=.comp false ["_law_line"] [none] (.var 0) (.seq (.var 1)) [] (.emit (.blt .len [.var 0]))
noncomputable def gtC:CE:=.comp false ["_law_line","_law_top"] [none,some 2] (.var 0) (.seq (.var 1)) [.cmp .Eq (.blt .len [.var 0]) (.var 1)] (.emit (.var 0))
noncomputable def a1W':List CS:=[.asg 1 (.call "_law_pairings" [.var 0]),.asg 2 (.blt .max [gtL]),.ret gtC]
def a0w':FT:=tbl [("_law_pairings",a1k')]
theorem a1p':a0w' "_law_pairings"=some a1k':=rfl
noncomputable def a0G':List D→Store→Res D:=runD a0w' G0 a1W' a6p'.length 1
noncomputable def a9I':Ls:=["_law_web_here","_law_rows","_law_missed","_law_others","_law_by_these"]
noncomputable def lpR:CE:=.comp false ["_law_line","_law_web_here"] [none,some 0] (.var 0) (.seq (.call "_law_greatest" [.var 0])) [] (.emit (.call "_law_loose" [.var 1,.var 0]))
noncomputable def lpA:CE:=.comp false ["_law_line","_law_place"] [none,some 0] (.var 0) (.seq (.var 1)) [] (.emit (.cmp .In (.var 1) (.var 0)))
noncomputable def lpM:CE:=.comp false ["_law_place","_law_rows"] [none,some 1] (.var 0) (.range [.idx (.var 0) (.lit (.int 0))]) [.blt .any [lpA]] (.emit (.var 0))
noncomputable def lpN:CE:=.comp false ["_law_other","_law_missed"] [none,some 2] (.var 0) (.seq (.call "_law_near" [.var 1,.var 0])) [] (.emit (.cmp .In (.var 0) (.var 1)))
noncomputable def lpB:CE:=.comp false ["_law_place","_law_web_here","_law_missed"] [none,some 0,some 2] (.var 0) (.seq (.var 3)) [.blt .any [lpN]] (.emit (.var 0))
noncomputable def a3P':List CS:=[.asg 1 lpR,.asg 2 lpM,.asg 3 (.comp false ["_law_place","_law_missed"] [none,some 2] (.var 0) (.range [.idx (.var 0) (.lit (.int 0))]) [.cmp .NotIn (.var 0) (.var 1)] (.emit (.var 0))),.asg 4 lpB,.ret (.tup [.blt .tuple [.var 2],.blt .tuple [.var 4],.blt .tuple [.comp false ["_law_place","_law_by_these"] [none,some 4] (.var 0) (.seq (.var 3)) [.cmp .NotIn (.var 0) (.var 1)] (.emit (.var 0))]])]
noncomputable def a0H':FT:=tbl [("_law_loose",a2N'),("_law_greatest",a0G'),("_law_near",a1o')]
theorem a2D':a0H' "_law_loose"=some a2N':=rfl
theorem a1K':a0H' "_law_greatest"=some a0G':=rfl
theorem a2U':a0H' "_law_near"=some a1o':=rfl
noncomputable def a2O':List D→Store→Res D:=runD a0H' G0 a3P' a9I'.length 1
noncomputable def a3c':Ls:=["_law_web_here","_law_some","_law_left","_law_found","_law_line","_law_place","_law_one"]
def lcW:CE:=.cmp .NotEq (.var 2) (.lst false [])
noncomputable def lcT:CE:=.band (.cmp .In (.var 0) (.var 1)) (.cmp .NotIn (.var 0) (.var 2))
noncomputable def lcC:CE:=.comp false ["_law_other","_law_some","_law_line"] [none,some 1,some 4] (.var 0) (.seq (.call "_law_near" [.var 0,.var 6])) [lcT] (.emit (.var 0))
def lcI:List CS:=[.expr (.meth .extend (.var 4) [lcC])]
noncomputable def lcR:List CS:=[.for_ (.var 6) (.seq (.blt (.list false) [.var 4])) lcI]
noncomputable def lcL:CE:=.comp false ["_law_place","_law_line"] [none,some 4] (.var 0) (.seq (.var 2)) [.cmp .NotIn (.var 0) (.var 1)] (.emit (.var 0))
noncomputable def lcB:List CS:=[.asg 4 (.lst true [.idx (.var 2) (.lit (.int 0))]),.for_ (.var 5) (.seq (.var 2)) lcR,.expr (.meth .append (.var 3) [.blt .tuple [.blt (.sorted false (.int)) [.var 4]]]),.asg 2 lcL]
noncomputable def a1q':List CS:=[.asg 2 (.blt (.list false) [.var 1]),.asg 3 (.lst true []),.while_ 100 lcW lcB,.ret (.var 3)]
def a0a':FT:=tbl [("_law_near",a1o')]
theorem a2E':a0a' "_law_near"=some a1o':=rfl
noncomputable def a1X':List D→Store→Res D:=runD a0a' G0 a1q' a3c'.length 2
noncomputable def a3Q':Ls:=["_law_web_here","_law_due","_law_groups","_law_turn","_law_found"]
noncomputable def rt50:CE:=.bor (.bnot (.call "_law_same" [.call "parts" [.var 0],.var 1])) (.bnot (.call "_law_same" [.var 4,.var 2]))
noncomputable def rb50:List CS:=[.asg 4 (.call "missed_pieces" [.var 0]),.ite rt50 [.ret (.lit (.bl false))] [],.expr (.meth .append (.var 4) [.tup []])]
noncomputable def a1L':List CS:=[.asg 1 (.call "_law_parts" [.var 0]),.asg 2 (.blt (.sorted false (.seq .int)) [.call "_law_pieces" [.var 0,.idx (.var 1) (.lit (.int 0))]]),.for_ (.var 3) (.range [.lit (.int 2)]) rb50,.ret (.lit (.bl true))]
noncomputable def a0l':FT:=tbl [("_law_parts",a2O'),("_law_pieces",a1X'),("missed_pieces",a0Z'),("_law_same",a1n'),("parts",a5G')]
theorem a2F':a0l' "_law_parts"=some a2O':=rfl
theorem a2j':a0l' "_law_pieces"=some a1X':=rfl
theorem a1E':a0l' "missed_pieces"=some a0Z':=rfl
theorem a1g':a0l' "_law_same"=some a1n':=rfl
theorem a3R':a0l' "parts"=some a5G':=rfl
noncomputable def a2P':List D→Store→Res D:=runD a0l' G0 a1L' a3Q'.length 1
def n_law:Ls:=["_law_script","_law_cell"]
def l50a:CE:=.tup [.lit (.int 1),.tup []]
noncomputable def l50b:CE:=.tup [.lit (.int 4),.tup [.tup [.lit (.int 0),.lit (.int 1)],.tup [.lit (.int 0),.lit (.int 2)],.tup [.lit (.int 0),.lit (.int 3)]]]
noncomputable def l50c:CE:=.tup [.lit (.int 2),.tup [.tup [.lit (.int 0),.lit (.int 1)]]]
noncomputable def l50T:CE:=.bor (.bnot (.call "_law_right" [l50a])) (.bor (.bnot (.call "_law_right" [l50b])) (.bnot (.call "_law_right" [l50c])))
noncomputable def l50S:CE:=.seq (.bin .Add (.lst false [.call "_law_cell_at" [.var 0,.lit (.int 0)]]) (.sl (.var 0) [.lit (.int 1)] [.lit (.int 5)]))
noncomputable def l50B:List CS:=[.ite (.bnot (.call "_law_right" [.call "_law_web" [.var 1,.lit (.int 8)]])) [.ret (.lit (.bl false))] []]
noncomputable def c_law:List CS:=[.ite l50T [.ret (.lit (.bl false))] [],.for_ (.var 1) l50S l50B,.ret (.lit (.bl true))]
noncomputable def t_law:FT:=tbl [("_law_right",a2P'),("_law_cell_at",a0N'),("_law_web",a2M')]
theorem a2G':t_law "_law_right"=some a2P':=rfl
theorem a3S':t_law "_law_cell_at"=some a0N':=rfl
theorem a6q':t_law "_law_web"=some a2M':=rfl
noncomputable def f_law:List D→Store→Res D:=runD t_law G0 c_law n_law.length 1
noncomputable def top(i:Nat):Stmt:=PySem.Challenge.pw_pairwebs_k50_parts_of_webs.main.body.getD i (.Pass ⟨0,0,0,0⟩)
def DefIn(K:Fg)(x:Str)(st:Stmt):Prop:=∃f fd,PySem.W.nsIn K mainGlobals x=some (some (.ref f))∧Fun K x x st f fd
theorem dm{x:Str}{an:Option Addr}{kV:Value}(a:PySem.W.nsIn K mainGlobals x=some (some (.ref f)))(l:K.lookup f=some ⟨oc,od,.func (PySem.W.fnOf x x (a4D' st) (a1a' st) (a0p' st) .none kV doc pm an cdv ct),osl⟩)
  (c:PySem.W.codeIn K cdv x=true) (k:PySem.W.keepIn K (.ref f)=true):DefIn K x st:=⟨f,_,a,fun_mk l c k⟩
noncomputable def b3s'(N P:Ls)(sc:Scope):Bool:=(sc.kind== .function)&& !sc.isCoroutine&& !sc.isGenerator&&a9r' N&&(N.take P.length==P)&&P.all (λx=>sc.names.lookup x==some .local||sc.names.lookup x==some .cell)&&sc.names.all (λy=>y.2 !=.free)
theorem a3T'{P:Ls}{sc:Scope}(h:b3s' N P sc=true):FnScope N P sc:=by unfold b3s' at h;simp only[ZA,beq_iff_eq,ZQ,Bool.or_eq_true,bne_iff_ne,Yi]at h;obtain⟨⟨⟨⟨⟨⟨h1,h2⟩,h3⟩,h4⟩,h5⟩,h6⟩,h7⟩:=h;exact⟨h1,h2,h3,a3L' h4,h5,h6,h7⟩
structure En (K:Fg)(mg:Mg)(h:Heap):Prop where
 X:K.In h
 G:h.Ns mainGlobals mg
 hg:∀x d,G0 x=some d→∃v u,mg x=some u∧RelV v u∧∀F μ H,Rep K ⟨mg,F⟩ μ H d v
 hb:∀x∈a2m',mg x=none
section
variable {j:Nat}
theorem fe{x:Str}{l:List (Str×(List D→Store→Res D))}(E:En K mg h)(d:DefIn K x st)
  (hb:∀(kV doc pm:Value) (an:Option Addr) (cdv ct:Value) (us:Lv),us.length=ps.length→bindArgs (PySem.W.fnOf x x (a4D' st) (a1a' st) (a0p' st) .none kV doc pm an cdv ct) ⟨us,[]⟩=pure (ps.zip us))
  (H:∀p∈l,FOk P w K mg base CX0 k p.1 p.2) (he:emSs body N (a1a' st)=a1a' st) (S:(b3s' N ps (a0p' st)&&sdSs body N (a0p' st).names (a1a' st))=true):FOk P w K mg base CX0 (k+1) x (runD (tbl l) G0 body N.length ps.length):=by
 obtain⟨f,fd,a,F⟩:=d;have S:=Bool.and_eq_true_iff.mp S;exact fok F (a3T' S.1) (PySem.W.mg_of E.X E.G a) (F.binds hb) (mok H E.hg E.hb) he S.2
theorem f0{x:Str}(E:En K mg h)(d:DefIn K x st)(S:b3s' N ps (a0p' st)=true)
  (hb:∀(kV doc pm:Value) (an:Option Addr) (cdv ct:Value) (us:Lv),us.length=ps.length→bindArgs (PySem.W.fnOf x x (a4D' st) (a1a' st) (a0p' st) .none kV doc pm an cdv ct) ⟨us,[]⟩=pure (ps.zip us)):FOk P w K mg base CX0 k x (λ_ _=>.fail):=by
 obtain⟨f,fd,a,F⟩:=d;exact fok0 F (a3T' S) (PySem.W.mg_of E.X E.G a) (F.binds hb)
theorem an:∀p∈([]:List (Str×(List D→Store→Res D))),FOk P w K mg base CX0 k p.1 p.2:=λp h=>(Z1 h).elim
theorem ac{x:Str}{l:List (Str×(List D→Store→Res D))}(F:FOk P w K mg base CX0 j x φ)(hj:j≤k)(r:∀p∈l,FOk P w K mg base CX0 k p.1 p.2):∀p∈(x,φ)::l,FOk P w K mg base CX0 k p.1 p.2:=λp hp=>by
 rcases Zj.mp hp with rfl|h
 ·exact F.mono hj
 ·exact r p h
end
structure Df (K:Fg):Prop where
 d_is_number:DefIn K "is_number" (top 6)
 d_is_number_from:DefIn K "is_number_from" (top 7)
 d_is_place:DefIn K "is_place" (top 8)
 d_is_rising:DefIn K "is_rising" (top 9)
 d_are_places:DefIn K "are_places" (top 10)
 d_is_tie:DefIn K "is_tie" (top 11)
 d_is_web:DefIn K "is_web" (top 12)
 d_is_some:DefIn K "is_some" (top 13)
 d_must_be_web:DefIn K "must_be_web" (top 14)
 d_must_be_some:DefIn K "must_be_some" (top 15)
 d_tie_of:DefIn K "tie_of" (top 16)
 d_have_tie:DefIn K "have_tie" (top 17)
 d_piece_of:DefIn K "piece_of" (top 18)
 d_pieces_without:DefIn K "pieces_without" (top 19)
 d_mate_of:DefIn K "mate_of" (top 21)
 d_loose_of:DefIn K "loose_of" (top 22)
 d_all_pairings:DefIn K "all_pairings" (top 23)
 d_greatest:DefIn K "greatest" (top 25)
 d_parts:DefIn K "parts" (top 27)
 d_missed_pieces:DefIn K "missed_pieces" (top 28)
 d_law_cell_at:DefIn K "_law_cell_at" (top 30)
 d_law_stir:DefIn K "_law_stir" (top 31)
 d_law_web:DefIn K "_law_web" (top 32)
 d_law_same:DefIn K "_law_same" (top 33)
 d_law_free:DefIn K "_law_free" (top 34)
 d_law_pairings:DefIn K "_law_pairings" (top 35)
 d_law_near:DefIn K "_law_near" (top 36)
 d_law_loose:DefIn K "_law_loose" (top 37)
 d_law_greatest:DefIn K "_law_greatest" (top 38)
 d_law_parts:DefIn K "_law_parts" (top 39)
 d_law_pieces:DefIn K "_law_pieces" (top 40)
 d_law_right:DefIn K "_law_right" (top 41)
 d_law:DefIn K "law" (top 42)
section
variable (E9:En K mg h)(D9:Df K)
include E9 D9
theorem a7O':FOk P w K mg base CX0 1 "is_number" a2L':=fe (ps:=["thing"]) E9 D9.d_is_number (λ_ _ _ _ _ _=>len1 λ_=>rfl) an rfl (by decide+kernel)
theorem a2f':FOk P w K mg base CX0 2 "is_number_from" a0q':=fe (ps:=["thing","low","high"]) E9 D9.d_is_number_from (λ_ _ _ _ _ _=>len3 λ_ _ _=>rfl) (ac (a7O' E9 D9) (by decide) an) rfl (by decide+kernel)
theorem a9J':FOk P w K mg base CX0 3 "is_place" a3r':=fe (ps:=["many","thing"]) E9 D9.d_is_place (λ_ _ _ _ _ _=>len2 λ_ _=>rfl) (ac (a2f' E9 D9) (by decide) an) rfl (by decide+kernel)
theorem a3d':FOk P w K mg base CX0 1 "is_rising" a0r':=fe (ps:=["things"]) E9 D9.d_is_rising (λ_ _ _ _ _ _=>len1 λ_=>rfl) an rfl (by decide+kernel)
theorem a4i':FOk P w K mg base CX0 4 "are_places" a0C':=fe (ps:=["many","thing"]) E9 D9.d_are_places (λ_ _ _ _ _ _=>len2 λ_ _=>rfl) (ac (a9J' E9 D9) (by decide) an) rfl (by decide+kernel)
theorem b3t':FOk P w K mg base CX0 5 "is_tie" a6h':=fe (ps:=["many","thing"]) E9 D9.d_is_tie (λ_ _ _ _ _ _=>len2 λ_ _=>rfl) (ac (a4i' E9 D9) (by decide) (ac (a3d' E9 D9) (by decide) an)) rfl (by decide+kernel)
theorem b3u':FOk P w K mg base CX0 6 "is_web" a6j':=fe (ps:=["thing"]) E9 D9.d_is_web (λ_ _ _ _ _ _=>len1 λ_=>rfl) (ac (a3d' E9 D9) (by decide) (ac (a2f' E9 D9) (by decide) (ac (b3t' E9 D9) (by decide) an))) rfl (by decide+kernel)
theorem b1D':FOk P w K mg base CX0 5 "is_some" a4z':=fe (ps:=["web","thing"]) E9 D9.d_is_some (λ_ _ _ _ _ _=>len2 λ_ _=>rfl) (ac (a4i' E9 D9) (by decide) (ac (a3d' E9 D9) (by decide) an)) rfl (by decide+kernel)
theorem a3E':FOk P w K mg base CX0 7 "must_be_web" a0u':=fe (ps:=["thing"]) E9 D9.d_must_be_web (λ_ _ _ _ _ _=>len1 λ_=>rfl) (ac (b3u' E9 D9) (by decide) an) rfl (by decide+kernel)
theorem a5p':FOk P w K mg base CX0 6 "must_be_some" a1i':=fe (ps:=["web","thing"]) E9 D9.d_must_be_some (λ_ _ _ _ _ _=>len2 λ_ _=>rfl) (ac (b1D' E9 D9) (by decide) an) rfl (by decide+kernel)
theorem b3v':FOk P w K mg base CX0 1 "tie_of" a6l':=fe (ps:=["one","other"]) E9 D9.d_tie_of (λ_ _ _ _ _ _=>len2 λ_ _=>rfl) an rfl (by decide+kernel)
theorem a5H':FOk P w K mg base CX0 2 "have_tie" a1m':=fe (ps:=["web","one","other"]) E9 D9.d_have_tie (λ_ _ _ _ _ _=>len3 λ_ _ _=>rfl) (ac (b3v' E9 D9) (by decide) an) rfl (by decide+kernel)
theorem a9K':FOk P w K mg base CX0 3 "piece_of" a2w':=fe (ps:=["web","left","start"]) E9 D9.d_piece_of (λ_ _ _ _ _ _=>len3 λ_ _ _=>rfl) (ac (a5H' E9 D9) (by decide) an) rfl (by decide+kernel)
theorem a4q':FOk P w K mg base CX0 8 "pieces_without" a0D':=fe (ps:=["web","some"]) E9 D9.d_pieces_without (λ_ _ _ _ _ _=>len2 λ_ _=>rfl) (ac (a3E' E9 D9) (by decide) (ac (a5p' E9 D9) (by decide) (ac (a9K' E9 D9) (by decide) an))) rfl (by decide+kernel)
theorem a7j':FOk P w K mg base CX0 1 "mate_of" a1R':=fe (ps:=["pairing","place"]) E9 D9.d_mate_of (λ_ _ _ _ _ _=>len2 λ_ _=>rfl) an rfl (by decide+kernel)
theorem a9L':FOk P w K mg base CX0 2 "loose_of" a2z':=fe (ps:=["web","ties"]) E9 D9.d_loose_of (λ_ _ _ _ _ _=>len2 λ_ _=>rfl) (ac (a7j' E9 D9) (by decide) an) rfl (by decide+kernel)
theorem a5q':FOk P w K mg base CX0 8 "all_pairings" a0F':=fe (ps:=["web"]) E9 D9.d_all_pairings (λ_ _ _ _ _ _=>len1 λ_=>rfl) (ac (a3E' E9 D9) (by decide) (ac (a7j' E9 D9) (by decide) an)) rfl (by decide+kernel)
theorem a9M':FOk P w K mg base CX0 9 "greatest" a1J':=fe (ps:=["web"]) E9 D9.d_greatest (λ_ _ _ _ _ _=>len1 λ_=>rfl) (ac (a5q' E9 D9) (by decide) an) rfl (by decide+kernel)
theorem b1E':FOk P w K mg base CX0 10 "parts" a5G':=fe (ps:=["web"]) E9 D9.d_parts (λ_ _ _ _ _ _=>len1 λ_=>rfl) (ac (a9M' E9 D9) (by decide) (ac (a9L' E9 D9) (by decide) (ac (a5H' E9 D9) (by decide) an))) rfl (by decide+kernel)
theorem a4W':FOk P w K mg base CX0 11 "missed_pieces" a0Z':=fe (ps:=["web"]) E9 D9.d_missed_pieces (λ_ _ _ _ _ _=>len1 λ_=>rfl) (ac (b1E' E9 D9) (by decide) (ac (a4q' E9 D9) (by decide) an)) rfl (by decide+kernel)
theorem a3F':FOk P w K mg base CX0 1 "_law_cell_at" a0N':=fe (ps:=["_law_script","_law_k"]) E9 D9.d_law_cell_at (λ_ _ _ _ _ _=>len2 λ_ _=>rfl) an rfl (by decide+kernel)
theorem a9N':FOk P w K mg base CX0 1 "_law_stir" a3z':=fe (ps:=["_law_cell","_law_k"]) E9 D9.d_law_stir (λ_ _ _ _ _ _=>len2 λ_ _=>rfl) an rfl (by decide+kernel)
theorem a7k':FOk P w K mg base CX0 2 "_law_web" a2M':=fe (ps:=["_law_cell","_law_top"]) E9 D9.d_law_web (λ_ _ _ _ _ _=>len2 λ_ _=>rfl) (ac (a9N' E9 D9) (by decide) an) rfl (by decide+kernel)
theorem a4j':∀n,FOk P w K mg base CX0 (0+n) "_law_same" (a0c' n)
 |0=>f0 (N:=a3C') (ps:=["_law_found","_law_due"]) E9 D9.d_law_same (by decide+kernel) (λ_ _ _ _ _ _=>len2 λ_ _=>rfl)
 |n+1=>fe (ps:=["_law_found","_law_due"]) (k:=0+n) E9 D9.d_law_same (λ_ _ _ _ _ _=>len2 λ_ _=>rfl) (ac (a4j' n) (Zi _) an) rfl (by decide+kernel)
theorem a9O':FOk P w K mg base CX0 6 "_law_same" a1n':=a4j' E9 D9 6
theorem a9P':FOk P w K mg base CX0 1 "_law_free" a3D':=fe (ps:=["_law_tie","_law_line"]) E9 D9.d_law_free (λ_ _ _ _ _ _=>len2 λ_ _=>rfl) an rfl (by decide+kernel)
theorem a5r':FOk P w K mg base CX0 2 "_law_pairings" a1k':=fe (ps:=["_law_web_here"]) E9 D9.d_law_pairings (λ_ _ _ _ _ _=>len1 λ_=>rfl) (ac (a9P' E9 D9) (by decide) an) rfl (by decide+kernel)
theorem a5I':FOk P w K mg base CX0 1 "_law_near" a1o':=fe (ps:=["_law_web_here","_law_place"]) E9 D9.d_law_near (λ_ _ _ _ _ _=>len2 λ_ _=>rfl) an rfl (by decide+kernel)
theorem a7P':FOk P w K mg base CX0 1 "_law_loose" a2N':=fe (ps:=["_law_web_here","_law_line"]) E9 D9.d_law_loose (λ_ _ _ _ _ _=>len2 λ_ _=>rfl) an rfl (by decide+kernel)
theorem a5s':FOk P w K mg base CX0 3 "_law_greatest" a0G':=fe (ps:=["_law_web_here"]) E9 D9.d_law_greatest (λ_ _ _ _ _ _=>len1 λ_=>rfl) (ac (a5r' E9 D9) (by decide) an) rfl (by decide+kernel)
theorem a7Q':FOk P w K mg base CX0 4 "_law_parts" a2O':=fe (ps:=["_law_web_here"]) E9 D9.d_law_parts (λ_ _ _ _ _ _=>len1 λ_=>rfl) (ac (a7P' E9 D9) (by decide) (ac (a5s' E9 D9) (by decide) (ac (a5I' E9 D9) (by decide) an))) rfl (by decide+kernel)
theorem a7l':FOk P w K mg base CX0 2 "_law_pieces" a1X':=fe (ps:=["_law_web_here","_law_some"]) E9 D9.d_law_pieces (λ_ _ _ _ _ _=>len2 λ_ _=>rfl) (ac (a5I' E9 D9) (by decide) an) rfl (by decide+kernel)
theorem a4X':FOk P w K mg base CX0 12 "_law_right" a2P':=fe (ps:=["_law_web_here"]) E9 D9.d_law_right (λ_ _ _ _ _ _=>len1 λ_=>rfl) (ac (a7Q' E9 D9) (by decide) (ac (a7l' E9 D9) (by decide) (ac (a4W' E9 D9) (by decide) (ac (a9O' E9 D9) (by decide) (ac (b1E' E9 D9) (by decide) an))))) rfl (by decide+kernel)
theorem ok_law:FOk P w K mg base CX0 13 "law" f_law:=fe (ps:=["_law_script"]) E9 D9.d_law (λ_ _ _ _ _ _=>len1 λ_=>rfl) (ac (a4X' E9 D9) (by decide) (ac (a3F' E9 D9) (by decide) (ac (a7k' E9 D9) (by decide) an))) rfl (by decide+kernel)
end
noncomputable def spLaw(K:Fg):Sp:=λvs H Q _=>∃(a:Addr) (ns:Li),vs=[.ref a]∧Only H∧SqL K H a (ns.map V.int)∧ns.length≤63∧∀H',Q (.bl true) H'
def Good(f:List D→Store→Res D):Prop:=∀ns:Li,ns.length≤63→∃S',f [.scr (ns.map D.int)] []=.ok (.bl true) S'
theorem a8U'{K:Fg}{mg:GS}{μ:La}{H:Hp}:∀ns:Li,RepL K mg μ H (ns.map D.int) (ns.map V.int)
 | []=>.nil
 |n::ns=>.cons a1l' (a8U' ns)
theorem sp_of{f:List D→Store→Res D}(g:Good f):∀vs H Q E,spLaw K vs H Q E→spOf K mg 1 f vs H Q E:=by
 rintro vs H Q E ⟨a,ns,rfl,ho,hs,hl,q⟩;refine⟨rfl,[],[],[],[.scr (ns.map D.int)],⟨λa h=>(by cases h),rfl,List.nodup_nil,λn a ds h=>(by cases h)⟩,.cons ?_ .nil,?_⟩
 ·unfold Rep;refine⟨a,ns.map V.int,rfl,?_,a8U' ns⟩;rcases hs with(h| ⟨o,h⟩)|h
  ·rcases ho a with z| ⟨o,xs,z⟩<;>rw[z]at h<;>cases h
  ·exact .inl ⟨o,h⟩
  ·exact .inr h
 ·obtain⟨S',e⟩:=g ns hl;rw[e];intro μ' H' b x s r;unfold Rep at r;rw[r];exact q H'
theorem all_mk{l:PySem.W.OpenLaw}(X:K.In h)(G:h.Ns mainGlobals mg)(hfa:mg "law"=some (.ref fa))(good:Good f_law)(D:Df K)(Z:∀x∈a2m',PySem.W.nsIn K mainGlobals x=some none)
  {gi0:Tok} (mp0:PySem.W.nsIn K mainGlobals "MOST_PLACES"=some (some (.int 8 gi0))):
  ∃fd:FuncData,(∀(s:Shared) (v:Value),BindsTo s fd ⟨[v],[]⟩ [("_law_script",v)])∧∀base:Heap,K.In base→base.Ns mainGlobals mg→FnOk l.prog w K mg base CX0 13 fa fd ["_law_script"] (spLaw K):=by
 have hg:∀x d,G0 x=some d→∃v u,mg x=some u∧RelV v u∧∀F μ H,Rep K ⟨mg,F⟩ μ H d v:=λx d e=>by
  unfold G0 at e;rw[List.lookup_cons]at e;split at e
  ·rename_i hx;cases e;have hx':x="MOST_PLACES":=by simpa using hx
   subst hx';exact⟨.int 8,_,PySem.W.mg_of X G mp0,⟨_,rfl⟩,λ_ _ _=>a1l'⟩
  cases e
 have E:En K mg h:=⟨X,G,hg,λx hx=>PySem.W.mg_none_of X G (Z x hx)⟩;obtain⟨f,fd,a,F⟩:=D.d_law;have e:=hfa.symm.trans (PySem.W.mg_of X G a);cases e;have S:FnScope n_law ["_law_script"] (a0p' (top 42)):=a3T' (by decide+kernel);refine⟨fd,λs v=>?_,λbase _ _=>?_⟩
 ·obtain⟨oc,od,kV,doc,pm,an,cdv,ct,osl,rfl,lk,hcd⟩:=F.ex;exact .of_eq rfl
 ·exact FnOk.imp (fnok (k:=12) F S (mok (ac (a4X' E D) (by decide) (ac (a3F' E D) (by decide) (ac (a7k' E D) (by decide) an))) hg E.hb) rfl (by decide+kernel)) (sp_of good)
mutual
theorem a8V'{k:Nat}:∀(d:D),lowD 0 d=true→lowD k d=true
 | .non,_=>rfl
 | .bl _,_=>rfl
 | .int _,_=>rfl
 | .str _,_=>rfl
 | .tup ds,h=>by unfold lowD at h⊢;exact a1x' ds h
 | .lst ds,h=>by unfold lowD at h⊢;exact a1x' ds h
 | .scr ds,h=>by unfold lowD at h⊢;exact a1x' ds h
 | .ref n,h=>by unfold lowD at h;simp at h
 | .fn y,_=>rfl
 | .ty y,_=>rfl
 | .dct,_=>rfl
theorem a1x'{k:Nat}:∀(ds:List D),lowL 0 ds=true→lowL k ds=true
 | [],_=>rfl
 |d::ds,h=>by unfold lowL at h⊢;simp only[ZA]at h⊢;exact⟨a8V' d h.1,a1x' ds h.2⟩
end
def Flat(S:Store):Prop:=∀xs∈S,lowL 0 xs=true
theorem Flat.all(h:Flat S):S.all (lowL k)=true:=ZQ.mpr λxs hx=>a1x' xs (h xs hx)
theorem Flat.nil:Flat []:=λ_ h=>by cases h
theorem Flat.snoc(h:Flat S)(hx:lowL 0 xs=true):Flat (S++[xs]):=λys hy=>by
 rcases Zs.mp hy with z|z
 ·exact h ys z
 ·have:ys=xs:=by simpa using z
  subst this;exact hx
theorem Flat.set(h:Flat S)(hx:lowL 0 xs=true):Flat (S.set n xs):=λys hy=>by
 rcases List.mem_or_eq_of_mem_set hy with z|z
 ·exact h ys z
 ·subst z;exact hx
theorem a3G'(h:Flat (S'.take k))(hd:lowD 0 d=true):trim k d S'=.ok d (S'.take k):=by unfold trim;rw[if_pos h.all,if_pos (a8V' d hd)]
theorem b3w'(h:Flat S)(hd:lowD 0 d=true):trim S.length d S=.ok d S:=by rw[a3G' (by rw[List.take_length];exact h) hd,List.take_length]
theorem b1F'(hk:S.length=k)(h:Flat S)(hd:lowD 0 d=true):trim k d S=.ok d S:=by subst hk;exact b3w' h hd
theorem a7m'{step:D→List D→Store→Res (List D)}{S:Store}(g:D→Option D):∀(xs acc:List D),(∀x∈xs,∀acc,acc.length<big→step x acc S=.ok (acc++(g x).toList) S)→acc.length+xs.length≤big→compD step xs acc S=.ok (acc++xs.filterMap g) S
 | [],acc,_,_=>by simp[compD]
 |x::xs,acc,h,hl=>by
  simp only[Zw]at hl;unfold compD;rw[h x Zb acc (by omega)];unfold Res.bind;dsimp only
  rw[a7m' g xs _ (λy hy=>h y (Zc _ hy)) (by
   have:(g x).toList.length≤1:=by cases g x<;>simp
   simp only[Zp];omega)]
  cases e:g x<;>simp[e]
theorem a6r'{l:List α}{f:α→Option Bool}(h:∀x∈l,f x=some true):allO (l.map f)=some true:=by
 induction l with
 |nil=>rfl
 |cons x l ih=>simp only[ZE];unfold allO;rw[h x Zb,ih λy hy=>h y (Zc _ hy)];rfl
theorem allO_map{l:List α}{f:α→Bool}:allO (l.map λx=>some (f x))=some (l.all f):=by
 induction l with
 |nil=>rfl
 |cons x l ih=>simp only[ZE];unfold allO;rw[ih];rfl
theorem a7R'{l:List α}{f:α→Bool}:anyO (l.map λx=>some (f x))=some (l.any f):=by unfold anyO;rw[Z3];have e:(λo:Option Bool=>o.map not)∘(λx:α=>some (f x))=λx=>some (!f x):=rfl;rw[e,allO_map];simp[List.not_all_eq_any_not]
def tieD(t:Int×Int):D:=.tup [.int t.1,.int t.2]
def tiesD(ts:Lq):List D:=ts.map tieD
def webD(m:Int)(ts:Lq):D:=.tup [.int m,.tup (tiesD ts)]
theorem low_tie(t:Int×Int):lowD 0 (tieD t)=true:=rfl
theorem a6s':∀(ts:Lq),lowL 0 (tiesD ts)=true
 | []=>rfl
 |t::ts=>by show(lowD 0 (tieD t)&&lowL 0 (tiesD ts))=true;rw[low_tie,a6s' ts];rfl
theorem a1F':∀(ns:Li),lowL 0 (ns.map D.int)=true
 | []=>rfl
 |t::ts=>by show(lowD 0 (.int t)&&lowL 0 (ts.map D.int))=true;rw[a1F' ts];rfl
theorem low_web(m:Int)(ts:Lq):lowD 0 (webD m ts)=true:=by show(true&&((lowL 0 (tiesD ts))&&true))=true;rw[a6s'];rfl
def lexlt(a b:Int×Int):Prop:=a.1<b.1∨(a.1=b.1∧a.2<b.2)
instance (a b:Int×Int):Decidable (lexlt a b):=by unfold lexlt;exact inferInstance
theorem b1G'(S:Store)(n:Nat)(a b:Int):eqF S (n+1) (.int a) (.int b)=some (a==b):=rfl
theorem eqF_tie(S:Store)(n:Nat)(a b:Int×Int):eqF S (n+2) (tieD a) (tieD b)=some (decide (a=b)):=by have e:eqF S (n+2) (tieD a) (tieD b)=some ((a.1==b.1&&(a.2==b.2&&true))&&true):=rfl;rw[e];obtain⟨a1,a2⟩:=a;obtain⟨b1,b2⟩:=b;simp[Prod.ext_iff];by_cases h1:a1=b1<;>by_cases h2:a2=b2<;>simp[h1,h2]
theorem ltF_tie(S:Store)(n:Nat)(a b:Int×Int):ltF S (n+2) (tieD a) (tieD b)=some (decide (lexlt a b)):=by
 have e:ltF S (n+2) (tieD a) (tieD b)=(match eqF S (n+1) (.int a.1) (.int b.1)with
  |some true=>(match eqF S (n+1) (.int a.2) (.int b.2)with
   |some true=>some false
   |some false=>some (decide (a.2<b.2))
   |none=>none)
  |some false=>some (decide (a.1<b.1))
  |none=>none):=rfl
 rw[e,b1G',b1G'];obtain⟨a1,a2⟩:=a;obtain⟨b1,b2⟩:=b;unfold lexlt;dsimp only;by_cases h1:a1=b1
 ·subst h1;by_cases h2:a2=b2
  ·subst h2;simp
  ·have:(a2==b2)=false:=by simpa using h2
   simp[this]
 ·have:(a1==b1)=false:=by simpa using h1
  simp[this,h1]
theorem in_ties(S:Store)(t:Int×Int)(ts:Lq):inD (tieD t) (.tup (tiesD ts)) S=some (decide (t∈ts)):=by
 have e:inD (tieD t) (.tup (tiesD ts)) S=anyO ((tiesD ts).map λy=>eqF S deep y (tieD t)):=rfl;rw[e];unfold tiesD;rw[Z3];have e2:((λy=>eqF S deep y (tieD t))∘tieD)=λu=>some (decide (u=t)):=by funext u;exact eqF_tie S 38 u t
 rw[e2,a7R'];congr 1;clear e e2
 induction ts with
 |nil=>rfl
 |cons u us ih=>
  rw[List.any_cons,ih];by_cases h:u=t
  ·subst h;simp
  ·have h':¬t=u:=λz=>h z.symm;by_cases h2:t∈us<;>simp[h,h',h2]
theorem in_tie(S:Store)(p:Int)(t:Int×Int):inD (.int p) (tieD t) S=some (decide (p=t.1∨p=t.2)):=by
 have e:inD (.int p) (tieD t) S=some (!((!(t.1==p))&&((!(t.2==p))&&true))):=rfl;rw[e];congr 1;by_cases h1:p=t.1
 ·subst h1;simp
 ·by_cases h2:p=t.2
  ·subst h2;simp
  ·have e1:(t.1==p)=false:=by simpa using λz=>h1 z.symm
   have e2:(t.2==p)=false:=by simpa using λz=>h2 z.symm
   rw[e1,e2];simp[h1,h2]
structure Web (m:Int)(ts:Lq):Prop where
 lo:1≤m
 hi:m≤8
 ris:ts.Pairwise lexlt
 tie:∀t∈ts,0≤t.1∧t.1<t.2∧t.2<m
 few:ts.length≤28
structure Pairing (ts ps:Lq):Prop where
 ris:ps.Pairwise lexlt
 sub:∀t∈ps,t∈ts
 un:(ps.flatMap λt=>[t.1,t.2]).Nodup
theorem a0z'(hl:ds.length=np)(h:denSs Φ Γ body (ds.map some++List.replicate (n-np) none) S=.ok (.ret d) S')(hk:S'.length=S.length)(hf:Flat S')(hd:lowD 0 d=true):runD Φ Γ body n np ds S=.ok d S':=by unfold runD;rw[if_pos hl,h];exact b1F' hk hf hd
theorem b1H'(hl:ds.length=np)(h:denSs Φ Γ body (ds.map some++List.replicate (n-np) none) S=.ok (.next ρ) S')(hk:S'.length=S.length)(hf:Flat S'):runD Φ Γ body n np ds S=.ok .non S':=by unfold runD;rw[if_pos hl,h];exact b1F' hk hf rfl
theorem a7n'(hS:Flat S)(i:Int):a2L' [.int i] S=.ok (.bl true) S:=a0z' rfl rfl rfl hS rfl
theorem a1M'(hS:Flat S)(i lo hi:Int):a0q' [.int i,.int lo,.int hi] S=.ok (.bl (decide (lo≤i∧i≤hi))) S:=by refine a0z' rfl ?_ rfl hS rfl;simp[a2r',a2q',denSs,denS,denT,den,denL,Res.bind,Res.noErr,onBl,a1t',a7n' hS,cmpD,leD];by_cases h:lo≤i<;>simp[h]
theorem a7S'(hS:Flat S)(m i:Int):a3r' [.int m,.int i] S=.ok (.bl (decide (0≤i∧i<m))) S:=by refine a0z' rfl ?_ rfl hS rfl;have e:(i≤m-1)=(i<m):=propext (by omega);simp[a6X',a6W',denSs,denS,denT,den,denL,Res.bind,Res.noErr,onBl,a1B',a1M' hS,opD,subD,e]
theorem a4Y'{step:D→List D→Store→Res (List D)}(h:∀x∈xs,∀acc,acc.length<big→step x acc S=.ok (acc++[.bl true]) S)(hl:xs.length≤big):compD step xs [] S=.ok (xs.map λ_=>D.bl true) S:=by rw[a7m' (λ_=>some (.bl true)) xs [] (λx hx acc ha=>h x hx acc ha) (by simpa using hl)];simp
theorem a7T':allD [.lst (xs.map λ_=>D.bl true)] S=.ok (.bl true) S:=by unfold allD;simp only[seqOf];rw[Z3,show allO (xs.map (asB∘λx=>D.bl true))=some true from a6r' λx hx=>rfl];rfl
theorem cut1(xs:List D):cutL xs (some 1) none=xs.drop 1:=by
 unfold cutL
 have e1:HT.sIx xs.length 0 (some 1)=min 1 xs.length:=by
  unfold HT.sIx;simp
  try omega
 have e2:HT.sIx xs.length xs.length none=xs.length:=rfl;rw[e1,e2];cases xs with
 |nil=>rfl
 |cons x r=>simp
theorem a3U'(hS:Flat S)(hl:xs.length≤1000)(h:∀(i:Nat) x y,xs[i]?=some x→xs[i+1]?=some y→ltF S deep x y=some true):a0r' [.tup xs] S=.ok (.bl true) S:=by
 refine a0z' rfl ?_ rfl hS rfl;have hz:zipOf S (.tup xs) (.tup (xs.drop 1))=some (.items (List.zipWith (λx y=>.tup [x,y]) xs (xs.drop 1))):=rfl;have hc:=cut1 xs;simp[a5F',a5E',denSs,denS,denT,den,denL,denI,Res.bind,Res.noErr,onBl,slD,optL,toOpt,bltD];simp only[hc,hz,compI];rw[a4Y']
 ·simp only[Res.noErr];rw[a7T']
 ·intro z hz acc ha;obtain⟨i,hi⟩:=List.mem_iff_getElem?.mp hz;rw[List.getElem?_zipWith]at hi;cases e1:xs[i]? with
  |none=>rw[e1]at hi;cases hi
  |some x=>
   cases e2:(xs.drop 1)[i]? with
   |none=>rw[e1,e2]at hi;cases hi
   |some y=>rw[e1,e2]at hi;cases hi;rw[List.getElem?_drop,Nat.add_comm]at e2;have hlt:=h i x y e1 e2;simp[a0h',isNew,slots,a4F',asgCT,asgVs,denTs,denB,den,Res.bind,cmpD,hlt,boolR,Res.noErr];unfold big at ha;omega
 ·simp;unfold big;omega
theorem a2V'(hS:Flat S)(hl:ns.length≤1000)(h:∀n∈ns,0≤n∧n<m):a0C' [.int m,.tup (ns.map D.int)] S=.ok (.bl true) S:=by
 refine a0z' rfl ?_ rfl hS rfl;have hi:a0M' [.tup (ns.map D.int),.ty "tuple"] S=.ok (.bl true) S:=rfl;simp[a4P',a4O',denSs,denS,denT,den,denL,denI,Res.bind,Res.noErr,onBl,bltD,hi,a0P'];simp only[compI];rw[a4Y']
 ·simp only[Res.noErr];rw[a7T']
 ·intro z hz acc ha;obtain⟨n,hn,rfl⟩:=Zy.mp hz;have hp:=a7S' hS m n;have hd:decide (0≤n∧n<m)=true:=ZR (h n hn);rw[hd]at hp;simp[a0h',isNew,slots,a4F',asgCT,asgVs,denTs,denB,den,denL,Res.bind,a2t',hp,Res.noErr];unfold big at ha;omega
 ·simp;unfold big;omega
theorem a9Q'(hS:Flat S){t:Int×Int}(h:0≤t.1∧t.1<t.2∧t.2<m):a6h' [.int m,tieD t] S=.ok (.bl true) S:=by
 refine a0z' rfl ?_ rfl hS rfl;have h1:a0C' [.int m,tieD t] S=.ok (.bl true) S:=a2V' hS (ns:=[t.1,t.2]) (by simp) (by intro n hn;simp at hn;rcases hn with rfl|rfl<;>omega)
 have h2:a0r' [tieD t] S=.ok (.bl true) S:=a3U' hS (xs:=[.int t.1,.int t.2]) (by simp) (by
  intro i x y e1 e2;have hi:i=0:=by have:=(Zl.mp e2).1;simp at this;omega
  subst hi;simp at e1 e2;subst e1;subst e2;show some (decide (t.1<t.2))=some true;simp[h.2.1])
 have h3:bltD .len [tieD t] S=.ok (.int 2) S:=rfl;have h4:cmpD .Eq (.int 2) (.int 2) S=.ok (.bl true) S:=rfl;simp[b1u',b1t',denSs,denS,denT,den,denL,Res.bind,Res.noErr,onBl,a2Z',a3s',h1,h2,h3,h4]
theorem b1I'{i:Nat}{x:D}(h:(tiesD ts)[i]?=some x):∃t,ts[i]?=some t∧x=tieD t:=by
 unfold tiesD at h;rw[ZW]at h;cases e:ts[i]? with
 |none=>rw[e]at h;cases h
 |some t=>rw[e]at h;cases h;exact⟨t,rfl,rfl⟩
theorem a9R'(hS:Flat S)(hl:ts.length≤1000)(h:ts.Pairwise lexlt):a0r' [.tup (tiesD ts)] S=.ok (.bl true) S:=
 a3U' hS (by unfold tiesD;simpa using hl) λi x y e1 e2=>by obtain⟨t,f1,rfl⟩:=b1I' e1;obtain⟨u,f2,rfl⟩:=b1I' e2;rw[show ltF S deep (tieD t) (tieD u)=some (decide (lexlt t u))from ltF_tie S 38 t u];obtain⟨g1,rfl⟩:=Zl.mp f1;obtain⟨g2,rfl⟩:=Zl.mp f2;rw[ZR (List.pairwise_iff_getElem.mp h i (i+1) g1 g2 (by omega))]
theorem a9S'(hS:Flat S)(W:Web m ts):a6j' [webD m ts] S=.ok (.bl true) S:=by
 have hf:=W.few;refine a0z' rfl ?_ rfl hS rfl;have h1:a0M' [webD m ts,.ty "tuple"] S=.ok (.bl true) S:=rfl;have h2:lenD [webD m ts] S=.ok (.int 2) S:=rfl;have h3:cmpD .NotEq (.int 2) (.int 2) S=.ok (.bl false) S:=rfl;have h4:=a1M' hS m 1 8;rw[ZR (⟨W.lo,W.hi⟩:1≤m∧m≤8)]at h4;have h5:a0M' [.tup (tiesD ts),.ty "tuple"] S=.ok (.bl true) S:=rfl;have h6:=a9R' hS (show ts.length≤1000 by omega) W.ris;have h7:G0 "MOST_PLACES"=some (.int 8):=rfl;have h8:asgCT (.tup [.var 1,.var 2]) (webD m ts) [some (webD m ts),none,none]=some [some (webD m ts),some (.int m),some (.tup (tiesD ts))]:=rfl;simp[b1w',b1v',denSs,denS,denT,den,denL,denI,Res.bind,Res.noErr,onBl,bltD,h1,h2,h3,a3t',a1Q',a2u',h4,h5,truD,h6,h7,h8,a0P'];simp only[compI];rw[a4Y']
 ·simp only[Res.noErr];rw[a7T'];simp[h6]
 ·intro z hz acc ha;obtain⟨t,ht,rfl⟩:=Zy.mp hz;have hp:=a9Q' hS (W.tie t ht);simp[a0h',isNew,slots,a4F',asgCT,asgVs,denTs,denB,den,denL,Res.bind,a2u',hp,Res.noErr];unfold big at ha;omega
 ·unfold tiesD big;simp;omega
theorem a2H'(hS:Flat S)(W:Web m ts):a0u' [webD m ts] S=.ok .non S:=by refine b1H' (ρ:=[some (webD m ts)]) rfl ?_ rfl hS;simp[a4e',a4d',denSs,denS,denT,den,denL,Res.bind,a2T',a9S' hS W,truD]
theorem a1y'{α:Type}{f e:α→D}{p:α→Bool}{step:D→List D→Store→Res (List D)}{S:Store}:∀(xs:List α) (acc:List D),(∀x∈xs,∀acc,acc.length<big→step (f x) acc S=.ok (if p x=true then acc++[e x]else acc) S)→acc.length+xs.length≤big→compD step (xs.map f) acc S=.ok (acc++(xs.filter p).map e) S
 | [],acc,_,_=>by simp[compD]
 |x::xs,acc,h,hl=>by
  simp only[Zw]at hl;simp only[ZE];unfold compD;rw[h x Zb acc (by omega)];unfold Res.bind;dsimp only;have ih:=λa=>a1y' (f:=f) (e:=e) (p:=p) (step:=step) xs a (λy hy=>h y (Zc _ hy));by_cases hp:p x=true
  ·rw[if_pos hp,ih _ (by simp;omega)];simp[hp]
  ·rw[if_neg hp,ih _ (by omega)];simp[hp]
theorem a0f'{f e:α→D}{p:α→Bool}{step:D→List D→Store→Res (List D)}{xs:List α}(h:∀x∈xs,∀acc,acc.length<big→step (f x) acc S=.ok (if p x=true then acc++[e x]else acc) S)(hl:xs.length≤big):compD step (xs.map f) [] S=.ok ((xs.filter p).map e) S:=by rw[a1y' xs [] h (by simpa using hl)];simp
theorem a0k'{c:CS}(h:denS Φ Γ c ρ S=.ok (.next ρ') S'):denSs Φ Γ (c::cs) ρ S=denSs Φ Γ cs ρ' S':=by rw[denSs,h];rfl
theorem a2k'{c:CS}(h:denS Φ Γ c ρ S=.ok (.ret d) S'):denSs Φ Γ (c::cs) ρ S=.ok (.ret d) S':=by rw[denSs,h];rfl
theorem a6t'{t:CT}{it:CE}{its:Its}(h:denI Φ Γ it ρ S=.ok its S1):denS Φ Γ (.for_ t it body) ρ S=forI (λx ρ S=>match asgCT t x ρ with
   |some ρ'=>denSs Φ Γ body ρ' S
   |none=>.fail) its ρ S1:=by
 rw[denS,h];rfl
theorem a0s'{i:Nat}{e:CE}(h:den Φ Γ e ρ S=.ok d S'):denSs Φ Γ (.asg i e::cs) ρ S=denSs Φ Γ cs (ρ.set i (some d)) S':=
 a0k' (by rw[denS,h];rfl)
def a0t'(lo:Int):Nat→Li
 |0=>[]
 |n+1=>lo::a0t' (lo+1) n
theorem a1N'(lo:Int)(n:Nat):a4m' lo n=(a0t' lo n).map D.int:=by
 induction n generalizing lo with
 |zero=>rfl
 |succ n ih=>unfold a4m' a0t';rw[ih];rfl
theorem a1c'{x:Int}:x∈a0t' lo n→lo≤x∧x<lo+n:=by
 induction n generalizing lo with
 |zero=>intro h;cases h
 |succ n ih=>
  intro h;unfold a0t' at h;rcases Zj.mp h with rfl|h
  ·omega
  ·have:=ih h;omega
theorem a0e':(a0t' lo n).length=n:=by
 induction n generalizing lo with
 |zero=>rfl
 |succ n ih=>unfold a0t';simp[ih]
def hasP(p:Int)(t:Int×Int):Bool:=decide (p=t.1∨p=t.2)
noncomputable def mateI:Lq→Int→Option Int
 | [],_=>none
 |t::ts,p=>if p=t.1 then some t.2 else if p=t.2 then some t.1 else mateI ts p
def optD:Option Int→D
 |some i=>.int i
 |none=>.non
theorem low_opt(o:Option Int):lowD 0 (optD o)=true:=by cases o<;>rfl
theorem a8W'{S:Store}{step:D→Rho→Store→Res Fl}{p:Int}{P:D}
  (hs:∀(t:Int×Int) (x y:Option D),step (tieD t) [some P,some (.int p),x,y] S=.ok (if p=t.1 then .ret (.int t.2)else if p=t.2 then .ret (.int t.1)else .next [some P,some (.int p),some (.int t.1),some (.int t.2)]) S):
  ∀(ts:Lq) (x y:Option D),(∃v,mateI ts p=some v∧forD step (tiesD ts) [some P,some (.int p),x,y] S=.ok (.ret (.int v)) S)∨(mateI ts p=none∧∃x' y',forD step (tiesD ts) [some P,some (.int p),x,y] S=.ok (.next [some P,some (.int p),x',y']) S)
 | [],x,y=>.inr ⟨rfl,x,y,rfl⟩
 |t::ts,x,y=>by
  unfold tiesD;simp only[ZE];unfold forD mateI;rw[hs];by_cases h1:p=t.1
  ·rw[if_pos h1,if_pos h1];exact .inl ⟨_,rfl,rfl⟩
  ·rw[if_neg h1,if_neg h1];by_cases h2:p=t.2
   ·rw[if_pos h2,if_pos h2];exact .inl ⟨_,rfl,rfl⟩
   ·rw[if_neg h2,if_neg h2];exact a8W' hs ts _ _
theorem a7o'(hS:Flat S)(ps:Lq)(p:Int):a1R' [.tup (tiesD ps),.int p] S=.ok (optD (mateI ps p)) S:=by
 refine a0z' rfl ?_ rfl hS (low_opt _)
 have hl:=a8W' (S:=S) (p:=p) (P:=.tup (tiesD ps)) (step:=λx ρ S=>match asgCT (.tup [.var 2,.var 3]) x ρ with
   |some ρ'=>denSs a3x' G0 [.ite (.cmp .Eq (.var 1) (.var 2)) [.ret (.var 3)] [],.ite (.cmp .Eq (.var 1) (.var 3)) [.ret (.var 2)] []] ρ' S
   |none=>.fail) (λt x y=>by
    simp only[tieD,asgCT,asgVs];by_cases h1:p=t.1
    ·simp[denSs,denS,denT,den,Res.bind,Res.noErr,cmpD,eqF,deep,sh,eqS,boolR,onBl,h1]
    ·by_cases h2:p=t.2
     ·have h1':¬t.2=t.1:=λz=>h1 (h2.trans z);simp[denSs,denS,denT,den,Res.bind,Res.noErr,cmpD,eqF,deep,sh,eqS,boolR,onBl,h1,h2,h1']
      try omega
     ·simp[denSs,denS,denT,den,Res.bind,Res.noErr,cmpD,eqF,deep,sh,eqS,boolR,onBl,h1,h2]) ps none none
 have e:denSs a3x' G0 a8T' ([D.tup (tiesD ps),D.int p].map some++List.replicate (a8S'.length-2) none) S=(forD (λx ρ S=>match asgCT (.tup [.var 2,.var 3]) x ρ with
   |some ρ'=>denSs a3x' G0 [.ite (.cmp .Eq (.var 1) (.var 2)) [.ret (.var 3)] [],.ite (.cmp .Eq (.var 1) (.var 3)) [.ret (.var 2)] []] ρ' S
   |none=>.fail) (tiesD ps) [some (.tup (tiesD ps)),some (.int p),none,none] S).bind λf S1=>match f with
    | .next ρ'=>denSs a3x' G0 [.ret (.lit .non)] ρ' S1
    |f=>.ok f S1:=rfl
 rw[e];rcases hl with⟨v,h1,h2⟩| ⟨h1,x',y',h2⟩
 ·rw[h2,h1];rfl
 ·rw[h2,h1];rfl
noncomputable def a1r'(m:Int)(ps:Lq):Li:=(a0t' 0 m.toNat).filter λi=>(mateI ps i).isNone
theorem b3x'(o:Option Int):isNon (optD o)=o.isNone:=by cases o<;>rfl
theorem a9T'(hS:Flat S)(h1:1≤m)(h2:m≤8)(ts ps:Lq):a2z' [webD m ts,.tup (tiesD ps)] S=.ok (.tup ((a1r' m ps).map D.int)) S:=by
 refine a0z' rfl ?_ rfl hS (a1F' _);have hi:idxD (webD m ts) (.int 0) S=.ok (.int m) S:=rfl;have hr:(-4611686018427387904:Int)≤m∧m<4611686018427387904:=by omega
 simp[a7d',a7c',denSs,denS,denT,den,denL,denI,Res.bind,Res.noErr,onBl,bltD,compI,hi,hr,a1N'];rw[a0f' (f:=D.int) (p:=λi=>(mateI ps i).isNone) (e:=D.int)]
 ·simp[Res.noErr,b0y',seqOf,a1r']
 ·intro i hi acc ha;have ha':acc.length<16777216:=ha;have hq:=a7o' hS ps i;have hn:=b3x' (mateI ps i);cases e:(mateI ps i).isNone<;>rw[e]at hn<;>simp[a0h',isNew,slots,a4F',asgCT,asgVs,denTs,denT,denB,den,denL,Res.bind,cmpD,isD,boolR,Res.noErr,onBl,a3y',hq,hn,ha']
 ·rw[a0e'];unfold big;omega
theorem a4Z'{α:Type}{f:α→D}{g:α→List D}{c:Nat}{step:D→List D→Store→Res (List D)}{S:Store}(hg:∀x,(g x).length≤c):∀(xs:List α) (acc:List D),(∀x∈xs,∀acc,acc.length+c≤big→step (f x) acc S=.ok (acc++g x) S)→acc.length+c*xs.length≤big→compD step (xs.map f) acc S=.ok (acc++xs.flatMap g) S
 | [],acc,_,_=>by simp[compD]
 |x::xs,acc,h,hl=>by simp only[Zw,Nat.mul_add,Nat.mul_one]at hl;simp only[ZE];unfold compD;rw[h x Zb acc (by omega)];unfold Res.bind;dsimp only;rw[a4Z' hg xs _ (λy hy=>h y (Zc _ hy)) (by have:=hg x;simp only[Zp];omega)];simp
noncomputable def insI(x:Int×Int):Lq→Lq
 | []=>[x]
 |y::ys=>if lexlt x y then x::y::ys else y::insI x ys
def sortI(l:Lq):Lq:=l.foldl (λacc x=>insI x acc) []
theorem ltK_tie(a b:Int×Int):ltK (.seq .int) (tieD a) (tieD b)=decide (lexlt a b):=by
 have e:ltK (.seq .int) (tieD a) (tieD b)=(if decide (a.1<b.1)=true then true else if decide (b.1<a.1)=true then false else if decide (a.2<b.2)=true then true else if decide (b.2<a.2)=true then false else false):=rfl;rw[e];simp only[Z0];by_cases h:lexlt a b
 ·rw[ZR h];unfold lexlt at h
  repeat' split
  all_goals first|rfl|omega
 ·rw[ZO h];unfold lexlt at h
  repeat' split
  all_goals first|rfl|omega
theorem b1J'(x:Int×Int):∀l:Lq,insB (ltK (.seq .int)) (tieD x) (tiesD l)=tiesD (insI x l)
 | []=>rfl
 |y::ys=>by
  show(if ltK (.seq .int) (tieD x) (tieD y)=true then tieD x::tieD y::tiesD ys else tieD y::insB (ltK (.seq .int)) (tieD x) (tiesD ys))=tiesD (insI x (y::ys));have e:insI x (y::ys)=if lexlt x y then x::y::ys else y::insI x ys:=rfl;rw[ltK_tie,b1J' x ys,e];by_cases h:lexlt x y
  ·rw[ZR h,if_pos rfl,if_pos h];rfl
  ·rw[ZO h,if_neg Ya,if_neg h];rfl
theorem a8X':∀(l acc:Lq),(tiesD l).foldl (λacc x=>insB (ltK (.seq .int)) x acc) (tiesD acc)=tiesD (l.foldl (λacc x=>insI x acc) acc)
 | [],acc=>rfl
 |x::l,acc=>by show(tiesD l).foldl (λacc x=>insB (ltK (.seq .int)) x acc) (insB (ltK (.seq .int)) (tieD x) (tiesD acc))=_;rw[b1J',a8X' l];rfl
theorem b3y'(l:Lq):a4G' (ltK (.seq .int)) (tiesD l)=tiesD (sortI l):=a8X' l []
theorem a4A'(x:Int×Int):∀l,(insI x l).Perm (x::l)
 | []=>.refl _
 |y::ys=>by
  unfold insI;split
  ·exact .refl _
  ·exact((a4A' x ys).cons y).trans (.swap x y ys)
theorem a7p':∀(l acc:Lq),(l.foldl (λacc x=>insI x acc) acc).Perm (l++acc)
 | [],acc=>.refl _
 |x::l,acc=>by refine(a7p' l (insI x acc)).trans ?_;exact((a4A' x acc).append_left l).trans List.perm_middle
theorem a7q'(l:Lq):(sortI l).Perm l:=by have:=a7p' l [];rw[Yd]at this;exact this
theorem lex_tot{x y:Int×Int}(h:¬lexlt x y)(n:x≠y):lexlt y x:=by unfold lexlt at h⊢;have:¬(x.1=y.1∧x.2=y.2):=λz=>n (Prod.ext z.1 z.2);omega
theorem b3z'{x y z:Int×Int}(a:lexlt x y)(b:lexlt y z):lexlt x z:=by unfold lexlt at*;omega
theorem a5J'(x:Int×Int):∀l,l.Pairwise lexlt→x∉l→(insI x l).Pairwise lexlt
 | [],_,_=>List.pairwise_singleton _ _
 |y::ys,h,n=>by
  obtain⟨h1,h2⟩:=ZM.mp h;unfold insI;by_cases e:lexlt x y
  ·rw[if_pos e];refine ZM.mpr ⟨λz hz=>?_,h⟩;rcases Zj.mp hz with rfl|hz
   ·exact e
   ·exact b3z' e (h1 z hz)
  ·rw[if_neg e];refine ZM.mpr ⟨λz hz=>?_,a5J' x ys h2 λz=>n (Zc _ z)⟩;rcases Zj.mp ((a4A' x ys).mem_iff.mp hz)with rfl|hz
   ·exact lex_tot e λz=>n (by subst z;exact Zb)
   ·exact h1 z hz
theorem a5a':∀(l acc:Lq),acc.Pairwise lexlt→(l++acc).Nodup→(l.foldl (λacc x=>insI x acc) acc).Pairwise lexlt
 | [],acc,h,_=>h
 |x::l,acc,h,n=>by have n':(x::(l++acc)).Nodup:=n;obtain⟨n1,n2⟩:=List.nodup_cons.mp n';refine a5a' l (insI x acc) (a5J' x acc h λz=>n1 (Zz _ z)) ?_;exact(((a4A' x acc).append_left l).trans List.perm_middle).nodup_iff.mpr n'
theorem a7U'{l:Lq}(h:l.Nodup):(sortI l).Pairwise lexlt:=a5a' l [] .nil (by simpa using h)
theorem a7V'{l:Lq}(hd:seqOf S d=some (tiesD l))(hl:l.length<64):a2d' false (.seq .int) [d] S=.ok (.lst (tiesD (sortI l))) S:=by
 have e1:(tiesD l).all (hasTy (.seq .int))=true:=by rw[ZQ];intro x hx;obtain⟨t,_,rfl⟩:=Zy.mp hx;rfl
 have e2:a3I' (.seq .int) (tiesD l)=true:=by
  have:((tiesD l).all λd=> !isNil d)=true:=by rw[ZQ];intro x hx;obtain⟨t,_,rfl⟩:=Zy.mp hx;rfl
  show(true&&(((tiesD l).all λd=> !isNil d)||isNil ((tiesD l).headD .non)))=true;rw[this];rfl
 have e3:(tiesD l).length<65536:=by unfold tiesD;rw[Zm];omega
 unfold a2d';simp only[hd];rw[if_pos ⟨e1,e3,e2⟩,b3y'];rfl
theorem b5J'{l:Lq}(h1:1≤m)(h2:m≤8)(hn:l.Nodup)(hv:∀t∈l,0≤t.1∧t.1<t.2∧t.2<m)(hl:l.length≤28):Web m (sortI l):=
 ⟨h1,h2,a7U' hn,λt ht=>hv t ((a7q' l).mem_iff.mp ht),by rw[(a7q' l).length_eq];exact hl⟩
theorem eight(h1:1≤m)(h2:m≤8):m=1∨m=2∨m=3∨m=4∨m=5∨m=6∨m=7∨m=8:=by omega
theorem a5b':(a0t' lo n).Nodup:=by
 induction n generalizing lo with
 |zero=>exact List.nodup_nil
 |succ n ih=>unfold a0t';refine List.nodup_cons.mpr ⟨λh=>?_,ih⟩;have:=a1c' h;omega
theorem a5t'{c:CE}{a b:List CS}{k:Bool}(h:denT Φ Γ c ρ S=.ok k S1):denS Φ Γ (.ite c a b) ρ S=if k=true then denSs Φ Γ a ρ S1 else denSs Φ Γ b ρ S1:=by rw[denS,h];rfl
theorem a0K'{tg:CT}{it:CE}{ifs:List CE}{body:CE}{S5:Store}{its:Its}(hI:denI Φ Γ it ρ S=.ok its S1)
  (hc:compI (λx acc S2=>match a0h' tg x (fr.map λj=>j.bind λj=>(ρ[j]?).join)with
    |some ρ'=>(denTs Φ Γ ifs ρ' S2).bind λk S3=>if k=true then denB Φ Γ body ρ' acc S3 else .ok acc S3
    |none=>.fail) its [] S1=.ok ys S5):den Φ Γ (.comp false N fr tg it ifs body) ρ S=.ok (.lst ys) S5:=by
 rw[den,hI];exact Eq.trans (congrArg (λr=>Res.bind (Res.noErr r) (λys S5=>if false=true then Res.ok (D.ref S5.length) (S5++[ys])else Res.ok (.lst ys) S5)) hc) rfl
section
variable {S3:Store}{d2 r x y:D}{e a b:CE}
theorem den_v{i:Nat}(h:ρ[i]?=some (some d)):den Φ Γ (.var i) ρ S=.ok d S:=by rw[den,h]
theorem a0S'{k:Blt}(h:den Φ Γ e ρ S=.ok d S1)(hb:bltD k [d] S1=.ok r S2):den Φ Γ (.blt k [e]) ρ S=.ok r S2:=by simp[den,denL,h,Res.bind,hb,Res.noErr]
theorem a3H'{f:Str}(hf:Φ f=some φ)(h1:den Φ Γ a ρ S=.ok x S1)(h:φ [x] S1=.ok r S2):den Φ Γ (.call f [a]) ρ S=.ok r S2:=by simp[den,denL,hf,h1,h,Res.bind]
theorem a2Q'{f:Str}(hf:Φ f=some φ)(h1:den Φ Γ a ρ S=.ok x S1)(h2:den Φ Γ b ρ S1=.ok y S2)(h:φ [x,y] S2=.ok r S3):den Φ Γ (.call f [a,b]) ρ S=.ok r S3:=by simp[den,denL,hf,h1,h2,h,Res.bind]
theorem a9U'(h:den Φ Γ e ρ S=.ok d S1):denS Φ Γ (.ret e) ρ S=.ok (.ret d) S1:=by rw[denS,h];rfl
end
section
variable {A B:List D}
theorem box0:(S++[A,B])[S.length]?=some A:=by rw[Zv (Zi _)];simp
theorem box1:(S++[A,B])[S.length+1]?=some B:=by rw[Zv (by omega)];simp
theorem set0{X:List D}:(S++[A,B]).set S.length X=S++[X,B]:=by rw[List.set_append_right _ _ (Zi _)];simp
theorem set1{X:List D}:(S++[A,B]).set (S.length+1) X=S++[A,X]:=by rw[List.set_append_right _ _ (by omega)];simp
theorem flat2(h:Flat S)(ha:lowL 0 A=true)(hb:lowL 0 B=true):Flat (S++[A,B]):=by have:=(h.snoc ha).snoc hb;simpa using this
end
theorem a8Y'{step:D→List D→Store→Res (List D)}{S:Store}{k:Nat}{xs:List D}(hk:S[k]?=some xs)(hs:∀x∈xs,∀acc,acc.length<big→step x acc S=.ok (acc++[.bl true]) S∨step x acc S=.ok (acc++[.bl false]) S):
  ∀(f i:Nat) (acc:List D),xs.length<f+i→i≤xs.length→compB step (a2g' k) f i acc S=compD step (xs.drop i) acc S∨big≤acc.length+(xs.length-i)
 |0,i,acc,h1,h2=>absurd h1 (by omega)
 |f+1,i,acc,h1,h2=>by
  unfold compB;have hg:a2g' k S i=some xs[i]? :=by unfold a2g';rw[hk];rfl
  rw[hg];by_cases hi:i<xs.length
  ·rw[Ze hi,Z8 hi];by_cases hb:acc.length<big
   ·dsimp only;unfold compD;rcases hs xs[i] (ZY hi) acc hb with e|e<;>rw[e]<;>dsimp only[Res.bind]
    all_goals
     rcases a8Y' hk hs f (i+1) (acc++[_]) (by omega) (by omega)with z|z
     ·exact .inl z
     ·right;simp at z;omega
   ·right;omega
  ·rw[List.getElem?_eq_none (by omega),List.drop_eq_nil_of_le (by omega)];exact .inl rfl
end K50
namespace Py
abbrev Ti:=Int×Int
noncomputable def Chn(ts p:List Ti):Prop:=(∀t∈p,t∈ts)∧p.Pairwise (λs t=>s.1<t.1∧s.2≠t.1∧s.2≠t.2)
noncomputable def freeP(p:List Ti)(x:Int):Bool:=p.all λs=>decide (x≠s.1)&&decide (x≠s.2)
theorem a1z'{p:List Ti}{x:Int}:freeP p x=true↔∀s∈p,x≠s.1∧x≠s.2:=by unfold freeP;simp only[ZQ,ZA,Z0]
noncomputable def a1G'(ts:List Ti)(a:Int)(F:List (List Ti)):List (List Ti):=F++(ts.filter λt=>decide (t.1=a)).flatMap λt=>(F.filter λp=>freeP p t.2).map (t:: ·)
def DI(ts:List Ti)(a:Int)(F:List (List Ti)):Prop:=F.Nodup∧∀p,p∈F↔Chn ts p∧∀t∈p,a≤t.1
theorem b1K'{ts p:List Ti}{t:Ti}:Chn ts (t::p)↔t∈ts∧Chn ts p∧∀s∈p,t.1<s.1∧t.2≠s.1∧t.2≠s.2:=by
 unfold Chn;rw[ZM];constructor
 ·rintro⟨h1,h2,h3⟩;exact⟨h1 t Zb,⟨λs hs=>h1 s (Zc _ hs),h3⟩,h2⟩
 ·rintro⟨h1,⟨h2,h3⟩,h4⟩;refine⟨λs hs=>?_,h4,h3⟩;rcases Zj.mp hs with rfl|hs
  ·exact h1
  ·exact h2 s hs
theorem b4l'{ts:List Ti}{a:Int}{F:List (List Ti)}(hn:ts.Nodup)(h:DI ts (a+1) F):DI ts a (a1G' ts a F):=by
 obtain⟨h1,h2⟩:=h;unfold a1G';refine⟨?_,λp=>?_⟩
 ·rw[Z2];refine⟨h1,?_,λp hp q hq z=>?_⟩
  ·unfold List.Nodup;rw[List.pairwise_flatMap];refine⟨λt ht=>?_,?_⟩
   ·rw[Z7];exact(List.Pairwise.filter _ h1).imp λhne z=>hne (by injection z)
   ·refine(List.Pairwise.filter _ hn).imp λhne x hx y hy z=>?_;obtain⟨x',_,rfl⟩:=Zy.mp hx;obtain⟨y',_,rfl⟩:=Zy.mp hy;injection z with z1 _
    exact hne z1
  ·subst z;obtain⟨t,ht,hp'⟩:=List.mem_flatMap.mp hq;obtain⟨q,hq,rfl⟩:=Zy.mp hp';have:=((h2 _).mp hp).2 t Zb;have e:t.1=a:=by simpa using(Zn.mp ht).2
   omega
 ·rw[Zs,List.mem_flatMap];constructor
  ·rintro(hp| ⟨t,ht,hp⟩)
   ·obtain⟨c,d⟩:=(h2 p).mp hp;exact⟨c,λt ht=>by have:=d t ht;omega⟩
   ·obtain⟨q,hq,rfl⟩:=Zy.mp hp;obtain⟨hq,hf⟩:=Zn.mp hq;obtain⟨ht,e⟩:=Zn.mp ht;have e:t.1=a:=by simpa using e
    obtain⟨c,d⟩:=(h2 q).mp hq;have hf:=a1z'.mp hf;refine⟨b1K'.mpr ⟨ht,c,λs hs=>⟨by have:=d s hs;omega,hf s hs⟩⟩,λs hs=>?_⟩;rcases Zj.mp hs with rfl|hs
    ·omega
    ·have:=d s hs;omega
  ·rintro⟨c,d⟩;cases p with
   |nil=>exact .inl ((h2 []).mpr ⟨c,λt ht=>by cases ht⟩)
   |cons t q=>
    obtain⟨c1,c2,c3⟩:=b1K'.mp c;have dt:=d t Zb;by_cases e:t.1=a
    ·right;refine⟨t,Zn.mpr ⟨c1,by simpa using e⟩,Zy.mpr ⟨q,Zn.mpr ⟨(h2 q).mpr ⟨c2,λs hs=>?_⟩,a1z'.mpr λs hs=>(c3 s hs).2⟩,rfl⟩⟩;have:=(c3 s hs).1;omega
    ·left;refine(h2 _).mpr ⟨c,λs hs=>?_⟩;rcases Zj.mp hs with rfl|hs
     ·omega
     ·have:=(c3 s hs).1;omega
noncomputable def a5K'(ts:List Ti):Nat→List (List Ti)→List (List Ti)
 |0,F=>F
 |n+1,F=>a5K' ts n (a1G' ts n F)
theorem a7r'{ts:List Ti}(hn:ts.Nodup):∀(n:Nat) (F:List (List Ti)),DI ts n F→DI ts 0 (a5K' ts n F)
 |0,F,h=>h
 |n+1,F,h=>a7r' hn n _ (b4l' hn h)
theorem a7s'{ts:List Ti}{m:Nat}(hv:∀t∈ts,t.1<(m:Int)):DI ts m [[]]:=by
 refine⟨by simp,λp=>?_⟩;rw[ZN];constructor
 ·rintro rfl;exact⟨⟨λt ht=>by(cases ht),.nil⟩,λt ht=>by cases ht⟩
 ·rintro⟨c,d⟩;cases p with
  |nil=>rfl
  |cons t q=>have h1:=d t Zb;have h2:=hv t (c.1 t Zb);omega
theorem b1L'{ts p:List Ti}{t:Ti}:Chn ts (p++[t])↔t∈ts∧Chn ts p∧∀s∈p,s.1<t.1∧s.2≠t.1∧s.2≠t.2:=by
 unfold Chn;rw[ZH];constructor
 ·rintro⟨h1,h2,h3,h4⟩;exact⟨h1 t (by simp),⟨λs hs=>h1 s (by simp[hs]),h2⟩,λs hs=>h4 s hs t (by simp)⟩
 ·rintro⟨h1,⟨h2,h3⟩,h4⟩;refine⟨λs hs=>?_,h3,by simp,λs hs t' ht'=>?_⟩
  ·rcases Zs.mp hs with hs|hs
   ·exact h2 s hs
   ·rw[ZN.mp hs];exact h1
  ·rw[ZN.mp ht'];exact h4 s hs
end Py
variable {G:List (List Py.Ti)}
namespace Pc
inductive Con (R:Int→Int→Prop):Int→Int→Prop
 |refl (a:Int):Con R a a
 |step {a b c:Int} (h:Con R a b) (r:R b c):Con R a c
theorem Con.trans{R:Int→Int→Prop}{a b c:Int}(h:Con R a b)(k:Con R b c):Con R a c:=by
 induction k with
 |refl=>exact h
 |step _ r ih=>exact ih.step r
theorem Con.symm{R:Int→Int→Prop}(hR:∀a b,R a b→R b a){a b:Int}(h:Con R a b):Con R b a:=by
 induction h with
 |refl=>exact .refl _
 |step _ r ih=>exact(Con.step (.refl _) (hR _ _ r)).trans ih
noncomputable def Adj(ts:Lq)(so:Li)(a b:Int):Prop:=((a,b)∈ts∨(b,a)∈ts)∧a∉so∧b∉so
theorem Adj.symm(a b:Int)(h:Adj ts so a b):Adj ts so b a:=⟨h.1.symm,h.2.2,h.2.1⟩
def nm(ns:Li)(p:Int):Int:=ns.getD p.toNat 0
noncomputable def relax(so:Li)(ns:Li)(t:Int×Int):Li:=
 if t.1∉so∧t.2∉so then(ns.set t.1.toNat (min (nm ns t.1) (nm ns t.2))).set t.2.toNat (min (nm ns t.1) (nm ns t.2))else ns
def pass(so:Li)(ts:Lq)(ns:Li):Li:=ts.foldl (relax so) ns
theorem nm_set{i p x:Int}(hi:0≤i)(hl:i<ns.length)(hp:0≤p):nm (ns.set i.toNat x) p=if p=i then x else nm ns p:=by
 unfold nm;simp only[ZZ];by_cases h:p=i
 ·subst h;rw[if_pos rfl,Ym (by omega)];rfl
 ·rw[if_neg h,List.getElem?_set_ne (by omega)]
theorem a1Y'{t:Int×Int}:(relax so ns t).length=ns.length:=by unfold relax;split<;>simp
theorem a5L':∀{ts:Lq},(pass so ts ns).length=ns.length:=by
 intro ts;unfold pass
 induction ts generalizing ns with
 |nil=>rfl
 |cons t ts ih=>rw[List.foldl_cons,ih,a1Y']
theorem a6u'{t:Int×Int}(h1:0≤t.1)(h2:t.1<ns.length)(h3:0≤t.2)(h4:t.2<ns.length){p:Int}(hp:0≤p):
  nm (relax so ns t) p=if(t.1∉so∧t.2∉so)∧(p=t.1∨p=t.2)then min (nm ns t.1) (nm ns t.2)else nm ns p:=by
 unfold relax;by_cases h:t.1∉so∧t.2∉so
 ·rw[if_pos h,nm_set h3 (by simpa using h4) hp,nm_set h1 h2 hp];by_cases e2:p=t.2
  ·simp[h,e2]
  ·by_cases e1:p=t.1
   ·simp[h,e1]
   ·simp[e1,e2]
 ·rw[if_neg h];simp[h]
def a3e'(m:Nat)(ts:Lq):Prop:=∀t∈ts,0≤t.1∧t.1<m∧0≤t.2∧t.2<m
theorem a7W'{m:Nat}{t:Int×Int}(hl:ns.length=m)(ht:0≤t.1∧t.1<m∧0≤t.2∧t.2<m){p:Int}(hp:0≤p):nm (relax so ns t) p≤nm ns p:=by
 rw[a6u' ht.1 (by omega) ht.2.2.1 (by omega) hp];split
 ·rename_i h;rcases h.2 with rfl|rfl<;>omega
 ·omega
theorem a7t'{m:Nat}{so:Li}{p:Int}(hp:0≤p):∀{ts:Lq} {ns:Li},a3e' m ts→ns.length=m→nm (pass so ts ns) p≤nm ns p
 | [],ns,_,_=>by unfold pass;simp
 |t::ts,ns,hT,hl=>by have h1:=a7W' (so:=so) hl (hT t Zb) hp;have h2:=a7t' (so:=so) hp (ts:=ts) (ns:=relax so ns t) (λu hu=>hT u (Zc _ hu)) (by rw[a1Y',hl]);show nm (pass so ts (relax so ns t)) p≤_;omega
theorem a7X'{m:Nat}{so:Li}:∀{ts:Lq} {ns:Li},a3e' m ts→ns.length=m→∀t∈ts,t.1∉so→t.2∉so→nm (pass so ts ns) t.1≤nm ns t.2∧nm (pass so ts ns) t.2≤nm ns t.1
 | [],ns,_,_,t,h,_,_=>by cases h
 |u::ts,ns,hT,hl,t,h,h1,h2=>by
  have hu:=hT u Zb;have hT':a3e' m ts:=λv hv=>hT v (Zc _ hv);have hl':(relax so ns u).length=m:=by rw[a1Y',hl]
  have htm:=hT t h;show nm (pass so ts (relax so ns u)) t.1≤_∧nm (pass so ts (relax so ns u)) t.2≤_;rcases Zj.mp h with e|e
  ·subst e;have a1:=a7t' (so:=so) htm.1 (ts:=ts) hT' hl';have a2:=a7t' (so:=so) htm.2.2.1 (ts:=ts) hT' hl';rw[a6u' hu.1 (by omega) hu.2.2.1 (by omega) htm.1,if_pos ⟨⟨h1,h2⟩,.inl rfl⟩]at a1;rw[a6u' hu.1 (by omega) hu.2.2.1 (by omega) htm.2.2.1,if_pos ⟨⟨h1,h2⟩,.inr rfl⟩]at a2;omega
  ·obtain⟨b1,b2⟩:=a7X' hT' hl' t e h1 h2;have c1:=a7W' (so:=so) hl hu htm.1;have c2:=a7W' (so:=so) hl hu htm.2.2.1;omega
theorem b3A'{m:Nat}{TS:Lq}{t:Int×Int}(hl:ns.length=m)(ht:0≤t.1∧t.1<m∧0≤t.2∧t.2<m)(hm:t∈TS)(h:∀p:Int,0≤p→p<m→Con (Adj TS so) p (nm ns p)):∀p:Int,0≤p→p<m→Con (Adj TS so) p (nm (relax so ns t) p):=by
 intro p p0 p1;rw[a6u' ht.1 (by omega) ht.2.2.1 (by omega) p0];split
 ·rename_i hc;obtain⟨⟨h1,h2⟩,h3⟩:=hc;have a12:Adj TS so t.1 t.2:=⟨.inl hm,h1,h2⟩;have e1:=h t.1 ht.1 ht.2.1;have e2:=h t.2 ht.2.2.1 ht.2.2.2;have f1:Con (Adj TS so) t.1 (nm ns t.2):=(Con.step (.refl _) a12).trans e2;have f2:Con (Adj TS so) t.2 (nm ns t.1):=(Con.step (.refl _) a12.symm).trans e1;by_cases hlt:nm ns t.1≤nm ns t.2
  ·rw[Int.min_eq_left hlt];rcases h3 with rfl|rfl
   ·exact e1
   ·exact f2
  ·rw[Int.min_eq_right (by omega)];rcases h3 with rfl|rfl
   ·exact f1
   ·exact e2
 ·exact h p p0 p1
theorem b1M'{m:Nat}{TS:Lq}{so:Li}:∀{ts:Lq} {ns:Li},a3e' m ts→ns.length=m→(∀t∈ts,t∈TS)→(∀p:Int,0≤p→p<m→Con (Adj TS so) p (nm ns p))→∀p:Int,0≤p→p<m→Con (Adj TS so) p (nm (pass so ts ns) p)
 | [],ns,_,_,_,h=>h
 |t::ts,ns,hT,hl,hs,h=>by show ∀p:Int,0≤p→p<m→Con (Adj TS so) p (nm (pass so ts (relax so ns t)) p);exact b1M' (λu hu=>hT u (Zc _ hu)) (by rw[a1Y',hl]) (λu hu=>hs u (Zc _ hu)) (b3A' hl (hT t Zb) (hs t Zb) h)
noncomputable def a0X'(so:Li)(ts:Lq):Nat→Li→Li
 |0,ns=>ns
 |k+1,ns=>a0X' so ts k (pass so ts ns)
theorem a3V':∀{k:Nat},a0X' so ts (k+1) ns=pass so ts (a0X' so ts k ns):=by
 intro k
 induction k generalizing ns with
 |zero=>rfl
 |succ k ih=>exact ih
theorem a7u':∀{k:Nat},(a0X' so ts k ns).length=ns.length:=by
 intro k
 induction k generalizing ns with
 |zero=>rfl
 |succ k ih=>show(a0X' so ts k (pass so ts ns)).length=_;rw[ih,a5L']
theorem b1N'{m:Nat}(hT:a3e' m ts)(hl:ns.length=m)(h:∀p:Int,0≤p→p<m→Con (Adj ts so) p (nm ns p)):∀{k:Nat} (p:Int),0≤p→p<m→Con (Adj ts so) p (nm (a0X' so ts k ns) p):=by
 intro k
 induction k generalizing ns with
 |zero=>exact h
 |succ k ih=>exact ih (by rw[a5L',hl]) (b1M' hT hl (λt ht=>ht) h)
noncomputable def cnt(m:Nat)(f:Nat→Bool):Nat:=((List.range m).filter f).length
theorem cnt_le{m:Nat}{f:Nat→Bool}:cnt m f≤m:=by unfold cnt;exact ZP (ZF _ _) (by simp)
theorem a8Z'{α:Type}{f g:α→Bool}:∀(l:List α),(∀x∈l,f x=true→g x=true)→(l.filter f).length≤(l.filter g).length
 | [],_=>Zi _
 |x::l,h=>by have ih:=a8Z' l λy hy=>h y (Zc _ hy);have hx:=h x Zb;cases e:f x<;>cases e2:g x<;>simp[e,e2]at hx⊢<;>omega
theorem a9a'{α:Type}{f g:α→Bool}:∀(l:List α),(∀x∈l,f x=true→g x=true)→(∃x∈l,f x=false∧g x=true)→(l.filter f).length<(l.filter g).length
 | [],_,h=>by obtain⟨x,h,_⟩:=h;cases h
 |x::l,h,hx=>by
  have ih:=a8Z' l λy hy=>h y (Zc _ hy);obtain⟨y,hy,h1,h2⟩:=hx;rcases Zj.mp hy with e|e
  ·subst e;simp[h1,h2];omega
  ·have ih2:=a9a' l (λy hy=>h y (Zc _ hy)) ⟨y,e,h1,h2⟩;have hx:=h x Zb;cases e:f x<;>cases e2:g x<;>simp[e,e2]at hx⊢<;>omega
theorem a7Y'{m:Nat}(hT:a3e' m ts)(hl:ns.length=m)(h0:∀p:Int,0≤p→p<m→nm ns p=p){c:Int}(c0:0≤c)(c1:c<m)(hc:∀q,Con (Adj ts so) c q→c≤q):
  ∀p,Con (Adj ts so) c p→nm (a0X' so ts m ns) p=c:=by
 have inR:∀{q:Int},Con (Adj ts so) c q→0≤q∧q<m:=by
  intro q h;cases h with
  |refl=>exact⟨c0,c1⟩
  |step _ r=>
   rcases r.1 with r|r
   ·have:=hT _ r;dsimp only at this;omega
   ·have:=hT _ r;dsimp only at this;omega
 have hcon:∀{k:Nat} (p:Int),0≤p→p<m→Con (Adj ts so) p (nm (a0X' so ts k ns) p):=b1N' hT hl λp p0 p1=>by rw[h0 p p0 p1];exact .refl _
 have hge:∀{k:Nat} (p:Int),Con (Adj ts so) c p→c≤nm (a0X' so ts k ns) p:=λp hp=>hc _ (hp.trans (hcon p (inR hp).1 (inR hp).2));have hlen:∀{k:Nat},(a0X' so ts k ns).length=m:=by intro k;rw[a7u',hl]
 let A:Nat→Nat→Bool:=λk i=>decide (nm (a0X' so ts k ns) i=c)
 have hcA:∀k,nm (a0X' so ts k ns) c=c:=by
  intro k
  induction k with
  |zero=>exact h0 c c0 c1
  |succ k ih=>have:=a7t' (so:=so) c0 hT (hlen (k:=k));rw[←a3V']at this;have:=hge (k:=k+1) c (.refl _);omega
 have hdown:∀(k:Nat) (p:Int),Con (Adj ts so) c p→nm (a0X' so ts k ns) p=c→nm (a0X' so ts (k+1) ns) p=c:=by intro k p hp e;have h1:=a7t' (so:=so) (inR hp).1 hT (hlen (k:=k));rw[←a3V']at h1;have h2:=hge (k:=k+1) p hp;omega
 have claim:∀k,(∀p,Con (Adj ts so) c p→nm (a0X' so ts k ns) p=c)∨k+1≤cnt m (A k):=by
  intro k
  induction k with
  |zero=>right;unfold cnt;refine List.length_pos_iff.mpr λz=>?_;have:c.toNat∈(List.range m).filter (A 0):=Zn.mpr ⟨Yb.mpr (by omega),by show decide (nm (a0X' so ts 0 ns) (c.toNat:Int)=c)=true;rw[Int.toNat_of_nonneg c0,hcA 0];simp⟩;rw[z]at this;cases this
  |succ k ih=>
   by_cases hs:∀p,Con (Adj ts so) c p→nm (a0X' so ts k ns) p=c
   ·left;intro p hp;exact hdown k p hp (hs p hp)
   ·right
    have ih':k+1≤cnt m (A k):=by
     rcases ih with z|z
     ·exact absurd z hs
     ·exact z
    have edge:∃q r,Con (Adj ts so) c q∧nm (a0X' so ts k ns) q=c∧Adj ts so q r∧nm (a0X' so ts k ns) r≠c:=by
     refine Classical.byContradiction λhno=>hs λp hp=>?_
     induction hp with
     |refl=>exact hcA k
     |step hq r ih2=>exact Classical.byContradiction λz=>hno ⟨_,_,hq,ih2,r,z⟩
    obtain⟨q,r,hq,e1,a,e2⟩:=edge;have hr:Con (Adj ts so) c r:=hq.step a
    have e3:nm (a0X' so ts (k+1) ns) r=c:=by
     have h2:=hge (k:=k+1) r hr
     have h3:nm (a0X' so ts (k+1) ns) r≤nm (a0X' so ts k ns) q:=by
      rw[a3V'];rcases a.1 with z|z
      ·exact(a7X' hT (hlen (k:=k)) _ z a.2.1 a.2.2).2
      ·exact(a7X' hT (hlen (k:=k)) _ z a.2.2 a.2.1).1
     omega
    have lt:cnt m (A k)<cnt m (A (k+1)):=by
     refine a9a' _ (λi hi e=>?_) ⟨r.toNat,Yb.mpr (by have:=inR hr;omega),?_,?_⟩
     ·have e':nm (a0X' so ts k ns) (i:Int)=c:=by simpa[A]using e
      have hi':=Yb.mp hi;have hci:Con (Adj ts so) c i:=by have:=hcon (k:=k) (i:Int) (by omega) (by omega);rw[e']at this;exact this.symm Adj.symm
      show decide (nm (a0X' so ts (k+1) ns) (i:Int)=c)=true;rw[hdown k i hci e'];simp
     ·show decide (nm (a0X' so ts k ns) (r.toNat:Int)=c)=false;rw[Int.toNat_of_nonneg (inR hr).1];simpa using e2
     ·show decide (nm (a0X' so ts (k+1) ns) (r.toNat:Int)=c)=true;rw[Int.toNat_of_nonneg (inR hr).1,e3];simp
    omega
 rcases claim m with z|z
 ·exact z
 ·have:=cnt_le (m:=m) (f:=A m);omega
noncomputable def bfs(tie:Int→Int→Bool)(left:Li):Nat→Li→Li→Li
 |0,r,_=>r
 |f+1,r,w=>match w.getLast? with
  |none=>r
  |some h=>bfs tie left f (r++left.filter λp=> !r.contains p&&tie h p) (w.dropLast++left.filter λp=> !r.contains p&&tie h p)
theorem b5K'{w:Li}{h p:Int}(e:w.getLast? =some h):p∈w↔p∈w.dropLast∨p=h:=by
 have hw:w≠[]:=λz=>by rw[z]at e;cases e
 have e2:w.getLast hw=h:=by rw[List.getLast?_eq_some_getLast hw]at e;exact Z6 e
 rw[←e2]
 conv=>lhs;rw[←List.dropLast_concat_getLast hw]
 simp
theorem b1O'{R:Int→Int→Prop}{tie:Int→Int→Bool}{left:Li}(hn:left.Nodup)(hR:∀a b,a∈left→(R a b↔b∈left∧tie a b=true)){st:Int}:
  ∀(f:Nat) (r w:Li),r.Nodup→w.Nodup→(∀p∈r,p∈left∧Con R st p)→(∀p∈w,p∈r)→(∀p∈r,p∉w→∀q,R p q→q∈r)→st∈r→w.length+left.length<f+r.length→
  (bfs tie left f r w).Nodup∧∀p,p∈bfs tie left f r w↔Con R st p
 |0,r,w,n1,_,h2,_,_,_,hf=>by have:r.length≤left.length:=n1.length_le_of_subset λp hp=>(h2 p hp).1;omega
 |f+1,r,w,n1,n2,h2,h3,h4,hs,hf=>by
  unfold bfs;cases e:w.getLast? with
  |none=>
   have hw:w=[]:=List.getLast?_eq_none_iff.mp e;subst hw;refine⟨n1,λp=>⟨λhp=>(h2 p hp).2,λhp=>?_⟩⟩
   induction hp with
   |refl=>exact hs
   |step _ rr ih=>exact h4 _ ih (by simp) _ rr
  |some h=>
   have ml:=λp=>b5K' (p:=p) e;have hh:h∈r:=h3 h ((ml h).mpr (.inr rfl));have hhl:=(h2 h hh).1;have hw:w≠[]:=λz=>by rw[z]at e;cases e
   have hwl:0<w.length:=List.length_pos_iff.mpr hw
   let fr:=left.filter λp=> !r.contains p&&tie h p
   have mf:∀p,p∈fr↔p∈left∧p∉r∧tie h p=true:=λp=>by simp[fr]
   have nf:fr.Nodup:=hn.sublist ZK
   have nd:h∉w.dropLast:=by
    intro z;have:=n2;rw[←List.dropLast_concat_getLast hw]at this;have e2:w.getLast hw=h:=by rw[List.getLast?_eq_some_getLast hw]at e;exact Z6 e
    rw[e2]at this;exact(Z2.mp this).2.2 h z h (by simp) rfl
   refine b1O' hn hR f (r++fr) (w.dropLast++fr) ?_ ?_ ?_ ?_ ?_ ?_ ?_
   ·exact Z2.mpr ⟨n1,nf,λa ha b hb z=>by subst z;exact((mf a).mp hb).2.1 ha⟩
   ·refine Z2.mpr ⟨n2.sublist (List.dropLast_sublist _),nf,λa ha b hb z=>?_⟩;subst z;exact((mf a).mp hb).2.1 (h3 a ((ml a).mpr (.inl ha)))
   ·intro p hp;rcases Zs.mp hp with z|z
    ·exact h2 p z
    ·obtain⟨z1,z2,z3⟩:=(mf p).mp z;exact⟨z1,(h2 h hh).2.step ((hR h p hhl).mpr ⟨z1,z3⟩)⟩
   ·intro p hp;rcases Zs.mp hp with z|z
    ·exact ZG _ (h3 p ((ml p).mpr (.inl z)))
    ·exact Zz _ z
   ·intro p hp hpw q hq;rcases Zs.mp hp with z|z
    ·by_cases hw2:p∈w
     ·rcases(ml p).mp hw2 with y|y
      ·exact absurd (ZG _ y) hpw
      ·subst y;obtain⟨q1,q2⟩:=(hR p q hhl).mp hq;by_cases hqr:q∈r
       ·exact ZG _ hqr
       ·exact Zz _ ((mf q).mpr ⟨q1,hqr,q2⟩)
     ·exact ZG _ (h4 p z hw2 q hq)
    ·exact absurd (Zz _ z) hpw
   ·exact ZG _ hs
   ·simp only[Zp,List.length_dropLast];omega
theorem bfs_all{R:Int→Int→Prop}(hn:left.Nodup)(hR:∀a b,a∈left→(R a b↔b∈left∧tie a b=true)){st:Int}(hs:st∈left){f:Nat}(hf:left.length<f):
  (bfs tie left f [st] [st]).Nodup∧∀p,p∈bfs tie left f [st] [st]↔Con R st p:=
 b1O' hn hR f [st] [st] (by simp) (by simp) (λp hp=>have e:p=st:=(by simpa using hp);⟨e▸hs,e▸.refl _⟩) (λp hp=>hp) (λp hp hw=>absurd hp hw) (by simp) (by simp;omega)
theorem a2I':∀{l k:Li},l.Pairwise (· < ·)→k.Pairwise (· < ·)→(∀p,p∈l↔p∈k)→l=k
 | [],[],_,_,_=>rfl
 | [],y::k,_,_,h=>absurd ((h y).mpr Zb) (by simp)
 |x::l,[],_,_,h=>absurd ((h x).mp Zb) (by simp)
 |x::l,y::k,hl,hk,h=>by
  obtain⟨l1,l2⟩:=ZM.mp hl;obtain⟨k1,k2⟩:=ZM.mp hk
  have e:x=y:=by
   rcases Zj.mp ((h x).mp Zb)with z|z
   ·exact z
   ·rcases Zj.mp ((h y).mpr Zb)with w|w
    ·exact w.symm
    ·have:=k1 x z;have:=l1 y w;omega
  subst e;rw[a2I' l2 k2 λp=>⟨λhp=>?_,λhp=>?_⟩]
  ·rcases Zj.mp ((h p).mp (Zc _ hp))with z|z
   ·have:=l1 p hp;omega
   ·exact z
  ·rcases Zj.mp ((h p).mpr (Zc _ hp))with z|z
   ·have:=k1 p hp;omega
   ·exact z
open K50
theorem b1P'{P:Int→Prop}(h0:∀p,P p→0≤p):∀(n:Nat) (p:Int),P p→p.toNat≤n→∃c,P c∧c≤p∧∀q,P q→c≤q
 |0,p,hp,hn=>⟨p,hp,by omega,λq hq=>by have:=h0 p hp;have:=h0 q hq;omega⟩
 |n+1,p,hp,hn=>by
  by_cases h:∀q,P q→p≤q
  ·exact⟨p,hp,by omega,h⟩
  ·obtain⟨q,hq⟩:=Classical.not_forall.mp h;obtain⟨hq1,hq2⟩:=Classical.not_imp.mp hq;have:=h0 q hq1;obtain⟨c,c1,c2,c3⟩:=b1P' h0 n q hq1 (by omega);exact⟨c,c1,by omega,c3⟩
theorem a0v':(a0t' lo n).Pairwise (· < ·):=by
 induction n generalizing lo with
 |zero=>exact .nil
 |succ n ih=>unfold a0t';exact ZM.mpr ⟨λx hx=>by have:=a1c' hx;omega,ih⟩
theorem a1s'{x:Int}:x∈a0t' lo n↔lo≤x∧x<lo+n:=by
 refine⟨a1c',λh=>?_⟩
 induction n generalizing lo with
 |zero=>omega
 |succ n ih=>
  unfold a0t';by_cases e:x=lo
  ·subst e;exact Zb
  ·exact Zc _ (ih (by omega))
theorem b5L'{m:Nat}{p:Int}(h0:0≤p)(h1:p<m):nm (a0t' 0 m) p=p:=by
 have key:∀(n:Nat) (lo:Int) (i:Nat),i<n→(a0t' lo n)[i]?=some (lo+i):=by
  intro n
  induction n with
  |zero=>intro lo i h;omega
  |succ n ih=>
   intro lo i h;unfold a0t';cases i with
   |zero=>simp
   |succ i=>rw[Zh,ih (lo+1) i (by omega)];congr 1;omega
 unfold nm;rw[ZZ,key m 0 p.toNat (by omega)];show(0:Int)+(p.toNat:Int)=p;omega
section
variable {m:Nat}
def fin(so:Li)(ts:Lq)(m:Nat):Li:=a0X' so ts m (a0t' 0 m)
theorem a1Z'(hT:a3e' m ts){p:Int}(h0:0≤p)(h1:p<m)(h:Con (Adj ts so) p q):0≤q∧q<m:=by
 cases h with
 |refl=>exact⟨h0,h1⟩
 |step _ r=>
  rcases r.1 with r|r
  ·have:=hT _ r;dsimp only at this;omega
  ·have:=hT _ r;dsimp only at this;omega
theorem b5M'{p:Int}(hp:p∉so)(h:Con (Adj ts so) p q):q∉so:=by
 cases h with
 |refl=>exact hp
 |step _ r=>exact r.2.2
theorem a3f'(hT:a3e' m ts){p:Int}(h0:0≤p)(h1:p<m):Con (Adj ts so) p (nm (fin so ts m) p)∧∀q,Con (Adj ts so) p q→nm (fin so ts m) p≤q:=by obtain⟨c,c1,c2,c3⟩:=b1P' (P:=Con (Adj ts so) p) (λq hq=>(a1Z' hT h0 h1 hq).1) p.toNat p (.refl _) (Zi _);have hc:=a1Z' hT h0 h1 c1;have e:nm (fin so ts m) p=c:=a7Y' hT a0e' (λq q0 q1=>b5L' q0 q1) hc.1 hc.2 (λq hq=>c3 q (c1.trans hq)) p (c1.symm Adj.symm);rw[e];exact⟨c1,c3⟩
theorem b3B'(hT:a3e' m ts){p:Int}(h0:0≤p)(h1:p<m)(g0:0≤q)(g1:q<m):nm (fin so ts m) p=nm (fin so ts m) q↔Con (Adj ts so) p q:=by
 obtain⟨a1,a2⟩:=a3f' (so:=so) hT h0 h1;obtain⟨b1,b2⟩:=a3f' (so:=so) hT g0 g1;refine⟨λe=>?_,λh=>?_⟩
 ·rw[e]at a1;exact a1.trans (b1.symm Adj.symm)
 ·have:=a2 _ (h.trans b1);have:=b2 _ ((h.symm Adj.symm).trans a1);omega
theorem b5N'(hT:a3e' m ts){p:Int}(h0:0≤p)(h1:p<m):nm (fin so ts m) (nm (fin so ts m) p)=nm (fin so ts m) p:=by obtain⟨a1,a2⟩:=a3f' (so:=so) hT h0 h1;have hr:=a1Z' hT h0 h1 a1;exact((b3B' hT h0 h1 hr.1 hr.2).mpr a1).symm
theorem fin_le(hT:a3e' m ts){p:Int}(h0:0≤p)(h1:p<m):nm (fin so ts m) p≤p:=(a3f' (so:=so) hT h0 h1).2 p (.refl _)
noncomputable def chain(so:Li)(ts:Lq)(m:Nat)(c:Int):Li:=(a0t' 0 m).filter λp=>decide (nm (fin so ts m) p=c)&& !so.contains p
theorem a2a'{c p:Int}:p∈chain so ts m c↔(0≤p∧p<m)∧nm (fin so ts m) p=c∧p∉so:=by unfold chain;rw[Zn,a1s'];simp
theorem b5O'(hT:a3e' m ts){c:Int}(h0:0≤c)(h1:c<m):chain so ts m c≠[]↔c∉so∧nm (fin so ts m) c=c:=by
 refine⟨λh=>?_,λ⟨h2,h3⟩ z=>?_⟩
 ·obtain⟨p,hp⟩:=List.exists_mem_of_ne_nil _ h;obtain⟨⟨p0,p1⟩,e,hs⟩:=a2a'.mp hp;have a:=(a3f' (so:=so) hT p0 p1).1;have b:=b5N' (so:=so) hT p0 p1;rw[e]at a b;exact⟨b5M' hs a,b⟩
 ·have:c∈chain so ts m c:=a2a'.mpr ⟨⟨h0,h1⟩,h3,h2⟩;rw[z]at this;cases this
theorem a5c'{c:Int}:(chain so ts m c).Pairwise (· < ·):=a0v'.sublist ZK
theorem b1Q'(hT:a3e' m ts){c:Int}(h0:0≤c)(h1:c<m)(hs:c∉so)(hc:nm (fin so ts m) c=c)(hl:l.Pairwise (· < ·))(hm:∀p,p∈l↔Con (Adj ts so) c p):l=chain so ts m c:=by
 refine a2I' hl a5c' λp=>?_;rw[hm,a2a'];refine⟨λh=>?_,λ⟨⟨p0,p1⟩,e,_⟩=>?_⟩
 ·have hr:=a1Z' hT h0 h1 h;refine⟨hr,?_,b5M' hs h⟩;rw[←(b3B' hT h0 h1 hr.1 hr.2).mpr h,hc]
 ·refine(b3B' hT h0 h1 p0 p1).mp ?_;rw[e,hc]
theorem b1R'(hT:a3e' m ts){p:Int}(h0:0≤p)(h1:p<m)(hs:p∉so):(∃c,(0≤c∧c<p)∧p∈chain so ts m c)↔nm (fin so ts m) p≠p:=by
 refine⟨λ⟨c,hc,hp⟩=>?_,λh=>?_⟩
 ·obtain⟨_,e,_⟩:=a2a'.mp hp;omega
 ·have:=fin_le (so:=so) hT h0 h1;have a:=a1Z' hT h0 h1 (a3f' (so:=so) hT h0 h1).1;exact⟨nm (fin so ts m) p,by omega,a2a'.mpr ⟨⟨h0,h1⟩,rfl,hs⟩⟩
end
end Pc
namespace K50
theorem b3C'(hS:Flat S)(a b:Int):a6l' [.int a,.int b] S=.ok (tieD (min a b,max a b)) S:=by
 refine a0z' rfl ?_ rfl hS rfl;have h1:a5V' [.int a,.int b] S=.ok (.int (min a b)) S:=by simp[a5V',minD];split<;>omega
 have h2:a6G' [.int a,.int b] S=.ok (.int (max a b)) S:=by simp[a6G',maxD];split<;>omega
 simp[b1y',b1x',denSs,denS,den,denL,Res.bind,Res.noErr,bltD,h1,h2,tieD]
noncomputable def tied(ts:Lq)(a b:Int):Bool:=decide ((min a b,max a b)∈ts)
theorem a5M'(hS:Flat S)(m:Int)(ts:Lq)(a b:Int):a1m' [webD m ts,.int a,.int b] S=.ok (.bl (tied ts a b)) S:=by refine a0z' rfl ?_ rfl hS rfl;have h1:=b3C' hS a b;have h2:idxD (webD m ts) (.int 1) S=.ok (.tup (tiesD ts)) S:=rfl;have h3:=K50.in_ties S (min a b,max a b) ts;simp[a7a',a6Z',denSs,denS,den,denL,Res.bind,Res.noErr,a3N',h1,h2,cmpD,h3,boolR,tied]
noncomputable def nearI(m:Int)(ts:Lq)(p:Int):Li:=(K50.a0t' 0 m.toNat).filter λq=>tied ts p q
theorem a7Z'(hS:Flat S)(hl:so.length≤100)(h1:∀p∈so,0≤p∧p<m)(h2:so.Pairwise (· < ·)):a4z' [webD m ts,.tup (so.map D.int)] S=.ok (.bl true) S:=by
 refine a0z' rfl ?_ rfl hS rfl;have hi:idxD (webD m ts) (.int 0) S=.ok (.int m) S:=rfl;have a1:a0C' [.int m,.tup (so.map D.int)] S=.ok (.bl true) S:=K50.a2V' hS (by omega) h1
 have a2:a0r' [.tup (so.map D.int)] S=.ok (.bl true) S:=K50.a3U' hS (by simp;omega) λi x y e1 e2=>by
  rw[ZW]at e1 e2;cases f1:so[i]? with
  |none=>rw[f1]at e1;cases e1
  |some a=>
   cases f2:so[i+1]? with
   |none=>rw[f2]at e2;cases e2
   |some b=>rw[f1]at e1;rw[f2]at e2;cases e1;cases e2;obtain⟨g1,rfl⟩:=Zl.mp f1;obtain⟨g2,rfl⟩:=Zl.mp f2;show some (decide (so[i]<so[i+1]))=some true;rw[ZR (List.pairwise_iff_getElem.mp h2 i (i+1) g1 g2 (by omega))]
 simp[a8R',a8Q',denSs,denS,den,denL,Res.bind,Res.noErr,onBl,a2S',a3a',hi,a1,a2]
theorem a4r'(hS:Flat S)(hl:so.length≤100)(h1:∀p∈so,0≤p∧p<m)(h2:so.Pairwise (· < ·)):a1i' [webD m ts,.tup (so.map D.int)] S=.ok .non S:=by refine b1H' (ρ:=[some (webD m ts),some (.tup (so.map D.int))]) rfl ?_ rfl hS;simp[a3v',a3u',denSs,denS,denT,den,denL,Res.bind,a2h',a7Z' hS hl h1 h2,truD]
noncomputable def insN(x:Int):Li→Li
 | []=>[x]
 |y::ys=>if x<y then x::y::ys else y::insN x ys
def sortN(l:Li):Li:=l.foldl (λacc x=>insN x acc) []
theorem b1S'(x:Int):∀l:Li,insB (ltK .int) (.int x) (l.map D.int)=(insN x l).map D.int
 | []=>rfl
 |y::ys=>by
  have e:insN x (y::ys)=if x<y then x::y::ys else y::insN x ys:=rfl;show(if decide (x<y)=true then D.int x::D.int y::ys.map D.int else D.int y::insB (ltK .int) (.int x) (ys.map D.int))=_;rw[b1S' x ys,e];by_cases h:x<y
  ·rw[ZR h,if_pos rfl,if_pos h];rfl
  ·rw[ZO h,if_neg Ya,if_neg h];rfl
theorem a7v':∀(l acc:Li),(l.map D.int).foldl (λacc x=>insB (ltK .int) x acc) (acc.map D.int)=(l.foldl (λacc x=>insN x acc) acc).map D.int
 | [],acc=>rfl
 |x::l,acc=>by show(l.map D.int).foldl (λacc x=>insB (ltK .int) x acc) (insB (ltK .int) (.int x) (acc.map D.int))=_;rw[b1S',a7v' l];rfl
theorem a4B'(x:Int):∀l,(insN x l).Perm (x::l)
 | []=>.refl _
 |y::ys=>by
  unfold insN;split
  ·exact .refl _
  ·exact((a4B' x ys).cons y).trans (.swap x y ys)
theorem a5N':∀(l acc:Li),(l.foldl (λacc x=>insN x acc) acc).Perm (l++acc)
 | [],acc=>.refl _
 |x::l,acc=>(a5N' l (insN x acc)).trans (((a4B' x acc).append_left l).trans List.perm_middle)
theorem a1d'(l:Li):(sortN l).Perm l:=by have:=a5N' l [];rw[Yd]at this;exact this
theorem a5O'(x:Int):∀l,l.Pairwise (· < ·)→x∉l→(insN x l).Pairwise (· < ·)
 | [],_,_=>List.pairwise_singleton _ _
 |y::ys,h,n=>by
  obtain⟨h1,h2⟩:=ZM.mp h;unfold insN;by_cases e:x<y
  ·rw[if_pos e];refine ZM.mpr ⟨λz hz=>?_,h⟩;rcases Zj.mp hz with rfl|hz
   ·exact e
   ·have:=h1 z hz;omega
  ·rw[if_neg e];refine ZM.mpr ⟨λz hz=>?_,a5O' x ys h2 λz=>n (Zc _ z)⟩;rcases Zj.mp ((a4B' x ys).mem_iff.mp hz)with rfl|hz
   ·have:z≠y:=λq=>n (by subst q;exact Zb);omega
   ·exact h1 z hz
theorem a4k':∀(l acc:Li),acc.Pairwise (· < ·)→(l++acc).Nodup→(l.foldl (λacc x=>insN x acc) acc).Pairwise (· < ·)
 | [],acc,h,_=>h
 |x::l,acc,h,n=>by have n':(x::(l++acc)).Nodup:=n;obtain⟨n1,n2⟩:=List.nodup_cons.mp n';refine a4k' l (insN x acc) (a5O' x acc h λz=>n1 (Zz _ z)) ?_;exact(((a4B' x acc).append_left l).trans List.perm_middle).nodup_iff.mpr n'
theorem a2b'(h:l.Nodup):(sortN l).Pairwise (· < ·):=a4k' l [] .nil (by simpa using h)
theorem a3g'(hd:seqOf S d=some (l.map D.int))(hl:l.length<64):a2d' false .int [d] S=.ok (.lst ((sortN l).map D.int)) S:=by
 have e1:(l.map D.int).all (hasTy .int)=true:=by rw[ZQ];intro x hx;obtain⟨t,_,rfl⟩:=Zy.mp hx;rfl
 unfold a2d';simp only[hd];rw[if_pos ⟨e1,by simp;omega,rfl⟩,show a4G' (ltK .int) (l.map D.int)=(sortN l).map D.int from a7v' l []];rfl
theorem a9b'(W:Web m ts){p:Int}(hp:0≤p∧p<m):nearI m ts p=sortN ((ts.filter (K50.hasP p)).map λt=>t.1+t.2-p):=by
 have hnd:ts.Nodup:=W.ris.imp λ{a b} h e=>by subst e;unfold lexlt at h;omega
 refine Pc.a2I' (Pc.a0v'.sublist ZK) (a2b' ?_) λq=>?_
 ·have h1:(ts.filter (K50.hasP p)).Nodup:=hnd.sublist ZK;have h2:(ts.filter (K50.hasP p)).Pairwise λa b=>a.1+a.2-p≠b.1+b.2-p:=by refine List.Pairwise.imp_of_mem (λ{a b} ha hb hne e=>hne ?_) h1;have a1:=(Zn.mp ha).2;have b1:=(Zn.mp hb).2;have a2:=W.tie a (Zn.mp ha).1;have b2:=W.tie b (Zn.mp hb).1;simp only[K50.hasP,Z0]at a1 b1;exact Prod.ext (by omega) (by omega)
  exact Z7.mpr h2
 ·rw[(a1d' _).mem_iff,Zy];unfold nearI;rw[Zn,Pc.a1s'];have w1:=W.lo;refine⟨λ⟨hr,ht⟩=>?_,λ⟨t,ht,e⟩=>?_⟩
  ·have ht':(min p q,max p q)∈ts:=by simpa[tied]using ht
   refine⟨(min p q,max p q),Zn.mpr ⟨ht',?_⟩,?_⟩
   ·simp only[K50.hasP,Z0];omega
   ·dsimp only;omega
  ·obtain⟨h1,h2⟩:=Zn.mp ht;have h3:=W.tie t h1;simp only[K50.hasP,Z0]at h2;refine⟨by omega,?_⟩;have:(min p q,max p q)=t:=Prod.ext (by dsimp only;omega) (by dsimp only;omega);simp[tied,this,h1]
theorem a5P'(hd:seqOf S d=some (l.map D.int))(q:Int):inD (.int q) d S=some (decide (q∈l)):=by
 unfold inD;simp only[hd];rw[Z3];have e2:((λy=>eqF S deep y (.int q))∘D.int)=λu=>some (u==q):=by funext u;exact K50.b1G' S 39 u q
 rw[e2,K50.a7R'];congr 1;clear e2 hd
 induction l with
 |nil=>rfl
 |cons u us ih=>
  rw[List.any_cons,ih];by_cases h:u=q
  ·subst h;simp
  ·have h':¬q=u:=λz=>h z.symm;have:(u==q)=false:=by simpa using h
   rw[this];by_cases h2:q∈us<;>simp[h',h2]
noncomputable def a9V':List CS:=[.asg 5 (.meth .pop (.var 4) []),.asg 6 (.comp false ["place","reached","web","here"] [none,some 3,some 0,some 5] (.var 0) (.seq (.var 1)) [.band (.cmp .NotIn (.var 0) (.var 1)) (.call "have_tie" [.var 2,.var 3,.var 0])] (.emit (.var 0))),.expr (.meth .extend (.var 3) [.var 6]),.expr (.meth .extend (.var 4) [.var 6])]
theorem po_iter(hS:Flat S){r w:Li}{h:Int}{st:D}(hl:left.length≤100)(hr:r.length≤1000)(hwl:w.length≤1000)(hw:w.getLast? =some h):
  denSs a0n' G0 a9V' [some (webD m ts),some (.lst (left.map D.int)),some st,some (.ref S.length),some (.ref (S.length+1)),x5,x6] (S++[r.map D.int,w.map D.int])=
   .ok (.next [some (webD m ts),some (.lst (left.map D.int)),some st,some (.ref S.length),some (.ref (S.length+1)),some (.int h),some (.lst ((left.filter λp=> !r.contains p&&tied ts h p).map D.int))])
    (S++[(r++left.filter λp=> !r.contains p&&tied ts h p).map D.int,(w.dropLast++left.filter λp=> !r.contains p&&tied ts h p).map D.int]):=by
 have hpop:b3U' (.ref (S.length+1)) [] (S++[r.map D.int,w.map D.int])=.ok (.int h) (S++[r.map D.int,w.dropLast.map D.int]):=by
  show popD (.ref (S.length+1)) [] (S++[r.map D.int,w.map D.int])=_;unfold popD;simp only[box1];have e:(w.map D.int)[(w.map D.int).length-1]?=some (.int h):=by rw[ZW,Zm];rw[List.getLast?_eq_getElem?]at hw;rw[hw];rfl
  rw[e];simp only[set1,List.map_dropLast]
 unfold a9V';rw[a0s' (d:=.int h) (S':=S++[r.map D.int,w.dropLast.map D.int]) (by simp[den,denL,Res.bind,Res.noErr,methD,hpop])];simp only[ZD,ZC];have hF:Flat (S++[r.map D.int,w.dropLast.map D.int]):=flat2 hS (K50.a1F' _) (K50.a1F' _)
 have hcomp:den a0n' G0 (.comp false ["place","reached","web","here"] [none,some 3,some 0,some 5] (.var 0) (.seq (.var 1)) [.band (.cmp .NotIn (.var 0) (.var 1)) (.call "have_tie" [.var 2,.var 3,.var 0])] (.emit (.var 0))) [some (webD m ts),some (.lst (left.map D.int)),some st,some (.ref S.length),some (.ref (S.length+1)),some (.int h),x6] (S++[r.map D.int,w.dropLast.map D.int])=
   .ok (.lst ((left.filter λp=> !r.contains p&&tied ts h p).map D.int)) (S++[r.map D.int,w.dropLast.map D.int]):=by
  refine a0K' (its:=.items (left.map D.int)) (S1:=S++[r.map D.int,w.dropLast.map D.int]) (by simp[denI,den,Res.bind,a0P']) ?_;refine a0f' (f:=D.int) (e:=D.int) (p:=λp=> !r.contains p&&tied ts h p) (λp hp acc ha=>?_) (by unfold big;omega);have ha':acc.length<16777216:=ha;have h3:=a5M' hF m ts h p
  have h4:inD (.int p) (.ref S.length) (S++[r.map D.int,w.dropLast.map D.int])=some (r.contains p):=by rw[a5P' (l:=r) (by show(S++[r.map D.int,w.dropLast.map D.int])[S.length]?=_;exact box0)];simp
  generalize S++[r.map D.int,w.dropLast.map D.int]=T at h3 h4;cases e1:r.contains p<;>cases e2:tied ts h p<;>rw[e1]at h4<;>rw[e2]at h3<;>simp[a0h',isNew,slots,a4F',asgCT,asgVs,denTs,denT,denB,den,denL,Res.bind,Res.noErr,onBl,cmpD,h4,boolR,a3b',h3,truD,ha']
 rw[a0s' hcomp];simp only[ZD,ZC];generalize hfr:(left.filter λp=> !r.contains p&&tied ts h p)=fr;have hfl:fr.length≤100:=by rw[←hfr];exact ZP (ZF _ _) hl
 have x1:a4a' (.ref S.length) [.lst (fr.map D.int)] (S++[r.map D.int,w.dropLast.map D.int])=.ok .non (S++[(r++fr).map D.int,w.dropLast.map D.int]):=by unfold a4a';simp only[box0,Py.a3i',Zm];rw[if_pos (by unfold big;omega),set0,List.map_append]
 have x2:a4a' (.ref (S.length+1)) [.lst (fr.map D.int)] (S++[(r++fr).map D.int,w.dropLast.map D.int])=.ok .non (S++[(r++fr).map D.int,(w.dropLast++fr).map D.int]):=by unfold a4a';simp only[box1,Py.a3i',Zm,List.length_dropLast];rw[if_pos (by unfold big;omega),set1,←List.map_append]
 rw[a0k' (ρ':=[some (webD m ts),some (.lst (left.map D.int)),some st,some (.ref S.length),some (.ref (S.length+1)),some (.int h),some (.lst (fr.map D.int))]) (S':=S++[(r++fr).map D.int,w.dropLast.map D.int]) (by simp only[denS,den,denL,Res.bind,Res.noErr,methD,Zh,Zg,x1])];rw[a0k' (ρ':=[some (webD m ts),some (.lst (left.map D.int)),some st,some (.ref S.length),some (.ref (S.length+1)),some (.int h),some (.lst (fr.map D.int))]) (S':=S++[(r++fr).map D.int,(w.dropLast++fr).map D.int]) (by simp only[denS,den,denL,Res.bind,Res.noErr,methD,Zh,Zg,x2])];rw[denSs]
theorem b1T'{S:Store}(hS:Flat S){m:Int}{ts:Lq}{left:Li}{st:D}(hl:left.length≤100)(hn:left.Nodup):∀(f:Nat) (r w:Li) (x5 x6:Option D),r.Nodup→(∀p∈r,p∈left)→w.Nodup→(∀p∈w,p∈r)→w.length+left.length<f+r.length→
  ∃y5 y6,a3J' (denT a0n' G0 (.var 4)) (denSs a0n' G0 a9V') f [some (webD m ts),some (.lst (left.map D.int)),some st,some (.ref S.length),some (.ref (S.length+1)),x5,x6] (S++[r.map D.int,w.map D.int])=
   .ok (.next [some (webD m ts),some (.lst (left.map D.int)),some st,some (.ref S.length),some (.ref (S.length+1)),y5,y6]) (S++[(Pc.bfs (tied ts) left f r w).map D.int,[]])
 |0,r,w,x5,x6,n1,s1,_,_,hf=>by have:r.length≤left.length:=n1.length_le_of_subset s1;omega
 |f+1,r,w,x5,x6,n1,s1,n2,s2,hf=>by
  have hrl:r.length≤left.length:=n1.length_le_of_subset s1;have hwl:w.length≤r.length:=n2.length_le_of_subset s2
  have hc:denT a0n' G0 (.var 4) [some (webD m ts),some (.lst (left.map D.int)),some st,some (.ref S.length),some (.ref (S.length+1)),x5,x6] (S++[r.map D.int,w.map D.int])=.ok (!w.isEmpty) (S++[r.map D.int,w.map D.int]):=by
   have e:truD (S++[r.map D.int,w.map D.int]) (.ref (S.length+1))=some (!w.isEmpty):=by show((S++[r.map D.int,w.map D.int])[S.length+1]?).map (λxs=> !xs.isEmpty)=_;rw[box1];cases w<;>rfl
   simp only[denT,Zh,Zg,e]
  unfold a3J';rw[hc];cases e:w.getLast? with
  |none=>have hw:w=[]:=List.getLast?_eq_none_iff.mp e;subst hw;refine⟨x5,x6,?_⟩;unfold Pc.bfs;rfl
  |some h=>
   have hw:w≠[]:=λz=>by rw[z]at e;cases e
   have he:(!w.isEmpty)=true:=by cases w with
    |nil=>exact absurd rfl hw
    |cons a b=>rfl
   have hi:=po_iter (m:=m) (ts:=ts) (x5:=x5) (x6:=x6) (st:=st) (left:=left) (r:=r) (w:=w) hS hl (by omega) (by omega) e;have mf:∀p,p∈(left.filter λp=> !r.contains p&&tied ts h p)↔p∈left∧p∉r∧tied ts h p=true:=λp=>by simp
   have nf:(left.filter λp=> !r.contains p&&tied ts h p).Nodup:=hn.sublist ZK;have hwl2:0<w.length:=List.length_pos_iff.mpr hw
   obtain⟨y5,y6,e2⟩:=b1T' (m:=m) (ts:=ts) (st:=st) hS hl hn f (r++left.filter λp=> !r.contains p&&tied ts h p) (w.dropLast++left.filter λp=> !r.contains p&&tied ts h p) (some (.int h)) (some (.lst ((left.filter λp=> !r.contains p&&tied ts h p).map D.int)))
    (Z2.mpr ⟨n1,nf,λa ha b hb z=>by subst z;exact((mf a).mp hb).2.1 ha⟩)
    (λp hp=>by
     rcases Zs.mp hp with z|z
     ·exact s1 p z
     ·exact((mf p).mp z).1)
    (Z2.mpr ⟨n2.sublist (List.dropLast_sublist _),nf,λa ha b hb z=>by subst z;exact((mf a).mp hb).2.1 (s2 a ((List.dropLast_sublist _).subset ha))⟩)
    (λp hp=>by
     rcases Zs.mp hp with z|z
     ·exact ZG _ (s2 p ((List.dropLast_sublist _).subset z))
     ·exact Zz _ z)
    (by simp only[Zp,List.length_dropLast];omega)
   refine⟨y5,y6,?_⟩;rw[he]
   show(Res.bind (denSs a0n' G0 a9V' [some (webD m ts),some (.lst (left.map D.int)),some st,some (.ref S.length),some (.ref (S.length+1)),x5,x6] (S++[r.map D.int,w.map D.int])) λf' S'=>match f' with
    | .next ρ'=>a3J' (denT a0n' G0 (.var 4)) (denSs a0n' G0 a9V') f ρ' S'
    | .cont ρ'=>a3J' (denT a0n' G0 (.var 4)) (denSs a0n' G0 a9V') f ρ' S'
    | .brk ρ'=>.ok (.next ρ') S'
    | .ret d=>.ok (.ret d) S')=_
   rw[hi]
   have eb:Pc.bfs (tied ts) left (f+1) r w=Pc.bfs (tied ts) left f (r++left.filter λp=> !r.contains p&&tied ts h p) (w.dropLast++left.filter λp=> !r.contains p&&tied ts h p):=by
    show(match w.getLast? with
     |none=>r
     |some h=>Pc.bfs (tied ts) left f (r++left.filter λp=> !r.contains p&&tied ts h p) (w.dropLast++left.filter λp=> !r.contains p&&tied ts h p))=_
    rw[e]
   rw[eb];exact e2
theorem a9W'(hS:Flat S){p:Int}(hl:left.length≤60)(hn:left.Nodup)(hp:p∈left)(hb:(Pc.bfs (tied ts) left 100 [p] [p]).length<64):a2w' [webD m ts,.lst (left.map D.int),.int p] S=.ok (.tup ((sortN (Pc.bfs (tied ts) left 100 [p] [p])).map D.int)) S:=by
 obtain⟨y5,y6,e⟩:=b1T' (m:=m) (ts:=ts) (st:=.int p) hS (show left.length≤100 by omega) hn 100 [p] [p] none none (by simp) (λq hq=>(show q=p by simpa using hq)▸hp) (by simp) (λq hq=>hq) (by simp;omega)
 have hd:denSs a0n' G0 a2v' [some (webD m ts),some (.lst (left.map D.int)),some (.int p),none,none,none,none] S=.ok (.ret (.tup ((sortN (Pc.bfs (tied ts) left 100 [p] [p])).map D.int))) (S++[(Pc.bfs (tied ts) left 100 [p] [p]).map D.int,[]]):=by
  unfold a2v';rw[a0s' (d:=.ref S.length) (S':=S++[[.int p]]) (by simp[den,denL,Res.bind])];rw[a0s' (d:=.ref (S.length+1)) (S':=S++[[.int p],[.int p]]) (by simp[den,denL,Res.bind])];simp only[ZD,ZC];refine(a0k' (ρ':=[some (webD m ts),some (.lst (left.map D.int)),some (.int p),some (.ref S.length),some (.ref (S.length+1)),y5,y6]) (S':=S++[(Pc.bfs (tied ts) left 100 [p] [p]).map D.int,[]]) ?_).trans ?_
  ·rw[denS];exact e
  ·refine a2k' (a9U' (a0S' (a0S' (den_v rfl) (a3g' (l:=Pc.bfs (tied ts) left 100 [p] [p]) ?_ hb)) rfl));exact box0
 show runD a0n' G0 a2v' a4R'.length 3 [webD m ts,.lst (left.map D.int),.int p] S=_;unfold runD;rw[if_pos (show [webD m ts,D.lst (left.map D.int),D.int p].length=3 from rfl)];rw[show denSs a0n' G0 a2v' ([webD m ts,D.lst (left.map D.int),D.int p].map some++List.replicate (a4R'.length-3) none) S=_ from hd];have ht:(S++[(Pc.bfs (tied ts) left 100 [p] [p]).map D.int,[]]).take S.length=S:=by simp
 have:=K50.a3G' (k:=S.length) (d:=.tup ((sortN (Pc.bfs (tied ts) left 100 [p] [p])).map D.int)) (S':=S++[(Pc.bfs (tied ts) left 100 [p] [p]).map D.int,[]]) (by rw[ht];exact hS) (K50.a1F' _);rw[ht]at this;exact this
open Pc
theorem a8a'{f:α→D}{g:α→Bool}{step:D→List D→Store→Res (List D)}{cs:List α}(hk:S[k]?=some (cs.map f))(hl:cs.length≤1000)(hs:∀c∈cs,∀acc,acc.length<big→step (f c) acc S=.ok (acc++[.bl (g c)]) S):
  compB step (a2g' k) ((cs.map f).length+1) 0 [] S=.ok (cs.map λc=>D.bl (g c)) S:=by
 rcases K50.a8Y' hk (step:=step) (λx hx acc ha=>by
   obtain⟨c,hc,rfl⟩:=Zy.mp hx;have:=hs c hc acc ha;cases e:g c<;>rw[e]at this
   ·exact .inr this
   ·exact .inl this) ((cs.map f).length+1) 0 [] (by omega) (by omega)with z|z
 ·rw[List.drop_zero]at z;refine Eq.trans z ?_;refine Eq.trans (a0f' (xs:=cs) (f:=f) (p:=λ_=>true) (e:=λc=>D.bl (g c)) (λx hx acc ha=>Eq.trans (hs x hx acc ha) rfl) (by unfold big;omega)) ?_;rw[List.filter_eq_self.mpr (λ_ _=>rfl)]
 ·unfold big at z;simp at z;omega
theorem b1U'{cs:List α}{g:α→Bool}:anyD [.lst (cs.map λo=>D.bl (g o))] S=.ok (.bl (cs.any g)) S:=by unfold anyD;simp only[seqOf];rw[Z3];rw[show anyO (cs.map (asB∘λo=>D.bl (g o)))=some (cs.any g)from K50.a7R'];rfl
noncomputable def leftI(so:Li)(m:Nat):Li:=(a0t' 0 m).filter λp=> !so.contains p
noncomputable def own(so:Li)(ts:Lq)(m:Nat)(c:Int):Bool:=decide (nm (fin so ts m) c=c)
noncomputable def chD(so:Li)(ts:Lq)(m:Nat)(c:Int):D:=.tup ((chain so ts m c).map D.int)
noncomputable def pcs(so:Li)(ts:Lq)(m:Nat)(l:Li):List D:=(l.filter (own so ts m)).map (chD so ts m)
theorem b4m'(so:Li)(ts:Lq)(m:Nat)(l:Li):lowL 0 (pcs so ts m l)=true:=by
 unfold pcs
 induction l.filter (own so ts m)with
 |nil=>rfl
 |cons c cs ih=>show(lowD 0 (chD so ts m c)&&lowL 0 (cs.map (chD so ts m)))=true;rw[ih,Bool.and_true];exact K50.a1F' _
theorem a9X'(W:Web m ts):a3e' m.toNat ts:=λt ht=>by have:=W.tie t ht;have:=W.lo;omega
theorem a0L'{m:Nat}{p:Int}:p∈leftI so m↔(0≤p∧p<m)∧p∉so:=by unfold leftI;rw[Zn,a1s'];simp
theorem b4n'(W:Web m ts)(a b:Int)(ha:a∈leftI so m.toNat):Adj ts so a b↔b∈leftI so m.toNat∧tied ts a b=true:=by
 have hm:=W.lo;unfold Adj tied;rw[a0L']at ha⊢;simp only[Z0];refine⟨λ⟨h,_,hb⟩=>?_,λ⟨⟨hb,hs⟩,h⟩=>⟨?_,ha.2,hs⟩⟩
 ·rcases h with h|h
  ·have t:=W.tie _ h;dsimp only at t;refine⟨⟨by omega,hb⟩,?_⟩;rw[show min a b=a by omega,show max a b=b by omega];exact h
  ·have t:=W.tie _ h;dsimp only at t;refine⟨⟨by omega,hb⟩,?_⟩;rw[show min a b=b by omega,show max a b=a by omega];exact h
 ·have t:=W.tie _ h;dsimp only at t;by_cases hlt:a<b
  ·left;rw[show min a b=a by omega,show max a b=b by omega]at h;exact h
  ·right;rw[show min a b=b by omega,show max a b=a by omega]at h;exact h
theorem a9Y'(W:Web m ts){p:Int}(hp:p∈leftI so m.toNat)(ho:own so ts m.toNat p=true)(hS:Flat S):a2w' [webD m ts,.lst ((leftI so m.toNat).map D.int),.int p] S=.ok (chD so ts m.toNat p) S:=by
 have hn:(leftI so m.toNat).Nodup:=K50.a5b'.sublist ZK;have hll:(leftI so m.toNat).length≤8:=by have:=ZF (λp=> !so.contains p) (a0t' 0 m.toNat);rw[K50.a0e']at this;have:=W.hi;unfold leftI;omega
 obtain⟨b1,b2⟩:=bfs_all hn (R:=Adj ts so) (tie:=tied ts) (λa b ha=>b4n' W a b ha) hp (f:=100) (by omega);have hp':=a0L'.mp hp
 have hsub:(bfs (tied ts) (leftI so m.toNat) 100 [p] [p]).length≤(a0t' 0 m.toNat).length:=b1.length_le_of_subset λq hq=>by rw[a1s'];have:=a1Z' (a9X' W) hp'.1.1 hp'.1.2 ((b2 q).mp hq);omega
 rw[K50.a0e']at hsub;have hm:=W.hi;rw[a9W' hS (by omega) hn hp (by omega)];have e:=b1Q' (a9X' W) hp'.1.1 hp'.1.2 hp'.2 (by simpa[own]using ho) (a2b' b1) (λq=>by rw[(a1d' _).mem_iff];exact b2 q);rw[e];rfl
theorem boxE{A:List D}:(S++[A])[S.length]?=some A:=by rw[Zv (Zi _)];simp
theorem setE{A B:List D}:(S++[A]).set S.length B=S++[B]:=by rw[List.set_append_right _ _ (Zi _)];simp
theorem b1V'{A:List D}(hl:ds.length=np)(h:denSs Φ Γ body (ds.map some++List.replicate (n-np) none) S=.ok (.ret (.ref S.length)) (S++[A]))(hS:Flat S)(hA:lowL 0 A=true):runD Φ Γ body n np ds S=.ok (.ref S.length) (S++[A]):=by unfold runD;rw[if_pos hl,h];show trim S.length (.ref S.length) _=_;unfold trim;rw[List.take_left' rfl,if_pos hS.all,if_neg (by unfold lowD;simp)];simp only[boxE];rw[if_pos ⟨K50.a1x' A hA,Zi _⟩]
noncomputable def pwAny:CE:=.comp false ["piece","place"] [none,some 4] (.var 0) (.seq (.var 3)) [] (.emit (.cmp .In (.var 1) (.var 0)))
noncomputable def b5P':List CS:=[.ite (.bnot (.blt .any [pwAny])) [.expr (.meth .append (.var 3) [.call "piece_of" [.var 0,.var 2,.var 4]])] []]
theorem pw_any{m:Int}{d0 d1 d2:D}{p:Int}(hl:l.length≤100):den a0d' G0 pwAny [some d0,some d1,some d2,some (.ref S.length),some (.int p)] (S++[pcs so ts k l])=
  .ok (.lst ((l.filter (own so ts k)).map λc=>D.bl (decide (p∈chain so ts k c)))) (S++[pcs so ts k l]):=by
 refine a0K' (its:=.live ((pcs so ts k l).length+1) (a2g' S.length)) (S1:=S++[pcs so ts k l]) ?_ ?_
 ·simp only[denI,den,Res.bind,Zh,Zg,a0P',boxE];rfl
 ·have hL:=ZF (own so ts k) l;simp only[compI];unfold pcs;refine a8a' (S:=S++[(l.filter (own so ts k)).map (chD so ts k)]) (k:=S.length) (cs:=l.filter (own so ts k)) (f:=chD so ts k) (g:=λc=>decide (p∈chain so ts k c)) boxE (by omega) λc hc acc ha=>?_;generalize S++[(l.filter (own so ts k)).map (chD so ts k)]=T;have ha':acc.length<16777216:=ha;have hin:inD (.int p) (chD so ts k c) T=some (decide (p∈chain so ts k c)):=a5P' rfl p;simp[a0h',isNew,slots,a4F',asgCT,asgVs,denTs,denB,den,Res.bind,Res.noErr,cmpD,hin,boolR,ha']
theorem b4o'{S:Store}(hS:Flat S){m:Int}{ts:Lq}(W:Web m ts){so:Li}{d1:D}:∀(rest done:Li),leftI so m.toNat=done++rest→∀x4:Option D,∃y4,
  forD (λx ρ S=>match asgCT (.var 4) x ρ with
   |some ρ'=>denSs a0d' G0 b5P' ρ' S
   |none=>.fail) (rest.map D.int) [some (webD m ts),some d1,some (.lst ((leftI so m.toNat).map D.int)),some (.ref S.length),x4] (S++[pcs so ts m.toNat done])=
  .ok (.next [some (webD m ts),some d1,some (.lst ((leftI so m.toNat).map D.int)),some (.ref S.length),y4]) (S++[pcs so ts m.toNat (done++rest)])
 | [],done,_,x4=>⟨x4,by rw[Yd];rfl⟩
 |p::rest,done,hl,x4=>by
  have hris:(leftI so m.toNat).Pairwise (· < ·):=a0v'.sublist ZK;have hpl:p∈leftI so m.toNat:=by rw[hl];simp
  obtain⟨⟨p0,p1⟩,ps⟩:=a0L'.mp hpl;have hT:=a9X' W
  have hlen:(leftI so m.toNat).length≤8:=by have:=ZF (λp=> !so.contains p) (a0t' 0 m.toNat);rw[K50.a0e']at this;have:=W.hi;unfold leftI;omega
  have hdl:done.length≤100:=by have:=congrArg List.length hl;simp at this;omega
  have hany:((done.filter (own so ts m.toNat)).any λc=>decide (p∈chain so ts m.toNat c))= !own so ts m.toNat p:=by
   rw[Bool.eq_iff_iff];rw[List.any_eq_true];have key:=b1R' (so:=so) hT p0 p1 ps;have e1:(!own so ts m.toNat p)=true↔nm (fin so ts m.toNat) p≠p:=by simp[own]
   rw[e1,←key];refine⟨λ⟨c,hc,hq⟩=>?_,λ⟨c,⟨c0,c1⟩,hq⟩=>?_⟩
   ·obtain⟨hc1,hc2⟩:=Zn.mp hc;have hcl:c∈leftI so m.toNat:=by rw[hl];exact ZG _ hc1
    refine⟨c,⟨(a0L'.mp hcl).1.1,?_⟩,by simpa using hq⟩;rw[hl]at hris;exact(ZH.mp hris).2.2 c hc1 p Zb
   ·have hne:chain so ts m.toNat c≠[]:=λz=>by rw[z]at hq;cases hq
    obtain⟨cs,cn⟩:=(b5O' hT c0 (by omega)).mp hne;have hcl:c∈leftI so m.toNat:=a0L'.mpr ⟨⟨c0,by omega⟩,cs⟩;rw[hl]at hcl hris
    have hcd:c∈done:=by
     rcases Zs.mp hcl with z|z
     ·exact z
     ·rcases Zj.mp z with z|z
      ·omega
      ·have:=(ZM.mp (ZH.mp hris).2.1).1 c z;omega
    exact⟨c,Zn.mpr ⟨hcd,by simp[own,cn]⟩,by simpa using hq⟩
  have hF:Flat (S++[pcs so ts m.toNat done]):=hS.snoc (b4m' _ _ _ _);have hA:=pw_any (S:=S) (m:=m) (ts:=ts) (so:=so) (l:=done) (k:=m.toNat) (d0:=webD m ts) (d1:=d1) (d2:=.lst ((leftI so m.toNat).map D.int)) (p:=p) hdl
  have hc:denT a0d' G0 (.bnot (.blt .any [pwAny])) [some (webD m ts),some d1,some (.lst ((leftI so m.toNat).map D.int)),some (.ref S.length),some (.int p)] (S++[pcs so ts m.toNat done])=.ok (own so ts m.toNat p) (S++[pcs so ts m.toNat done]):=by
   have hall:bltD .any [.lst ((done.filter (own so ts m.toNat)).map λc=>D.bl (decide (p∈chain so ts m.toNat c)))] (S++[pcs so ts m.toNat done])=.ok (.bl (!own so ts m.toNat p)) (S++[pcs so ts m.toNat done]):=by rw[←hany];exact b1U'
   revert hA;generalize pwAny=E;intro hA;simp[denT,denL,hA,Res.bind,Res.noErr,hall,truD]
  have hbody:denSs a0d' G0 b5P' [some (webD m ts),some d1,some (.lst ((leftI so m.toNat).map D.int)),some (.ref S.length),some (.int p)] (S++[pcs so ts m.toNat done])=.ok (.next [some (webD m ts),some d1,some (.lst ((leftI so m.toNat).map D.int)),some (.ref S.length),some (.int p)]) (S++[pcs so ts m.toNat (done++[p])]):=by
   unfold b5P';refine(a0k' ?_).trans rfl;rw[a5t' hc];cases ho:own so ts m.toNat p with
   |true=>
    rw[if_pos rfl];have hpc:=a9Y' W hpl ho hF
    have hap:a3k' (.ref S.length) [chD so ts m.toNat p] (S++[pcs so ts m.toNat done])=.ok .non (S++[pcs so ts m.toNat (done++[p])]):=by have hL:=ZF (own so ts m.toNat) done;unfold a3k';simp only[boxE];rw[if_pos (by unfold big pcs;simp;omega),setE];unfold pcs;simp[List.filter_append,ho]
    simp[denSs,denS,den,denL,Res.bind,Res.noErr,methD,a1C',hpc,hap]
   |false=>
    rw[if_neg Ya];have e:pcs so ts m.toNat (done++[p])=pcs so ts m.toNat done:=by unfold pcs;simp[List.filter_append,ho]
    rw[e,denSs]
  obtain⟨y4,e2⟩:=b4o' hS W (d1:=d1) rest (done++[p]) (by rw[hl];simp) (some (.int p));refine⟨y4,?_⟩;simp only[ZE];unfold forD;simp only[asgCT,asgVs,ZD,ZC];rw[hbody];rw[Zu]at e2;exact e2
theorem a4s'(hS:Flat S)(W:Web m ts)(hl:so.length≤100)(h1:∀p∈so,0≤p∧p<m)(h2:so.Pairwise (· < ·)):
  a0D' [webD m ts,.tup (so.map D.int)] S=.ok (.ref S.length) (S++[pcs so ts m.toNat (leftI so m.toNat)]):=by
 refine b1V' rfl ?_ hS (b4m' _ _ _ _);have a1:a0u' [webD m ts] S=.ok .non S:=K50.a2H' hS W;have a2:=a4r' (ts:=ts) hS hl h1 h2;have w1:=W.lo;have w2:=W.hi;unfold a2y';refine(a0k' (ρ':=[some (webD m ts),some (.tup (so.map D.int)),none,none,none]) (S':=S) (by simp[a2x',denS,den,denL,Res.bind,a1j',a1])).trans ?_;refine(a0k' (ρ':=[some (webD m ts),some (.tup (so.map D.int)),none,none,none]) (S':=S) (by simp[denS,den,denL,Res.bind,a1e',a2])).trans ?_;have hi:idxD (webD m ts) (.int 0) S=.ok (.int m) S:=rfl
 have hr:denI a0d' G0 (.range [.idx (.var 0) (.lit (.int 0))]) [some (webD m ts),some (.tup (so.map D.int)),none,none,none] S=.ok (.items ((a0t' 0 m.toNat).map D.int)) S:=by simp[denI,denL,den,Res.bind,Res.noErr,hi,K50.a1N'];omega
 have hcomp:den a0d' G0 (.comp false ["place","some"] [none,some 1] (.var 0) (.range [.idx (.var 0) (.lit (.int 0))]) [.cmp .NotIn (.var 0) (.var 1)] (.emit (.var 0))) [some (webD m ts),some (.tup (so.map D.int)),none,none,none] S=.ok (.lst ((leftI so m.toNat).map D.int)) S:=by refine a0K' hr ?_;refine a0f' (f:=D.int) (e:=D.int) (p:=λp=> !so.contains p) (λp hp acc ha=>?_) (by rw[K50.a0e'];unfold big;omega);have ha':acc.length<16777216:=ha;have hin:inD (.int p) (.tup (so.map D.int)) S=some (decide (p∈so)):=a5P' rfl p;by_cases e:p∈so<;>simp[a0h',isNew,slots,a4F',asgCT,asgVs,denTs,denT,denB,den,Res.bind,Res.noErr,onBl,cmpD,hin,boolR,e,ha']
 rw[a0s' hcomp];rw[a0s' (d:=.ref S.length) (S':=S++[[]]) (by simp[den,denL,Res.bind])];simp only[ZD,ZC];obtain⟨y4,e⟩:=b4o' hS W (so:=so) (d1:=.tup (so.map D.int)) (leftI so m.toNat) [] rfl none;refine(a0k' (ρ':=[some (webD m ts),some (.tup (so.map D.int)),some (.lst ((leftI so m.toNat).map D.int)),some (.ref S.length),y4]) (S':=S++[pcs so ts m.toNat (leftI so m.toNat)]) ?_).trans rfl;rw[a6t' (its:=.items ((leftI so m.toNat).map D.int)) (S1:=S++[[]]) (by simp[denI,den,Res.bind,a0P'])];exact e
def tupI(l:Li):D:=.tup (l.map D.int)
theorem a8b'{step:D→Rho→Store→Res Fl}(J:Rho→Store→Prop):∀(xs:List D),(∀x∈xs,∀ρ S,J ρ S→∃ρ' S',J ρ' S'∧step x ρ S=.ok (.next ρ') S')→∀ρ S,J ρ S→∃ρ' S',J ρ' S'∧forD step xs ρ S=.ok (.next ρ') S'
 | [],_,ρ,S,j=>⟨ρ,S,j,rfl⟩
 |x::xs,h,ρ,S,j=>by obtain⟨ρ1,S1,j1,e1⟩:=h x Zb ρ S j;obtain⟨ρ2,S2,j2,e2⟩:=a8b' J xs (λy hy=>h y (Zc _ hy)) ρ1 S1 j1;refine⟨ρ2,S2,j2,?_⟩;unfold forD;rw[e1];exact e2
theorem pcs_tup(so:Li)(ts:Lq)(m:Nat)(l:Li):pcs so ts m l=((l.filter (own so ts m)).map (chain so ts m)).map tupI:=by unfold pcs;rw[Z3];rfl
theorem b1W'{A:List D}(hA:A.length<big):a3k' (.ref T.length) [d] (T++[A])=.ok .non (T++[A++[d]]):=by unfold a3k';simp only[boxE];rw[if_pos hA,setE]
theorem b5Q'{A:List D}(h:lowL 0 A=true):lowL 0 (A++[.tup []])=true:=by
 induction A with
 |nil=>rfl
 |cons x A ih=>show(lowD 0 x&&lowL 0 (A++[.tup []]))=true;have h':(lowD 0 x&&lowL 0 A)=true:=h;rw[ZA]at h'⊢;exact⟨h'.1,ih h'.2⟩
end K50
namespace K50
def pD(p:List Ti):D:=.tup (tiesD p)
theorem a9c'(x:Int):∀p:List Ti,(mateI p x).isNone=freeP p x
 | []=>rfl
 |t::p=>by
  have ih:=a9c' x p;unfold mateI freeP;rw[List.all_cons];unfold freeP at ih;by_cases h1:x=t.1
  ·simp[h1]
  ·by_cases h2:x=t.2
   ·rw[if_neg h1,if_pos h2];simp[h2]
   ·rw[if_neg h1,if_neg h2,ih];simp[h1,h2]
noncomputable def apIn:CE:=.comp false ["tie","pairing","found"] [none,none,some 1] (.var 0) (.seq (.var 3)) [] (.inner (.var 1) (.seq (.var 2)) [.cmp .Is (.call "mate_of" [.var 1,.idx (.var 0) (.lit (.int 1))]) (.lit (.non))] (.emit (.bin .Add (.tup [.var 0]) (.var 1))))
noncomputable def apTs:CE:=.comp false ["tie","place"] [none,some 2] (.var 0) (.seq (.idx (.var 0) (.lit (.int 1)))) [.cmp .Eq (.idx (.var 0) (.lit (.int 0))) (.var 1)] (.emit (.var 0))
noncomputable def b5R':List CS:=[.asg 3 apTs,.asg 1 (.bin .Add (.var 1) apIn)]
theorem ap_ts{a:Int}{ts:List Ti}{x1:Option D}(hl:ts.length≤28):den a0i' G0 apTs [some (webD m ts),x1,some (.int a),x3] S=.ok (.lst (tiesD (ts.filter λt=>decide (t.1=a)))) S:=by
 have h1:idxD (webD m ts) (.int 1) S=.ok (.tup (tiesD ts)) S:=rfl;simp[apTs,den,denI,denL,Res.bind,Res.noErr,a0P',compI,h1];unfold tiesD;rw[a0f' (f:=tieD) (p:=λt=>decide (t.1=a)) (e:=tieD)]
 ·intro t ht acc ha;have ha':acc.length<16777216:=ha;have h2:idxD (tieD t) (.int 0) S=.ok (.int t.1) S:=rfl;have h3:cmpD .Eq (.int t.1) (.int a) S=.ok (.bl (decide (t.1=a))) S:=rfl;have ha1:a0h' (.var 0) (tieD t) [none,some (.int a)]=some [some (tieD t),some (.int a)]:=rfl;cases e:decide (t.1=a)<;>rw[e]at h3<;>simp[ha1,denTs,denT,denB,den,denL,Res.bind,h2,h3,Res.noErr,onBl,ha']
 ·unfold big;omega
theorem a2c':∀F:List (List Ti),lowL 0 (F.map pD)=true
 | []=>rfl
 |p::F=>by rw[ZE];unfold lowL;rw[a2c' F,Bool.and_true];exact K50.a6s' p
theorem ap_in(hS:Flat S){a:Int}{ts:List Ti}{F:List (List Ti)}{T:List Ti}(hT:T.length≤28)(hF:F.length≤65536)(hB:∀p∈F,p.length≤1000):den a0i' G0 apIn [some (webD m ts),some (.lst (F.map pD)),some (.int a),some (.lst (tiesD T))] S=.ok (.lst ((T.flatMap λt=>(F.filter λp=>freeP p t.2).map (t:: ·)).map pD)) S:=by
 simp[apIn,den,denI,denL,denTs,Res.bind,Res.noErr,a0P',compI];unfold tiesD;rw[a4Z' (f:=tieD) (c:=F.length) (g:=λt=>(F.filter λp=>freeP p t.2).map λp=>pD (t::p))]
 ·simp[List.map_flatMap,Function.comp_def]
 ·intro t;simp only[Zm];exact ZF _ _
 ·intro t ht acc ha;have ha1:a0h' (.var 0) (tieD t) [none,none,some (.lst (F.map pD))]=some [some (tieD t),none,some (.lst (F.map pD))]:=rfl;simp[ha1,denB,denI,den,Res.bind,a0P',compI];rw[a1y' (f:=pD) (p:=λp=>freeP p t.2) (e:=λp=>pD (t::p))]
  ·intro p hp acc ha;have ha':acc.length<16777216:=ha;have ha2:a0h' (.var 1) (pD p) [some (tieD t),none,some (.lst (F.map pD))]=some [some (tieD t),some (pD p),some (.lst (F.map pD))]:=rfl;have h2:idxD (tieD t) (.int 1) S=.ok (.int t.2) S:=rfl;have h3:a1R' [pD p,.int t.2] S=.ok (optD (mateI p t.2)) S:=K50.a7o' hS p t.2
   have h4:cmpD .Is (optD (mateI p t.2)) .non S=.ok (.bl (freeP p t.2)) S:=by rw[←a9c'];cases mateI p t.2<;>rfl
   have h5:opD .Add (.tup [tieD t]) (pD p) S=.ok (pD (t::p)) S:=by
    have hb:=hB p hp;have:(tiesD p).length=p.length:=by unfold tiesD;simp
    have e1:opD .Add (.tup [tieD t]) (.tup (tiesD p)) S=if [tieD t].length+(tiesD p).length≤big then .ok (.tup ([tieD t]++tiesD p)) S else .fail:=by simp only[opD,addD]
    unfold pD;rw[e1,if_pos (by rw[this];unfold big;simp;omega)];rfl
   cases e:freeP p t.2<;>rw[e]at h4<;>simp[ha2,denTs,denT,denB,den,denL,Res.bind,h2,h3,h4,h5,a2i',Res.noErr,onBl,ha']
  ·exact ha
 ·have:F.length*T.length≤65536*28:=Nat.mul_le_mul hF hT;unfold big;simp;omega
theorem b1X'{hi:Int}:∀(l:Li) (lo:Int),l.Pairwise (· < ·)→(∀x∈l,lo≤x∧x<hi)→l.length≤(hi-lo).toNat
 | [],_,_,_=>Nat.zero_le _
 |x::l,lo,hp,h=>by rw[ZM]at hp;have h1:=h x Zb;have:=b1X' l (x+1) hp.2 λy hy=>⟨by have:=hp.1 y hy;omega,(h y (Zc _ hy)).2⟩;rw[Zw];omega
theorem at_len{ts:List Ti}(W:Web m ts)(a:Int)(ha:a<8):(ts.filter λt=>decide (t.1=a)).length≤(7-a).toNat:=by
 have w:=W.hi
 have:=b1X' (hi:=8) ((ts.filter λt=>decide (t.1=a)).map (·.2)) (a+1) (by
  rw[Z7];refine List.Pairwise.imp_of_mem (λ{s t} hs ht h=>?_) (List.Pairwise.filter _ W.ris);have e1:s.1=a:=by simpa using(Zn.mp hs).2
  have e2:t.1=a:=by simpa using(Zn.mp ht).2
  rcases h with h|h
  ·omega
  ·exact h.2) λx hx=>by
  obtain⟨t,ht,rfl⟩:=Zy.mp hx;obtain⟨ht,e⟩:=Zn.mp ht;have e:t.1=a:=by simpa using e
  have:=W.tie t ht;omega
 rw[Zm]at this;omega
theorem b1Y'{α β:Type}{f:α→List β}{c:Nat}(h:∀x,(f x).length≤c):∀l:List α,(l.flatMap f).length≤l.length*c
 | []=>by simp
 |x::l=>by have:=b1Y' h l;have:=h x;rw[List.flatMap_cons,Zp,Zw,Nat.add_mul];omega
theorem a8c'{ts:List Ti}(W:Web m ts)(a:Int)(ha:a<8)(F:List (List Ti)):(a1G' ts a F).length≤F.length*((7-a).toNat+1):=by unfold a1G';rw[Zp];have h1:=b1Y' (f:=λt:Ti=>(F.filter λp=>freeP p t.2).map (t:: ·)) (c:=F.length) (λt=>by rw[Zm];exact ZF _ _) (ts.filter λt=>decide (t.1=a));have h2:=Nat.mul_le_mul_right F.length (at_len W a ha);rw[Nat.mul_add,Nat.mul_one,Nat.mul_comm F.length];omega
def fact:Nat→Nat
 |0=>1
 |n+1=>fact n*(n+1)
theorem b4p'(h:n≤8):fact n≤40320:=by
 have:∀n<9,fact n≤40320:=by decide+kernel
 exact this n (by omega)
theorem a9d'{ts:List Ti}(W:Web m ts):ts.Nodup:=W.ris.imp λh z=>by subst z;rcases h with h|h<;>omega
theorem b1Z'{ts p:List Ti}(W:Web m ts)(c:Chn ts p):p.length≤8:=by
 have w:=W.hi;have:=b1X' (hi:=8) (p.map (·.1)) 0 (by rw[Z7];exact c.2.imp λh=>h.1) λx hx=>by obtain⟨t,ht,rfl⟩:=Zy.mp hx;have:=W.tie t (c.1 t ht);omega
 rw[Zm]at this;omega
theorem ap_turn(hS:Flat S){ts:List Ti}(W:Web m ts)(hn:n<8){F:List (List Ti)}(hF:F.length≤40320)(hB:∀p∈F,p.length≤1000):
  denSs a0i' G0 b5R' [some (webD m ts),some (.lst (F.map pD)),some (.int (n:Nat)),x3] S=.ok (.next [some (webD m ts),some (.lst ((a1G' ts n F).map pD)),some (.int (n:Nat)),some (.lst (tiesD (ts.filter λt=>decide (t.1=(n:Int)))))]) S:=by
 have hl:=W.few;have hT:(ts.filter λt=>decide (t.1=(n:Int))).length≤28:=ZP (ZF _ _) hl;have h1:=ap_in hS (m:=m) (a:=n) (ts:=ts) (F:=F) (T:=ts.filter λt=>decide (t.1=(n:Int))) hT (by omega) hB;have hlen:=a8c' W n (by omega) F;have h8:F.length*((7-(n:Int)).toNat+1)≤40320*8:=Nat.mul_le_mul hF (by omega);unfold b5R';rw[a0s' (ap_ts hl)];simp only[ZD,ZC]
 have h2:den a0i' G0 (.bin .Add (.var 1) apIn) [some (webD m ts),some (.lst (F.map pD)),some (.int (n:Nat)),some (.lst (tiesD (ts.filter λt=>decide (t.1=(n:Int)))))] S=.ok (.lst ((a1G' ts n F).map pD)) S:=by
  simp only[den,Zh,Zg,Res.bind,h1];have e:∀A B:List D,A.length+B.length≤big→(opD .Add (.lst A) (.lst B) S).noErr=.ok (.lst (A++B)) S:=λA B h=>by simp[opD,addD,Py.a3i',h,Res.noErr]
  rw[e _ _ (by unfold a1G' at hlen;rw[Zp]at hlen;rw[Zm,Zm];unfold big;omega),←List.map_append];rfl
 rw[a0s' h2];simp only[ZD,ZC];rw[denSs]
theorem b4q'{S:Store}(hS:Flat S){m:Int}{ts:List Ti}(W:Web m ts):∀(n:Nat) (F:List (List Ti)) (x2 x3:Option D),n≤8→DI ts n F→F.length≤fact (8-n)→∃y2 y3,
  forD (λx ρ S=>match asgCT (.var 2) x ρ with
   |some ρ'=>denSs a0i' G0 b5R' ρ' S
   |none=>.fail) (downL n) [some (webD m ts),some (.lst (F.map pD)),x2,x3] S=.ok (.next [some (webD m ts),some (.lst ((a5K' ts n F).map pD)),y2,y3]) S
 |0,F,x2,x3,_,_,_=>⟨x2,x3,rfl⟩
 |n+1,F,x2,x3,hn,hd,hF=>by
  have h8:F.length≤40320:=ZP hF (b4p' (by omega))
  obtain⟨y2,y3,ih⟩:=b4q' hS W n (a1G' ts n F) (some (.int (n:Nat))) (some (.lst (tiesD (ts.filter λt=>decide (t.1=(n:Int)))))) (by omega) (b4l' (a9d' W) hd) (by
   refine ZP (a8c' W n (by omega) F) ?_;have e:8-n=(8-(n+1))+1:=by omega
   have e2:(7-(n:Int)).toNat=8-(n+1):=by omega
   rw[e,fact,e2];exact Nat.mul_le_mul_right _ hF)
  refine⟨y2,y3,?_⟩;unfold downL forD;simp only[asgCT,ZD,ZC];rw[ap_turn hS W (by omega) h8 λp hp=>by have:=b1Z' W ((hd.2 p).mp hp).1;omega];exact ih
noncomputable def sortP(F:List (List Ti)):List D:=a4G' (ltK (.seq (.seq .int))) (F.map pD)
theorem ty_pD(p:List Ti):hasTy (.seq (.seq .int)) (pD p)=true:=by show(tiesD p).all _=true;rw[ZQ];intro x hx;obtain⟨t,_,rfl⟩:=Zy.mp hx;rfl
theorem a8d':∀{l:List D},lowL 0 l=true↔∀x∈l,lowD 0 x=true
 | []=>by simp[lowL]
 |x::l=>by unfold lowL;rw[ZA,a8d' (l:=l)];simp
theorem a9e'(F:List (List Ti)):lowL 0 (sortP F)=true:=a8d'.mpr λx hx=>a8d'.mp (a2c' F) x ((a1I' _ _).mem_iff.mp hx)
theorem a5d'{ts:List Ti}:∀(n:Nat) (F:List (List Ti)),F.head? =some []→(a5K' ts n F).head? =some []
 |0,F,h=>h
 |n+1,F,h=>a5d' n _ (by
  unfold a1G';cases F with
  |nil=>cases h
  |cons a F=>exact h)
theorem a5Q'{m:Int}{ts:List Ti}(W:Web m ts):∀(n:Nat) (F:List (List Ti)),n≤8→F.length≤fact (8-n)→(a5K' ts n F).length≤40320
 |0,F,_,hF=>ZP hF (b4p' (by omega))
 |n+1,F,hn,hF=>a5Q' W n _ (by omega) (by
   refine ZP (a8c' W n (by omega) F) ?_;have e:8-n=(8-(n+1))+1:=by omega
   have e2:(7-(n:Int)).toNat=8-(n+1):=by omega
   rw[e,fact,e2];exact Nat.mul_le_mul_right _ hF)
noncomputable def allP(m:Int)(ts:List Ti):List (List Ti):=a5K' ts m.toNat [[]]
theorem a8e'{ts:List Ti}(W:Web m ts):(allP m ts).length≤40320:=by
 have:=W.hi
 exact a5Q' W m.toNat _ (by omega) (by
  have:∀n<9,1≤fact n:=by decide+kernel
  exact this (8-m.toNat) (by omega))
theorem a9f'{ts:List Ti}(W:Web m ts):DI ts 0 (allP m ts):=a7r' (a9d' W) _ _ (a7s' λt ht=>by have:=W.tie t ht;have:=W.lo;omega)
theorem b2a'{F:List (List Ti)}(hl:F.length<65536)(h0:F.head? =some []∨∀p∈F,p≠[])(box:Bool)(hd:seqOf S d=some (F.map pD)):a2d' box (.seq (.seq .int)) [d] S=if box=true then .ok (.ref S.length) (S++[sortP F])else .ok (.lst (sortP F)) S:=by
 have e1:(F.map pD).all (hasTy (.seq (.seq .int)))=true:=by rw[ZQ];intro x hx;obtain⟨p,_,rfl⟩:=Zy.mp hx;exact ty_pD p
 have e2:a3I' (.seq (.seq .int)) (F.map pD)=true:=by
  show(true&&(((F.map pD).all λd=> !isNil d)||isNil ((F.map pD).headD .non)))=true;rcases h0 with h0|h0
  ·cases F with
   |nil=>cases h0
   |cons a F=>cases h0;simp[pD,tiesD,isNil]
  ·have:((F.map pD).all λd=> !isNil d)=true:=by
    rw[ZQ];intro x hx;obtain⟨p,hp,rfl⟩:=Zy.mp hx;cases p with
    |nil=>exact absurd rfl (h0 _ hp)
    |cons _ _=>rfl
   rw[this];rfl
 unfold a2d';simp only[hd];rw[if_pos ⟨e1,by rw[Zm];exact hl,e2⟩];rfl
theorem a5u'(hS:Flat S){ts:List Ti}(W:Web m ts):a0F' [webD m ts] S=.ok (.ref S.length) (S++[sortP (allP m ts)]):=by
 refine b1V' rfl ?_ hS (a9e' _);have w1:=W.lo;have w2:=W.hi;have hm:a0u' [webD m ts] S=.ok .non S:=K50.a2H' hS W
 obtain⟨y2,y3,hf⟩:=b4q' hS W m.toNat [[]] none none (by omega) (a7s' λt ht=>by have:=W.tie t ht;omega) (by
  have:∀n<9,1≤fact n:=by decide+kernel
  exact this (8-m.toNat) (by omega))
 show denSs a0i' G0 a1S' [some (webD m ts),none,none,none] S=_;unfold a1S';rw[a0k' (ρ':=[some (webD m ts),none,none,none]) (S':=S) (by simp[denS,den,denL,Res.bind,a1u',hm])];rw[a0s' (d:=.lst [pD []]) (S':=S) (by simp[den,denL,Res.bind,pD,tiesD])];simp only[ZD,ZC];have hi:idxD (webD m ts) (.int 0) S=.ok (.int m) S:=rfl
 rw[a0k' (ρ':=[some (webD m ts),some (.lst ((allP m ts).map pD)),y2,y3]) (S':=S) (by
  rw[a6t' (its:=.items (downL m.toNat)) (S1:=S) (by
   have hr:(-4611686018427387904:Int)≤m∧m<4611686018427387904:=by omega
   simp[denI,denL,den,Res.bind,hi,Res.noErr,hr])]
  exact hf)]
 refine a2k' ?_;have hs:=b2a' (S:=S) (F:=allP m ts) (by have:=a8e' W;omega) (.inl (a5d' _ _ rfl)) true (d:=.lst ((allP m ts).map pD)) rfl;rw[if_pos rfl]at hs;simp only[denS,den,denL,Zh,Zg,Res.bind,bltD,hs,Res.noErr]
theorem a9Z'{p:Lq}(W:Web m ts)(h:Chn ts p):Pairing ts p:=by
 obtain⟨h1,h2⟩:=h;refine⟨h2.imp λ{a b} q=>.inl q.1,h1,?_⟩;have h1':∀t∈p,t.1<t.2:=λt ht=>(W.tie t (h1 t ht)).2.1;clear h1
 induction p with
 |nil=>exact .nil
 |cons t p ih=>rw[ZM]at h2;rw[List.flatMap_cons];have ht:=h1' t (by simp);refine Z2.mpr ⟨by simp;omega,ih h2.2 λs hs=>h1' s (by simp[hs]),?_⟩;intro a ha b hb;simp only[Zj,Z1,or_false]at ha;obtain⟨s,hs,hb⟩:=List.mem_flatMap.mp hb;simp only[Zj,Z1,or_false]at hb;have:=h2.1 s hs;have:=h1' s (by simp[hs]);rcases ha with rfl|rfl<;>rcases hb with rfl|rfl<;>omega
end K50
namespace Py
def lexT(s t:Ti):Prop:=s.1<t.1∨(s.1=t.1∧s.2<t.2)
noncomputable def a2W'(t:Ti)(F:List (List Ti)):List (List Ti):=F++(F.filter λp=>freeP p t.1&&freeP p t.2).map (· ++[t])
def TI2(us:List Ti)(F:List (List Ti)):Prop:=F.Nodup∧∀p,p∈F↔Chn us p
theorem b2b'{us:List Ti}{t:Ti}{p:List Ti}(h:Chn us p):Chn (us++[t]) p:=⟨λs hs=>Zs.mpr (.inl (h.1 s hs)),h.2⟩
theorem tie_ok{us:List Ti}{t:Ti}{F:List (List Ti)}(hv:t.1<t.2)(hu:∀s∈us,lexT s t)(h:TI2 us F):TI2 (us++[t]) (a2W' t F):=by
 obtain⟨h1,h2⟩:=h
 have nt:t∉us:=λz=>by
  rcases hu t z with q|q
  ·omega
  ·omega
 have ht:∀{p},Chn us p→t∉p:=λc z=>nt (c.1 t z);unfold a2W';refine⟨?_,λp=>?_⟩
 ·rw[Z2];refine⟨h1,?_,λp hp q hq z=>?_⟩
  ·unfold List.Nodup;rw[Z7];exact(List.Pairwise.filter _ h1).imp λhne z=>hne (List.append_inj_left' z rfl)
  ·subst z;obtain⟨q,hq,rfl⟩:=Zy.mp hq;exact ht ((h2 _).mp hp) (by simp)
 ·rw[Zs];constructor
  ·rintro(hp|hp)
   ·exact b2b' ((h2 p).mp hp)
   ·obtain⟨q,hq,rfl⟩:=Zy.mp hp;obtain⟨hq,hf⟩:=Zn.mp hq;rw[ZA]at hf;have f1:=a1z'.mp hf.1;have f2:=a1z'.mp hf.2;have c:=(h2 q).mp hq;refine b1L'.mpr ⟨by simp,b2b' c,λs hs=>⟨?_,λz=>(f1 s hs).2 z.symm,λz=>(f2 s hs).2 z.symm⟩⟩;have:=(f1 s hs).1;rcases hu s (c.1 s hs)with q|q
    ·exact q
    ·omega
  ·intro c
   have back:∀{q:List Ti},Chn (us++[t]) q→t∉q→Chn us q:=λ{q} c z=>⟨λs hs=>by
    rcases Zs.mp (c.1 s hs)with k|k
    ·exact k
    ·rw[ZN.mp k]at hs;exact absurd hs z,c.2⟩
   rcases List.eq_nil_or_concat p with rfl| ⟨q,s,e⟩
   ·exact .inl ((h2 []).mpr ⟨λs hs=>(by cases hs),.nil⟩)
   ·rw[List.concat_eq_append]at e;subst e;obtain⟨c1,c2,c3⟩:=b1L'.mp c;by_cases e:s=t
    ·subst e;right;have cq:=back c2 λz=>by have:=(c3 s z).1;omega
     refine Zy.mpr ⟨q,Zn.mpr ⟨(h2 q).mpr cq,?_⟩,rfl⟩;rw[ZA,a1z',a1z'];exact⟨λr hr=>⟨by have:=(c3 r hr).1;omega,λz=>(c3 r hr).2.1 z.symm⟩,λr hr=>⟨by have:=(c3 r hr).1;omega,λz=>(c3 r hr).2.2 z.symm⟩⟩
    ·left;refine(h2 _).mpr (back c λz=>?_)
     have hs:s∈us:=by
      rcases Zs.mp c1 with k|k
      ·exact k
      ·exact absurd (ZN.mp k) e
     rcases Zs.mp z with z|z
     ·have:=(c3 t z).1;rcases hu s hs with q|q<;>omega
     ·exact e (ZN.mp z).symm
noncomputable def a5e':List Ti→List (List Ti)→List (List Ti)
 | [],F=>F
 |t::ts,F=>a5e' ts (a2W' t F)
theorem a9g':∀(ts us:List Ti) (F:List (List Ti)),(∀t∈ts,t.1<t.2)→ts.Pairwise lexT→(∀s∈us,∀t∈ts,lexT s t)→TI2 us F→TI2 (us++ts) (a5e' ts F)
 | [],us,F,_,_,_,h=>by rw[Yd];exact h
 |t::ts,us,F,hv,hp,hu,h=>by
  obtain⟨p1,p2⟩:=ZM.mp hp
  have:=a9g' ts (us++[t]) (a2W' t F) (λs hs=>hv s (Zc _ hs)) p2 (λs hs r hr=>by
   rcases Zs.mp hs with hs|hs
   ·exact hu s hs r (Zc _ hr)
   ·rw[ZN.mp hs];exact p1 r hr) (tie_ok (hv t Zb) (λs hs=>hu s hs t Zb) h)
  rw[Zu]at this;exact this
theorem a9h':TI2 [] [[]]:=⟨by simp,λp=>by
 rw[ZN];constructor
 ·rintro rfl;exact⟨λt ht=>(by cases ht),.nil⟩
 ·intro c;cases p with
  |nil=>rfl
  |cons t q=>have:=c.1 t Zb;cases this⟩
theorem a5R':∀(ts:List Ti) (F:List (List Ti)),F.head? =some []→(a5e' ts F).head? =some []
 | [],F,h=>h
 |t::ts,F,h=>by refine a5R' ts _ ?_;unfold a2W';rw[List.head?_append,h];rfl
theorem b0a'(t:Ti)(F:List (List Ti)):F.length≤(a2W' t F).length:=by unfold a2W';rw[Zp];omega
theorem a7w':∀(ts:List Ti) (F:List (List Ti)),F.length≤(a5e' ts F).length
 | [],F=>Zi _
 |t::ts,F=>ZP (b0a' t F) (a7w' ts _)
end Py
namespace K50
section
variable {T A:List (List D)}{a u b:Int}{ts c:List Ti}
end
theorem b3D'{F:List (List Ti)}(h:F.Perm G):sortP F=sortP G:=by
 unfold sortP;refine a4K' rfl (λx hx=>?_) ((a1I' _ _).trans (h.map pD)) (a4J' (lordK (.seq (.seq .int)) rfl) _ λx hx=>?_)
 ·obtain⟨p,_,rfl⟩:=Zy.mp hx;exact ty_pD p
 ·obtain⟨p,_,rfl⟩:=Zy.mp hx;exact ty_pD p
theorem b4r'{α:Type} [DecidableEq α]:∀{l l':List α},l.Nodup→l'.Nodup→(∀x,x∈l↔x∈l')→l.Perm l'
 | [],l',_,_,h=>by
  cases l' with
  |nil=>exact .nil
  |cons x _=>exact absurd ((h x).mpr Zb) (by simp)
 |x::l,l',h1,h2,h=>by
  rw[List.nodup_cons]at h1;have hx:=(h x).mp Zb;refine List.Perm.trans (.cons x (b4r' h1.2 (h2.erase x) λy=>?_)) (List.perm_cons_erase hx).symm;rw[h2.mem_erase_iff,←h y,Zj];constructor
  ·exact λz=>⟨λ(e:y=x)=>h1.1 (by rw[←e];exact z),.inr z⟩
  ·rintro⟨e,z|z⟩
   ·exact absurd z e
   ·exact z
theorem b3E'(F:List (List Ti)):(sortP F).length=F.length:=by unfold sortP;rw[(a1I' _ _).length_eq,Zm]
section
variable {u a r:Int}{ts:List Ti}
end
section
variable {u:Int}{ts:List Ti}
end
theorem a6v':a0F'=K50.a0F':=rfl
theorem b2c':∀{p q:List Ti},tiesD p=tiesD q→p=q
 | [],[],_=>rfl
 | [],_::_,h=>by cases h
 |_::_,[],h=>by cases h
 |s::p,t::q,h=>by
  have h:tieD s::tiesD p=tieD t::tiesD q:=h;injection h with h1 h2
  rw[b2c' h2];unfold tieD at h1;injection h1 with e
  injection e with e1 e2
  injection e2 with e2 _
  injection e1 with e1
  injection e2 with e2
  rw[Prod.ext e1 e2]
theorem b5S'{p q:List Ti}(h:pD p=pD q):p=q:=by
 unfold pD at h;injection h with h
 exact b2c' h
theorem all_pD:∀l:List D,(∀x∈l,∃p:List Ti,x=pD p)→∃G:List (List Ti),l=G.map pD
 | [],_=>⟨[],rfl⟩
 |x::l,h=>by obtain⟨p,rfl⟩:=h x Zb;obtain⟨G,rfl⟩:=all_pD l λy hy=>h y (Zc _ hy);exact⟨p::G,rfl⟩
theorem a7x'(F:List (List Ti)):∃G:List (List Ti),sortP F=G.map pD∧G.length=F.length∧∀p,p∈G↔p∈F:=by
 have hp:(sortP F).Perm (F.map pD):=a1I' _ _;obtain⟨G,e⟩:=all_pD (sortP F) λx hx=>by obtain⟨p,_,rfl⟩:=Zy.mp (hp.mem_iff.mp hx);exact⟨p,rfl⟩
 have hl:=b3E' F;rw[e]at hp;rw[e,Zm]at hl;refine⟨G,e,hl,λp=>?_⟩;have:=hp.mem_iff (a:=pD p);simp only[Zy]at this;constructor
 ·intro h;obtain⟨q,hq,z⟩:=this.mp ⟨p,h,rfl⟩
  rwa [←b5S' z]
 ·intro h;obtain⟨q,hq,z⟩:=this.mpr ⟨p,h,rfl⟩
  rwa [←b5S' z]
theorem a5f'{f e:α→D}{p:α→Bool}{step:D→List D→Store→Res (List D)}{xs:List α}(hk:S[k]?=some (xs.map f))(hs:∀x∈xs,∀acc,acc.length<big→step (f x) acc S=.ok (if p x=true then acc++[e x]else acc) S):∀n i acc,i+n=xs.length→acc.length+n≤big→compB step (a2g' k) (n+1) i acc S=.ok (acc++((xs.drop i).filter p).map e) S:=by
 have hg:∀i,a2g' k S i=some ((xs.map f)[i]?):=λi=>by unfold a2g';rw[hk];rfl
 intro n
 induction n with
 |zero=>intro i acc h _;unfold compB;rw[hg,List.getElem?_eq_none (by rw[Zm];omega),List.drop_eq_nil_of_le (by omega)];simp
 |succ n ih=>
  intro i acc h hb;have hx:(xs.map f)[i]?=some (f xs[i]):=by rw[ZW,Ze (by omega)];rfl
  unfold compB;rw[hg,hx,Z8 (by omega)];dsimp only;rw[hs _ (ZY _) acc (by omega)];refine(ih (i+1) (if p xs[i]=true then acc++[e xs[i]]else acc) (by omega) (by split<;>(try simp only[Zp,Zw,List.length_nil])<;>omega)).trans ?_;cases z:p xs[i]
  ·rw[List.filter_cons_of_neg (by rw[z];decide)];rfl
  ·rw[List.filter_cons_of_pos z,ZE,if_pos rfl,Zu];rfl
theorem b2d'{k:Int}:∀(ns:Li) (n:Int),(∀x∈n::ns,x≤k)→k∈n::ns→ns.foldl max n=k
 | [],n,_,h=>by rw[ZN]at h;exact h.symm
 |x::ns,n,h1,h2=>by
  rw[List.foldl_cons];have hn:=h1 n Zb;have hx:=h1 x (by simp);refine b2d' ns (max n x) (λy hy=>?_) ?_
  ·rcases Zj.mp hy with rfl|hy
   ·omega
   ·exact h1 y (by simp[hy])
  ·rcases Zj.mp h2 with z|h2
   ·exact Zj.mpr (.inl (by omega))
   ·rcases Zj.mp h2 with z|h2
    ·exact Zj.mpr (.inl (by omega))
    ·exact Zc _ h2
theorem a9i':∀ns:Li,intsD (ns.map D.int)=some ns
 | []=>rfl
 |n::ns=>by rw[ZE];unfold intsD;rw[a9i' ns];rfl
structure Most (m:Int)(ts:List Ti)(G:List (List Ti))(k:Nat):Prop where
 is:sortP (allP m ts)=G.map pD
 few:G.length≤40320
 le:∀p∈G,p.length≤k
 at_:∃p∈G,p.length=k
theorem a7y':a2A'=[.asg 1 (.call "all_pairings" [.var 0]),.asg 2 (.blt .max [grL]),.ret grC]:=rfl
noncomputable def topP(G:List (List Ti))(k:Nat):List (List Ti):=G.filter λp=>decide (p.length=k)
theorem b5T'(p:List Ti):lenD [pD p] S=.ok (.int (p.length:Nat)) S:=by
 have:(tiesD p).length=p.length:=by unfold tiesD;rw[Zm]
 show Res.ok (D.int ((tiesD p).length:Nat)) S=_;rw[this]
theorem b2e'{p:List Ti}{acc:List D}(ha:acc.length<big):(match a0h' (.var 0) (pD p) [none,some (.int (k:Int))]with
    |some ρ'=>(denTs Φ Γ [.cmp .Eq (.blt .len [.var 0]) (.var 1)] ρ' S).bind λk S3=>if k=true then denB Φ Γ (.emit (.var 0)) ρ' acc S3 else .ok acc S3
    |none=>.fail)=.ok (if decide (p.length=k)=true then acc++[pD p]else acc) S:=by
 have ha':acc.length<16777216:=ha;have h1:=b5T' (S:=S) p
 have h3:cmpD .Eq (.int ((p.length:Nat):Int)) (.int (k:Int)) S=.ok (.bl (decide (p.length=k))) S:=by have:cmpD .Eq (.int ((p.length:Nat):Int)) (.int (k:Int)) S=.ok (.bl (decide (((p.length:Nat):Int)=(k:Int)))) S:=rfl;rw[this];congr 2;exact decide_eq_decide.mpr (by omega)
 have ha1:a0h' (.var 0) (pD p) [none,some (.int (k:Int))]=some [some (pD p),some (.int (k:Int))]:=rfl;rw[ha1];cases e:decide (p.length=k)<;>rw[e]at h3<;>simp[denTs,denT,denB,den,denL,Res.bind,bltD,h1,h3,Res.noErr,onBl,ha']
theorem b2f'{ts:List Ti}(M:Most m ts G k):bltD .max [.lst (G.map λp=>D.int ((p.length:Nat):Int))] S=.ok (.int (k:Int)) S:=by
 obtain⟨p0,hp0,hk0⟩:=M.at_;have hle:=M.le;have em:(G.map λp=>D.int ((p.length:Nat):Int))=(G.map λp=>((p.length:Nat):Int)).map D.int:=by rw[Z3];rfl
 have h1:(k:Int)∈G.map λp=>((p.length:Nat):Int):=Zy.mpr ⟨p0,hp0,by rw[hk0]⟩;have h2:∀x∈G.map λp=>((p.length:Nat):Int),x≤(k:Int):=λx hx=>by obtain⟨p,hp,rfl⟩:=Zy.mp hx;have:=hle p hp;omega
 rw[em];generalize(G.map λp=>((p.length:Nat):Int))=ns at h1 h2;cases ns with
 |nil=>cases h1
 |cons n ns=>
  have h3:=b2d' ns n h2 h1;have h4:=a9i' (n::ns)
  show(match intsD ((n::ns).map D.int)with
   |some (n::ns)=>Res.ok (D.int (ns.foldl max n)) S
   |_=>.fail)=_
  rw[h4];show Res.ok (D.int (ns.foldl max n)) S=_;rw[h3]
theorem b0b'(hS:Flat S){ts:List Ti}(W:Web m ts)(M:Most m ts G k):a1J' [webD m ts] S=.ok (.ref S.length) (S++[(topP G k).map pD]):=by
 have e1:=K50.a5u' hS W;rw[←a6v',M.is]at e1;have hfew:=M.few;have hS1:Flat (S++[G.map pD]):=hS.snoc (a2c' G)
 have e2:den a0x' G0 grL [some (webD m ts),some (.ref S.length),none] (S++[G.map pD])=.ok (.lst (G.map λp=>D.int ((p.length:Nat):Int))) (S++[G.map pD]):=by
  refine a0K' (its:=.live ((G.map pD).length+1) (a2g' S.length)) (S1:=S++[G.map pD]) (by simp only[denI,den,Zh,Zg,Res.bind,a0P',boxE,Option.getD_some]) ?_
  have:=a5f' (xs:=G) (f:=pD) (p:=λ_=>true) (e:=λp=>D.int ((p.length:Nat):Int)) (S:=S++[G.map pD]) (k:=S.length) (step:=λx acc S2=>match a0h' (.var 0) x [none]with
    |some ρ'=>(denTs a0x' G0 [] ρ' S2).bind λk S3=>if k=true then denB a0x' G0 (.emit (.blt .len [.var 0])) ρ' acc S3 else .ok acc S3
    |none=>.fail) boxE (λp hp acc ha=>by have ha':acc.length<16777216:=ha;have h1:=b5T' (S:=S++[G.map pD]) p;have ha1:a0h' (.var 0) (pD p) [none]=some [some (pD p)]:=rfl;rw[ha1];simp[denTs,denB,den,denL,Res.bind,bltD,h1,Res.noErr,ha']) G.length 0 [] (by simp) (by show 0+G.length≤16777216;omega)
  rw[Z9,List.drop_zero,List.filter_eq_self.mpr (λ_ _=>rfl)]at this;rw[Zm];exact this
 have e3:=b2f' (S:=S++[G.map pD]) M
 have e4:den a0x' G0 grC [some (webD m ts),some (.ref S.length),some (.int (k:Int))] (S++[G.map pD])=.ok (.ref (S.length+1)) (S++[G.map pD]++[(topP G k).map pD]):=by
  have hI:denI a0x' G0 (.seq (.var 1)) [some (webD m ts),some (.ref S.length),some (.int (k:Int))] (S++[G.map pD])=.ok (.live ((G.map pD).length+1) (a2g' S.length)) (S++[G.map pD]):=by simp only[denI,den,Zh,Zg,Res.bind,a0P',boxE,Option.getD_some]
  have:=a5f' (xs:=G) (f:=pD) (p:=λp=>decide (p.length=k)) (e:=pD) (S:=S++[G.map pD]) (k:=S.length) (step:=λx acc S2=>match a0h' (.var 0) x [none,some (.int (k:Int))]with
    |some ρ'=>(denTs a0x' G0 [.cmp .Eq (.blt .len [.var 0]) (.var 1)] ρ' S2).bind λk S3=>if k=true then denB a0x' G0 (.emit (.var 0)) ρ' acc S3 else .ok acc S3
    |none=>.fail) boxE (λp hp acc ha=>b2e' ha) G.length 0 [] (by simp) (by show 0+G.length≤16777216;omega)
  rw[Z9,List.drop_zero]at this;unfold grC;rw[den,hI,Zm];refine Eq.trans (congrArg (λr=>Res.bind (Res.noErr r) (λys S5=>if true=true then Res.ok (D.ref S5.length) (S5++[ys])else Res.ok (.lst ys) S5)) this) ?_;simp[Res.bind,Res.noErr,topP]
 have hd:denSs a0x' G0 a2A' [some (webD m ts),none,none] S=.ok (.ret (.ref (S.length+1))) (S++[G.map pD]++[(topP G k).map pD]):=by rw[a7y'];rw[a0s' (d:=.ref S.length) (S':=S++[G.map pD]) (by simp only[den,denL,Res.bind,Zg,a1T',e1])];simp only[ZD,ZC];rw[a0s' (d:=.int (k:Int)) (S':=S++[G.map pD]) (by rw[den,denL,e2];simp only[denL,Res.bind,e3,Res.noErr])];simp only[ZD,ZC];refine a2k' ?_;rw[denS,e4];rfl
 show runD a0x' G0 a2A' a4S'.length 1 [webD m ts] S=_;have hd':denSs a0x' G0 a2A' (([webD m ts]:List D).map some++List.replicate (a4S'.length-1) none) S=_:=hd;unfold runD;rw[if_pos (show [webD m ts].length=1 from rfl),hd'];show trim S.length (.ref (S.length+1)) (S++[G.map pD]++[(topP G k).map pD])=_;have ht:(S++[G.map pD]++[(topP G k).map pD]).take S.length=S:=by rw[Zu,List.take_left' rfl]
 have hg:(S++[G.map pD]++[(topP G k).map pD])[S.length+1]?=some ((topP G k).map pD):=by rw[Zv (by simp)];simp
 have hl:lowL S.length ((topP G k).map pD)=true:=K50.a1x' _ (a2c' _);unfold trim;rw[ht,if_pos hS.all,if_neg (by unfold lowD;simp)];simp only[hg];rw[if_pos ⟨hl,by omega⟩]
theorem b2g'{l:List α}{f:α→Bool}:anyO (l.map λx=>some (f x))=some (l.any f):=by unfold anyO;rw[Z3];have:allO (l.map ((λo:Option Bool=>o.map not)∘λx=>some (f x)))=some (l.all λx=> !f x):=K50.allO_map (f:=λx=> !f x);rw[this];simp[List.all_eq_not_any_not]
theorem b4s'(x:Int)(s:Ti):cmpD .In (.int x) (tieD s) S=.ok (.bl (!(decide (x≠s.1)&&decide (x≠s.2)))) S:=by
 show boolR (anyO ([s.1,s.2].map λy=>some (y==x))) S=_;rw[b2g'];show Res.ok (D.bl _) S=_;congr 2;rw[Bool.eq_iff_iff];simp only[List.any_cons,List.any_nil,Bool.or_false,Bool.or_eq_true,beq_iff_eq,Yi,Bool.and_eq_false_iff,Z4,Decidable.not_not];constructor
 ·rintro(h|h)
  ·exact .inl h.symm
  ·exact .inr h.symm
 ·rintro(h|h)
  ·exact .inl h.symm
  ·exact .inr h.symm
theorem b3F':a4U'=[.ret (.bnot (.blt .any [frC]))]:=rfl
noncomputable def hitB(t s:Ti):Bool:= !(decide (t.1≠s.1)&&decide (t.1≠s.2))|| !(decide (t.2≠s.1)&&decide (t.2≠s.2))
theorem free_eq(hS:Flat S)(t:Ti)(q:List Ti)(hq:q.length≤1000):a3D' [tieD t,pD q] S=.ok (.bl (freeP q t.1&&freeP q t.2)) S:=by
 refine a0z' rfl ?_ rfl hS rfl;show denSs a2C' G0 a4U' [some (tieD t),some (pD q)] S=_;have h0:idxD (tieD t) (.int 0) S=.ok (.int t.1) S:=rfl;have h1:idxD (tieD t) (.int 1) S=.ok (.int t.2) S:=rfl
 have hc:den a2C' G0 frC [some (tieD t),some (pD q)] S=.ok (.lst (q.map λs=>.bl (hitB t s))) S:=by
  refine a0K' (its:=.items (q.map tieD)) (S1:=S) (by simp[denI,den,Res.bind,a0P',pD,tiesD]) ?_
  have:=a0f' (f:=tieD) (p:=λ_=>true) (e:=λs=>D.bl (hitB t s)) (xs:=q) (S:=S) (step:=λx acc S2=>match a0h' (.var 0) x [none,some (tieD t)]with
    |some ρ'=>(denTs a2C' G0 [] ρ' S2).bind λk S3=>if k=true then denB a2C' G0 (.emit frE) ρ' acc S3 else .ok acc S3
    |none=>.fail) (λs hs acc ha=>by have ha':acc.length<16777216:=ha;have ha1:a0h' (.var 0) (tieD s) [none,some (tieD t)]=some [some (tieD s),some (tieD t)]:=rfl;have i0:=b4s' (S:=S) t.1 s;have i1:=b4s' (S:=S) t.2 s;rw[ha1];unfold hitB;cases e: !(decide (t.1≠s.1)&&decide (t.1≠s.2))<;>rw[e]at i0<;>simp only[frE,denTs,denB,den,denL,Res.bind,h0,h1,i0,i1,Res.noErr,onBl,Zh,Zg,if_true,Bool.false_or,Bool.true_or,ZT,if_false]<;>simp[ha']) (show q.length≤16777216 by omega)
  refine Eq.trans this ?_;rw[List.filter_eq_self.mpr (λ_ _=>rfl)]
 have ha:anyD [.lst (q.map λs=>.bl (hitB t s))] S=.ok (.bl (q.any (hitB t))) S:=by show boolR (anyO ((q.map λs=>D.bl (hitB t s)).map asB)) S=_;rw[Z3];have:(q.map (asB∘λs=>D.bl (hitB t s)))=q.map λs=>some (hitB t s):=rfl;rw[this,b2g'];rfl
 have hb:(!q.any (hitB t))=(freeP q t.1&&freeP q t.2):=by
  rw[Bool.eq_iff_iff,ZA,a1z',a1z'];simp only[Yi,List.any_eq_false,hitB,Bool.or_eq_true,Yi,Bool.and_eq_false_iff,Z4,Decidable.not_not,not_or];constructor
  ·intro h;exact⟨λs hs=>(h s hs).1,λs hs=>(h s hs).2⟩
  ·rintro⟨h1,h2⟩ s hs;exact⟨h1 s hs,h2 s hs⟩
 rw[b3F'];refine a2k' ?_;rw[←hb];rw[denS,den,den,denL,hc];simp[denL,Res.bind,bltD,ha,truD,Res.noErr]
theorem a7z':a1U'=[.asg 1 (.lst false [.tup []]),.for_ (.var 2) (.seq (.idx (.var 0) (.lit (.int 1)))) prB,.ret (.blt (.sorted false (.seq (.seq .int))) [.var 1])]:=rfl
theorem snoc_pD(q:List Ti)(t:Ti)(hq:q.length≤1000):opD .Add (pD q) (.tup [tieD t]) S=.ok (pD (q++[t])) S:=by
 have:(tiesD q).length=q.length:=by unfold tiesD;simp
 have e1:opD .Add (.tup (tiesD q)) (.tup [tieD t]) S=if(tiesD q).length+[tieD t].length≤big then .ok (.tup (tiesD q++[tieD t])) S else .fail:=by simp only[opD,addD]
 unfold pD;rw[e1,if_pos (by rw[this];unfold big;simp;omega)];simp[tiesD]
theorem pr_in(hS:Flat S){F:List (List Ti)}{t:Ti}(hF:F.length≤65536)(hB:∀p∈F,p.length≤1000):den a0j' G0 prC [some W,some (.lst (F.map pD)),some (tieD t)] S=.ok (.lst (((F.filter λp=>freeP p t.1&&freeP p t.2).map (· ++[t])).map pD)) S:=by
 refine a0K' (its:=.items (F.map pD)) (S1:=S) (by simp[denI,den,Res.bind,a0P']) ?_
 have:=a0f' (f:=pD) (p:=λp=>freeP p t.1&&freeP p t.2) (e:=λp=>pD (p++[t])) (xs:=F) (S:=S) (step:=λx acc S2=>match a0h' (.var 0) x [none,some (tieD t)]with
    |some ρ'=>(denTs a0j' G0 [.call "_law_free" [.var 1,.var 0]] ρ' S2).bind λk S3=>if k=true then denB a0j' G0 (.emit (.bin .Add (.var 0) (.tup [.var 1]))) ρ' acc S3 else .ok acc S3
    |none=>.fail) (λp hp acc ha=>by have ha':acc.length<16777216:=ha;have ha1:a0h' (.var 0) (pD p) [none,some (tieD t)]=some [some (pD p),some (tieD t)]:=rfl;have hf:=free_eq hS t p (hB p hp);have ha:=snoc_pD (S:=S) p t (hB p hp);rw[ha1];cases e:freeP p t.1&&freeP p t.2<;>rw[e]at hf<;>simp[denTs,denT,denB,den,denL,Res.bind,a1V',hf,ha,ha',truD,Res.noErr]) (show F.length≤16777216 by omega)
 refine Eq.trans this ?_;rw[Z3];rfl
theorem pr_turn(hS:Flat S){F:List (List Ti)}{t:Ti}(hF:F.length≤65536)(hB:∀p∈F,p.length≤1000):denSs a0j' G0 prB [some W,some (.lst (F.map pD)),some (tieD t)] S=.ok (.next [some W,some (.lst ((a2W' t F).map pD)),some (tieD t)]) S:=by
 have h1:=pr_in hS (W:=W) (t:=t) hF hB;have hl:((F.filter λp=>freeP p t.1&&freeP p t.2).map (· ++[t])).length≤65536:=by rw[Zm];exact ZP (ZF _ _) hF
 unfold a2W';generalize(F.filter λp=>freeP p t.1&&freeP p t.2).map (· ++[t])=G at*;have h2:opD .Add (.lst (F.map pD)) (.lst (G.map pD)) S=.ok (.lst ((F++G).map pD)) S:=by show(if(F.map pD).length+(G.map pD).length≤big then Res.ok (D.lst (F.map pD++G.map pD)) S else .fail)=_;rw[if_pos (by rw[Zm,Zm];show _≤16777216;omega),List.map_append]
 unfold prB;rw[a0s' (d:=.lst ((F++G).map pD)) (S':=S) (by rw[den,den_v' rfl];simp only[Res.bind,h1,h2,Res.noErr])];rfl
where
 den_v' {i:Nat} {d:D} {ρ:Rho} {S:Store} (h:ρ[i]?=some (some d)):den a0j' G0 (.var i) ρ S=.ok d S:=by rw[den,h]
theorem lex_is{s t:Ti}(h:lexlt s t):lexT s t:=h
theorem b4t'{S:Store}(hS:Flat S){m:Int}{all:List Ti}(W:Web m all){w:D}:∀(ts us:List Ti) (F:List (List Ti)) (x2:Option D),us++ts=all→TI2 us F→(a5e' ts F).length≤40320→∃y2,
  forD (λx ρ S=>match asgCT (.var 2) x ρ with
   |some ρ'=>denSs a0j' G0 prB ρ' S
   |none=>.fail) (ts.map tieD) [some w,some (.lst (F.map pD)),x2] S=.ok (.next [some w,some (.lst ((a5e' ts F).map pD)),y2]) S
 | [],us,F,x2,_,_,_=>⟨x2,rfl⟩
 |t::ts,us,F,x2,e,hI,hl=>by
  have h1:=a7w' (t::ts) F;have hB:∀p∈F,p.length≤1000:=λp hp=>by have c:=(hI.2 p).mp hp;have c':Chn all p:=⟨λs hs=>by rw[←e];exact Zs.mpr (.inl (c.1 s hs)),c.2⟩;have:=b1Z' W c';omega
  have ht:t∈all:=by rw[←e];simp
  have hr:=W.ris;rw[←e,ZH]at hr;have hI':=tie_ok (W.tie t ht).2.1 (λs hs=>lex_is (hr.2.2 s hs t Zb)) hI;obtain⟨y2,ih⟩:=b4t' hS W (w:=w) ts (us++[t]) (a2W' t F) (some (tieD t)) (by rw[←e];simp) hI' hl;refine⟨y2,?_⟩;rw[ZE];unfold forD;simp only[asgCT,ZD,ZC];rw[pr_turn hS (by omega) hB];exact ih
theorem b5U'{ts:List Ti}(W:Web m ts):(a5e' ts [[]]).Perm (allP m ts):=by have h:=a9g' ts [] [[]] (λt ht=>(W.tie t ht).2.1) (W.ris.imp λh=>lex_is h) (λs hs=>by cases hs) a9h';rw[Z9]at h;refine b4r' h.1 (a9f' W).1 λp=>?_;rw[h.2,(a9f' W).2];exact⟨λc=>⟨c,λt ht=>(W.tie t (c.1 t ht)).1⟩,λc=>c.1⟩
theorem b0c'(hS:Flat S){ts:List Ti}(W:Web m ts):a1k' [webD m ts] S=.ok (.lst (sortP (allP m ts))) S:=by
 have hp:=b5U' W;have hl:(a5e' ts [[]]).length≤40320:=by rw[hp.length_eq];exact a8e' W
 obtain⟨y2,hf⟩:=b4t' hS W (w:=webD m ts) ts [] [[]] none rfl a9h' hl;have hs:=b2a' (S:=S) (F:=a5e' ts [[]]) (by omega) (.inl (a5R' ts [[]] rfl)) false (d:=.lst ((a5e' ts [[]]).map pD)) rfl;rw[if_neg (by decide),b3D' hp]at hs;have hi:idxD (webD m ts) (.int 1) S=.ok (.tup (tiesD ts)) S:=rfl;refine a0z' rfl ?_ rfl hS (K50.a9e' _);show denSs a0j' G0 a1U' [some (webD m ts),none,none] S=_;rw[a7z'];rw[a0s' (d:=.lst (([[]]:List (List Ti)).map pD)) (S':=S) (by simp[den,denL,Res.bind,pD,tiesD])];simp only[ZD,ZC]
 rw[a0k' (ρ':=[some (webD m ts),some (.lst ((a5e' ts [[]]).map pD)),y2]) (S':=S) (by rw[a6t' (its:=.items (ts.map tieD)) (S1:=S) (by simp[denI,den,Res.bind,hi,Res.noErr,a0P',tiesD])];exact hf)];refine a2k' ?_;simp only[denS,den,denL,Res.bind,Zh,Zg,bltD,hs,Res.noErr]
theorem b4u':∀(G:List (List Ti)),G≠[]→∃k,(∀p∈G,p.length≤k)∧∃p∈G,p.length=k
 | [],h=>absurd rfl h
 | [p],_=>⟨p.length,λq hq=>by rw[ZN.mp hq];exact Zi _,p,by simp,rfl⟩
 |p::q::G,_=>by
  obtain⟨k,h1,r,hr,hk⟩:=b4u' (q::G) (by simp);by_cases h:p.length≤k
  ·exact⟨k,λs hs=>by rcases Zj.mp hs with rfl|hs;exact h;exact h1 s hs,r,Zc _ hr,hk⟩
  ·exact⟨p.length,λs hs=>by rcases Zj.mp hs with rfl|hs;exact Zi _;have:=h1 s hs;omega,p,Zb,rfl⟩
theorem b5V'{ts:List Ti}(W:Web m ts):∃G k,Most m ts G k:=by obtain⟨G,g1,g2,g3⟩:=a7x' (allP m ts);have h0:[]∈G:=(g3 []).mpr (((a9f' W).2 []).mpr ⟨⟨λt ht=>(by cases ht),.nil⟩,λt ht=>by cases ht⟩);obtain⟨k,h1,h2⟩:=b4u' G (λz=>by rw[z]at h0;cases h0);exact⟨G,k,g1,by rw[g2];exact a8e' W,h1,h2⟩
theorem a6w':a1W'=[.asg 1 (.call "_law_pairings" [.var 0]),.asg 2 (.blt .max [gtL]),.ret gtC]:=rfl
theorem a8f'(hS:Flat S){ts:List Ti}(W:Web m ts)(M:Most m ts G k):a0G' [webD m ts] S=.ok (.lst ((topP G k).map pD)) S:=by
 have e1:=b0c' hS W;rw[M.is]at e1;have hfew:=M.few
 have e2:den a0w' G0 gtL [some (webD m ts),some (.lst (G.map pD)),none] S=.ok (.lst (G.map λp=>D.int ((p.length:Nat):Int))) S:=by
  refine a0K' (its:=.items (G.map pD)) (S1:=S) (by simp only[denI,den,Zh,Zg,Res.bind,a0P']) ?_
  have:=a0f' (f:=pD) (p:=λ_=>true) (e:=λp=>D.int ((p.length:Nat):Int)) (xs:=G) (S:=S) (step:=λx acc S2=>match a0h' (.var 0) x [none]with
    |some ρ'=>(denTs a0w' G0 [] ρ' S2).bind λk S3=>if k=true then denB a0w' G0 (.emit (.blt .len [.var 0])) ρ' acc S3 else .ok acc S3
    |none=>.fail) (λp hp acc ha=>by have ha':acc.length<16777216:=ha;have h1:=b5T' (S:=S) p;have ha1:a0h' (.var 0) (pD p) [none]=some [some (pD p)]:=rfl;rw[ha1];simp[denTs,denB,den,denL,Res.bind,bltD,h1,Res.noErr,ha']) (show G.length≤16777216 by omega)
  rw[List.filter_eq_self.mpr (λ_ _=>rfl)]at this;exact this
 have e3:bltD .max [.lst (G.map λp=>D.int ((p.length:Nat):Int))] S=.ok (.int (k:Int)) S:=K50.b2f' M;have e4:den a0w' G0 gtC [some (webD m ts),some (.lst (G.map pD)),some (.int (k:Int))] S=.ok (.lst ((topP G k).map pD)) S:=by refine a0K' (its:=.items (G.map pD)) (S1:=S) (by simp only[denI,den,Zh,Zg,Res.bind,a0P']) ?_;exact a0f' (f:=pD) (p:=λp=>decide (p.length=k)) (e:=pD) (λp hp acc ha=>b2e' ha) (show G.length≤16777216 by omega)
 refine a0z' rfl ?_ rfl hS (a2c' _);show denSs a0w' G0 a1W' [some (webD m ts),none,none] S=_;rw[a6w'];rw[a0s' (d:=.lst (G.map pD)) (S':=S) (by simp only[den,denL,Res.bind,Zg,a1p',e1])];simp only[ZD,ZC];rw[a0s' (d:=.int (k:Int)) (S':=S) (by rw[den,denL,e2];simp only[denL,Res.bind,e3,Res.noErr])];simp only[ZD,ZC];refine a2k' ?_;rw[denS,e4];rfl
section
variable {A B C:List D}{P:List (List Ti)}
end
abbrev tS(n:Nat):FT:=tbl [("_law_same",a0c' n)]
theorem uS(n:Nat):tS n "_law_same"=some (a0c' n):=rfl
theorem b5W'(hS:Flat S)(n:Nat)(i:Int):a0c' (n+1) [.int i,.int i] S=.ok (.bl true) S:=by
 refine a0z' rfl ?_ rfl hS rfl;show denSs (tS n) G0 a0R' [some (.int i),some (.int i)] S=_;have h1:a0M' [.int i,.ty "tuple"] S=.ok (.bl false) S:=rfl;have h2:a0M' [.int i,.ty "list"] S=.ok (.bl false) S:=rfl;have h3:a0M' [.int i,.ty "bool"] S=.ok (.bl false) S:=rfl;have h4:a0M' [.int i,.ty "int"] S=.ok (.bl true) S:=rfl;have h5:cmpD .Is (.int i) .non S=.ok (.bl false) S:=rfl
 have h6:cmpD .Eq (.int i) (.int i) S=.ok (.bl true) S:=by have:cmpD .Eq (.int i) (.int i) S=.ok (.bl (i==i)) S:=rfl;rw[this];simp
 have h7:cmpD .Eq (.bl false) (.bl false) S=.ok (.bl true) S:=rfl;simp[a0R',denSs,denS,denT,den,denL,Res.bind,Res.noErr,onBl,bltD,truD,h1,h2,h3,h4,h5,h6,h7]
noncomputable def smC:CE:=.comp false ["_law_one","_law_other"] [none,none] (.tup [.var 0,.var 1]) (.zip [.var 0,.var 1]) [] (.emit (.call "_law_same" [.var 0,.var 1]))
theorem b2h'(hS:Flat S)(hl:xs.length≤1000)(hx:∀z∈xs,a0c' n [z,z] S=.ok (.bl true) S):a0c' (n+1) [.tup xs,.tup xs] S=.ok (.bl true) S:=by
 refine a0z' rfl ?_ rfl hS rfl;show denSs (tS n) G0 a0R' [some (.tup xs),some (.tup xs)] S=_;have h1:a0M' [.tup xs,.ty "tuple"] S=.ok (.bl true) S:=rfl;have h2:a0M' [.tup xs,.ty "list"] S=.ok (.bl false) S:=rfl;have h3:cmpD .NotEq (.bl true) (.bl true) S=.ok (.bl false) S:=rfl;have h4:cmpD .NotEq (.bl false) (.bl false) S=.ok (.bl false) S:=rfl;have h5:lenD [.tup xs] S=.ok (.int (xs.length:Nat)) S:=rfl
 have h6:cmpD .Eq (.int (xs.length:Nat)) (.int (xs.length:Nat)) S=.ok (.bl true) S:=by have:cmpD .Eq (.int (xs.length:Nat)) (.int (xs.length:Nat)) S=.ok (.bl (((xs.length:Nat):Int)==((xs.length:Nat):Int))) S:=rfl;rw[this];simp
 have hz:List.zipWith (λx y=>D.tup [x,y]) xs xs=xs.map λz=>D.tup [z,z]:=by
  induction xs with
  |nil=>rfl
  |cons a l ih=>rw[List.zipWith_cons_cons,ZE];congr 1;refine ih (by simp at hl;omega) (λz hz=>hx z (Zc _ hz)) rfl rfl rfl ?_;have:cmpD .Eq (.int (l.length:Nat)) (.int (l.length:Nat)) S=.ok (.bl (((l.length:Nat):Int)==((l.length:Nat):Int))) S:=rfl;rw[this];simp
 have hc:den (tS n) G0 smC [some (.tup xs),some (.tup xs)] S=.ok (.lst (xs.map λ_=>.bl true)) S:=by
  refine a0K' (its:=.items (xs.map λz=>D.tup [z,z])) (S1:=S) (by simp[denI,den,denL,Res.bind,zipOf,a9q',hz]) ?_
  have:=a0f' (f:=λz=>D.tup [z,z]) (p:=λ_=>true) (e:=λ_=>D.bl true) (xs:=xs) (S:=S) (step:=λx acc S2=>match a0h' (.tup [.var 0,.var 1]) x [none,none]with
    |some ρ'=>(denTs (tS n) G0 [] ρ' S2).bind λk S3=>if k=true then denB (tS n) G0 (.emit (.call "_law_same" [.var 0,.var 1])) ρ' acc S3 else .ok acc S3
    |none=>.fail) (λz hz acc ha=>by have ha':acc.length<16777216:=ha;have ha1:a0h' (.tup [.var 0,.var 1]) (.tup [z,z]) [none,none]=some [some z,some z]:=rfl;rw[ha1];simp only[denTs,denB,den,denL,Res.bind,Zh,Zg,uS,hx z hz,if_true];simp[ha']) (show xs.length≤16777216 by omega)
  refine Eq.trans this ?_;rw[List.filter_eq_self.mpr (λ_ _=>rfl)]
 have ha:allD [.lst (xs.map λ_=>.bl true)] S=.ok (.bl true) S:=by show boolR (allO ((xs.map λ_=>D.bl true).map asB)) S=_;rw[Z3];have:allO (xs.map (asB∘λ_=>D.bl true))=some true:=K50.a6r' λx _=>rfl;rw[this];rfl
 have e:a0R'=[.ite (.bor (.blt .isinst [.var 1,.ty "tuple"]) (.blt .isinst [.var 1,.ty "list"])) [.ite (.bor (.cmp .NotEq (.blt .isinst [.var 0,.ty "tuple"]) (.blt .isinst [.var 1,.ty "tuple"])) (.cmp .NotEq (.blt .isinst [.var 0,.ty "list"]) (.blt .isinst [.var 1,.ty "list"]))) [.ret (.lit (.bl false))] [],.ret (.band (.cmp .Eq (.blt .len [.var 0]) (.blt .len [.var 1])) (.blt .all [smC]))] [],.ite (.cmp .Is (.var 1) (.lit (.non))) [.ret (.cmp .Is (.var 0) (.lit (.non)))] [],.ret (.band (.cmp .Eq (.blt .isinst [.var 0,.ty "bool"]) (.blt .isinst [.var 1,.ty "bool"])) (.band (.blt .isinst [.var 0,.ty "int"]) (.cmp .Eq (.var 0) (.var 1))))]:=rfl;rw[e];refine a2k' ?_;rw[a5t' (k:=true) (S1:=S) (by simp[denT,den,denL,Res.bind,Res.noErr,bltD,h1,truD]),if_pos rfl];rw[a0k' (ρ':=[some (.tup xs),some (.tup xs)]) (S':=S) (by rw[a5t' (k:=false) (S1:=S) (by simp[denT,den,denL,Res.bind,Res.noErr,onBl,bltD,h1,h2,h3,h4]),if_neg (by decide)];rfl)];refine a2k' ?_;rw[denS,den,den];simp only[den,denL,Res.bind,Res.noErr,bltD,Zh,Zg,h5,h6,onBl,if_true,hc,ha]
section
variable {ts:List Ti}{P:List (List Ti)}{x2 x4:Option D}
end
theorem o_add(x y:Int):opD .Add (.int x) (.int y) S=.ok (.int (x+y)) S:=rfl
theorem o_sub(x y:Int):opD .Sub (.int x) (.int y) S=.ok (.int (x-y)) S:=rfl
theorem o_mul{x:Int}(h:(-(2^64)<x∧x<2^64)∨(-(2^64)<y∧y<2^64)):opD .Mult (.int x) (.int y) S=.ok (.int (x*y)) S:=by show(if(-(2^64)<x∧x<2^64)∨(-(2^64)<y∧y<2^64)then Res.ok (D.int (x*y)) S else _)=_;rw[if_pos h]
theorem o_mod{x:Int}(h:0<y):opD .Mod (.int x) (.int y) S=.ok (.int (x%y)) S:=by show(if 0<y then Res.ok (D.int (x%y)) S else .fail)=_;rw[if_pos h]
theorem o_div{x:Int}(h:0<y∧y<1073741824):opD .FloorDiv (.int x) (.int y) S=.ok (.int (x/y)) S:=by show(if 0<y∧y<1073741824 then Res.ok (D.int (x/y)) S else .fail)=_;rw[if_pos h]
theorem o_shr{x:Int}(h:0≤y):opD .RShift (.int x) (.int y) S=.ok (.int (x/2^y.toNat)) S:=by show(if 0≤y then Res.ok (D.int (x/2^y.toNat)) S else .fail)=_;rw[if_pos h]
theorem o_and(x y:Int):opD .BitAnd (.int x) (.int y) S=.ok (.int (Builtin.bitAnd x y)) S:=rfl
theorem q_eq(x y:Int):cmpD .Eq (.int x) (.int y) S=.ok (.bl (x==y)) S:=rfl
theorem q_lt(x y:Int):cmpD .Lt (.int x) (.int y) S=.ok (.bl (decide (x<y))) S:=rfl
def stir1(c k:Int):Int:=(c%2147483647+977*k+1)*48271
noncomputable def stir2(X:Int):Int:=X%2147483647*(X%2147483647)%2147483629
noncomputable def stirV(c k:Int):Int:=(stir2 (stir1 c k)+40692*(k+3))*69621%2147483647/8
theorem stir_eq(hS:Flat S)(c k:Int):a3z' [.int c,.int k] S=.ok (.int (stirV c k)) S:=by have m1:∀x:Int,opD .Mult (.int x) (.int 48271) S=.ok (.int (x*48271)) S:=λx=>o_mul (.inr (by decide));have m2:∀x:Int,opD .Mult (.int 977) (.int x) S=.ok (.int (977*x)) S:=λx=>o_mul (.inl (by decide));have m3:∀x:Int,opD .Mult (.int 40692) (.int x) S=.ok (.int (40692*x)) S:=λx=>o_mul (.inl (by decide));have m4:∀x:Int,opD .Mult (.int x) (.int 69621) S=.ok (.int (x*69621)) S:=λx=>o_mul (.inr (by decide));have d1:∀x:Int,opD .Mod (.int x) (.int 2147483647) S=.ok (.int (x%2147483647)) S:=λx=>o_mod (by decide);have d2:∀x:Int,opD .Mod (.int x) (.int 2147483629) S=.ok (.int (x%2147483629)) S:=λx=>o_mod (by decide);have d3:∀x:Int,opD .FloorDiv (.int x) (.int 8) S=.ok (.int (x/8)) S:=λx=>o_div (by decide);refine a0z' rfl ?_ rfl hS rfl;show denSs a7h' G0 a4T' [some (.int c),some (.int k),none] S=_;have m5:∀x:Int,opD .Mult (.int (x%2147483647)) (.int (x%2147483647)) S=.ok (.int (x%2147483647*(x%2147483647))) S:=λx=>o_mul (.inl (by omega));unfold a4T';rw[a0s' (S':=S) (d:=.int (stir1 c k%2147483647)) (by unfold stir1;simp only[den,Res.bind,Res.noErr,Zh,Zg,d1,m2,o_add,m1])];simp only[ZD,ZC];unfold stirV;generalize stir1 c k=X;rw[a0s' (S':=S) (d:=.int (stir2 X)) (by unfold stir2;simp only[den,Res.bind,Res.noErr,Zh,Zg,m5,d2])];simp only[ZD,ZC];generalize stir2 X=Y;rw[a0s' (S':=S) (d:=.int ((Y+40692*(k+3))*69621%2147483647)) (by simp only[den,Res.bind,Res.noErr,Zh,Zg,o_add,m3,m4,d1])];simp only[ZD,ZC];refine a2k' ?_;simp only[denS,den,Res.bind,Res.noErr,Zh,Zg,d3]
theorem b5X':a3A'=[.asg 2 (.bin .Add (.lit (.int 1)) (.bin .Mod (.var 0) (.var 1))),.asg 3 (.bin .FloorDiv (.var 0) (.var 1)),.asg 4 (.bin .Mod (.var 3) (.lit (.int 6))),.asg 5 (.lst true []),.for_ (.var 6) (.range [.lit (.int 1),.var 2]) wA,.ret (.tup [.var 2,.blt .tuple [.blt (.sorted false (.seq .int)) [.var 5]]])]:=rfl
section
variable {c t l w a b:Int}{x8 x9:Option D}
abbrev rW(c t m l w:Int)(n:Nat)(x6 x7 x8 x9:Option D):Rho:=[some (.int c),some (.int t),some (.int m),some (.int l),some (.int w),some (.ref n),x6,x7,x8,x9]
theorem w_s1(ha:0≤a)(hb:1≤b)(hb8:b≤8):∃ch:Int,den a0g' G0 wS1 (rW c t m l w n (some (.int b)) (some (.int a)) x8 x9) T=.ok (.int ch) T:=by
 have h1:=o_div (S:=T) (x:=l) (y:=6) (by decide);have h2:=o_mul (S:=T) (x:=b) (y:=b-1) (.inl (by omega));have h3:=o_div (S:=T) (x:=b*(b-1)) (y:=2) (by decide)
 have h0:0≤b*(b-1)/2+a:=by have:0≤b*(b-1):=Int.mul_nonneg (by omega) (by omega);have:0≤b*(b-1)/2:=Int.ediv_nonneg this (by decide);omega
 have h4:=o_shr (S:=T) (x:=l/6) h0;exact⟨Builtin.bitAnd (l/6/2^(b*(b-1)/2+a).toNat) 1,by simp only[wS1,den,Res.bind,Res.noErr,Zh,Zg,h1,o_sub,h2,h3,o_add,h4,o_and]⟩
theorem w_st(hT:Flat T):∃r:Int,den a0g' G0 wSt (rW c t m l w n (some (.int b)) (some (.int a)) x8 x9) T=.ok (.int r) T:=by have h2:=o_mul (S:=T) (x:=8) (y:=a) (.inl (by decide));have h3:=stir_eq hT c (8*a+b);exact⟨stirV c (8*a+b),by simp only[wSt,den,denL,Res.bind,Res.noErr,Zh,Zg,h2,o_add,a3B',h3]⟩
theorem w_when{k:Int}{e:CE}(he:∃ch:Int,den a0g' G0 e (rW c t m l w n (some (.int b)) (some (.int a)) (some v8) x9) T=.ok (.int ch) T)(h8:∃i:Int,v8=.int i):
  ∃ch:Int,denS a0g' G0 (wW k [.asg 8 e]) (rW c t m l w n (some (.int b)) (some (.int a)) (some v8) x9) T=.ok (.next (rW c t m l w n (some (.int b)) (some (.int a)) (some (.int ch)) x9)) T:=by
 obtain⟨i,rfl⟩:=h8;obtain⟨ch,he⟩:=he;have ht:denT a0g' G0 (.cmp .Eq (.var 4) (.lit (.int k))) (rW c t m l w n (some (.int b)) (some (.int a)) (some (.int i)) x9) T=.ok (w==k) T:=by simp only[denT,den,Res.bind,Zh,Zg,q_eq,Res.noErr,onBl]
 unfold wW;rw[a5t' ht];cases w==k
 ·exact⟨i,rfl⟩
 ·refine⟨ch,?_⟩;rw[if_pos rfl,a0s' he];rfl
theorem w_s4:∃q:List Bool,q.length=5∧den a0g' G0 wS4 (rW c t m l w n (some (.int b)) (some (.int a)) x8 x9) T=.ok (.lst (q.map D.bl)) T:=by
 have h3:=o_mod (S:=T) (x:=a) (y:=3) (by decide);have e1:den a0g' G0 wE1 (rW c t m l w n (some (.int b)) (some (.int a)) x8 x9) T=.ok (.bl (b==a+1)) T:=by simp only[wE1,den,Res.bind,Res.noErr,Zh,Zg,o_add,q_eq]
 have e2:den a0g' G0 wE2 (rW c t m l w n (some (.int b)) (some (.int a)) x8 x9) T=.ok (.bl ((b==a+1)||(b-a==m-1))) T:=by simp only[wE2,den,Res.bind,Res.noErr,Zh,Zg,o_add,o_sub,q_eq,onBl];cases b==a+1<;>rfl
 have e5:den a0g' G0 wE5 (rW c t m l w n (some (.int b)) (some (.int a)) x8 x9) T=.ok (.bl ((b==a+1)&&decide (a%3<2))) T:=by simp only[wE5,den,Res.bind,Res.noErr,Zh,Zg,o_add,h3,q_eq,q_lt,onBl];cases b==a+1<;>rfl
 refine⟨[b==a+1,(b==a+1)||(b-a==m-1),a==0,true,(b==a+1)&&decide (a%3<2)],rfl,?_⟩;simp only[wS4,den,denL,Res.bind,Res.noErr,Zh,Zg,e1,e2,e5,q_eq];rfl
theorem w_s5{q:List Bool}(hq:q.length=5):∃ch:Int,den a0g' G0 wS5 (rW c t m l w n (some (.int b)) (some (.int a)) x8 (some (.lst (q.map D.bl)))) T=.ok (.int ch) T:=by
 have h1:=o_div (S:=T) (x:=l) (y:=6) (by decide);have h2:=o_mod (S:=T) (x:=l/6) (y:=5) (by decide);have h0:0≤l/6%5∧l/6%5<5:=by omega
 generalize l/6%5=i at h2 h0;obtain⟨v,hv⟩:∃v,q[i.toNat]?=some v:=⟨_,Ze (by omega)⟩
 have h3:idxD (.lst (q.map D.bl)) (.int i) T=.ok (.bl v) T:=by
  have e:atI (q.map D.bl) i=some (.bl v):=by
   have hx:ixN (q.map D.bl).length i=some i.toNat:=by unfold ixN;rw[Zm,hq];simp[h0.1,h0.2]
   unfold atI;rw[hx];show(q.map D.bl)[i.toNat]?=_;rw[ZW,hv];rfl
  unfold idxD;simp only[seqOf,e]
 have h4:intD [.bl v] T=.ok (.int (if v=true then 1 else 0)) T:=rfl;exact⟨if v=true then 1 else 0,by simp only[wS5,den,denL,Res.bind,Res.noErr,Zh,Zg,h1,h2,h3,bltD,h4]⟩
theorem w_five(h8:∃i:Int,v8=.int i):∃(ch:Int) (y9:Option D),denS a0g' G0 (wW 5 [.asg 9 wS4,.asg 8 wS5]) (rW c t m l w n (some (.int b)) (some (.int a)) (some v8) x9) T=.ok (.next (rW c t m l w n (some (.int b)) (some (.int a)) (some (.int ch)) y9)) T:=by
 obtain⟨i,rfl⟩:=h8;obtain⟨q,hq,e4⟩:=w_s4 (T:=T) (c:=c) (t:=t) (m:=m) (l:=l) (w:=w) (n:=n) (a:=a) (b:=b) (x8:=some (.int i)) (x9:=x9);obtain⟨ch,e5⟩:=w_s5 (T:=T) (c:=c) (t:=t) (m:=m) (l:=l) (w:=w) (n:=n) (a:=a) (b:=b) (x8:=some (.int i)) hq;have ht:denT a0g' G0 (.cmp .Eq (.var 4) (.lit (.int 5))) (rW c t m l w n (some (.int b)) (some (.int a)) (some (.int i)) x9) T=.ok (w==5) T:=by simp only[denT,den,Res.bind,Zh,Zg,q_eq,Res.noErr,onBl]
 unfold wW;rw[a5t' ht];cases w==5
 ·exact⟨i,x9,rfl⟩
 ·refine⟨ch,some (.lst (q.map D.bl)),?_⟩;rw[if_pos rfl,a0s' e4];simp only[ZD,ZC];rw[a0s' e5];rfl
theorem w_turn{us:List Ti}(hT:Flat T)(hu:us.length<1000)(ha:0≤a)(hb:1≤b)(hb8:b≤8):∃(k:Bool) (y8 y9:Option D),
  denSs a0g' G0 wB (rW c t m l w T.length (some (.int b)) (some (.int a)) x8 x9) (T++[tiesD us])=.ok (.next (rW c t m l w T.length (some (.int b)) (some (.int a)) y8 y9)) (T++[tiesD (if k=true then us++[(a,b)]else us)]):=by
 have hT1:Flat (T++[tiesD us]):=hT.snoc (K50.a6s' us);obtain⟨c1,e1⟩:=w_s1 (T:=T++[tiesD us]) (c:=c) (t:=t) (m:=m) (l:=l) (w:=w) (n:=T.length) (x8:=x8) (x9:=x9) ha hb hb8;obtain⟨c2,e2⟩:=w_when (T:=T++[tiesD us]) (c:=c) (t:=t) (m:=m) (l:=l) (w:=w) (n:=T.length) (a:=a) (b:=b) (x9:=x9) (k:=3) (e:=wS2) (v8:=.int c1) (by obtain⟨r,hr⟩:=w_st (T:=T++[tiesD us]) (c:=c) (t:=t) (m:=m) (l:=l) (w:=w) (n:=T.length) (a:=a) (b:=b) (x8:=some (.int c1)) (x9:=x9) hT1;have d1:=o_mod (S:=T++[tiesD us]) (x:=r) (y:=3) (by decide);have d2:=o_div (S:=T++[tiesD us]) (x:=r%3) (y:=2) (by decide);exact⟨r%3/2,by unfold wS2;rw[den,den,hr];simp only[den,Res.bind,Res.noErr,d1,d2]⟩) ⟨_,rfl⟩;obtain⟨c3,e3⟩:=w_when (T:=T++[tiesD us]) (c:=c) (t:=t) (m:=m) (l:=l) (w:=w) (n:=T.length) (a:=a) (b:=b) (x9:=x9) (k:=4) (e:=wS3) (v8:=.int c2) (by obtain⟨r,hr⟩:=w_st (T:=T++[tiesD us]) (c:=c) (t:=t) (m:=m) (l:=l) (w:=w) (n:=T.length) (a:=a) (b:=b) (x8:=some (.int c2)) (x9:=x9) hT1;have d1:=o_mod (S:=T++[tiesD us]) (x:=r) (y:=4) (by decide);have d2:=o_div (S:=T++[tiesD us]) (x:=r%4+2) (y:=3) (by decide);exact⟨(r%4+2)/3,by unfold wS3;rw[den,den,den,hr];simp only[den,Res.bind,Res.noErr,d1,o_add,d2]⟩) ⟨_,rfl⟩;obtain⟨c4,y9,e4⟩:=w_five (T:=T++[tiesD us]) (c:=c) (t:=t) (m:=m) (l:=l) (w:=w) (n:=T.length) (a:=a) (b:=b) (x9:=x9) (v8:=.int c3) ⟨_,rfl⟩;refine⟨c4==1,some (.int c4),y9,?_⟩;unfold wB;rw[a0s' e1];simp only[ZD,ZC];rw[a0k' e2,a0k' e3,a0k' e4];have ht:denT a0g' G0 (.cmp .Eq (.var 8) (.lit (.int 1))) (rW c t m l w T.length (some (.int b)) (some (.int a)) (some (.int c4)) y9) (T++[tiesD us])=.ok (c4==1) (T++[tiesD us]):=by simp only[denT,den,Res.bind,Zh,Zg,q_eq,Res.noErr,onBl]
 refine(a0k' (ρ':=rW c t m l w T.length (some (.int b)) (some (.int a)) (some (.int c4)) y9) ?_).trans rfl;rw[a5t' ht];cases c4==1
 ·rfl
 ·rw[if_pos rfl,if_pos rfl];have hap:a3k' (.ref T.length) [.tup [.int a,.int b]] (T++[tiesD us])=.ok .non (T++[tiesD us++[.tup [.int a,.int b]]]):=b1W' (by unfold tiesD;rw[Zm];show _<16777216;omega);have e5:tiesD us++[.tup [.int a,.int b]]=tiesD (us++[(a,b)]):=by unfold tiesD;simp[tieD]
  rw[e5]at hap;refine(a0k' (ρ':=rW c t m l w T.length (some (.int b)) (some (.int a)) (some (.int c4)) y9) (S':=T++[tiesD (us++[(a,b)])]) ?_).trans rfl;simp only[denS,den,denL,Res.bind,Res.noErr,methD,Zh,Zg,hap]
theorem b4v'(hT:Flat T)(hb:1≤b)(hb8:b≤8):∀(as:Li) (us:List Ti) (x7 x8 x9:Option D),(∀a∈as,0≤a)→us.length+as.length<1000→∃(vs:List Ti) (y7 y8 y9:Option D),vs.Sublist (as.map λa=>(a,b))∧
  forD (λx ρ S=>match asgCT (.var 7) x ρ with
   |some ρ'=>denSs a0g' G0 wB ρ' S
   |none=>.fail) (as.map D.int) (rW c t m l w T.length (some (.int b)) x7 x8 x9) (T++[tiesD us])=.ok (.next (rW c t m l w T.length (some (.int b)) y7 y8 y9)) (T++[tiesD (us++vs)])
 | [],us,x7,x8,x9,_,_=>⟨[],x7,x8,x9,.slnil,by rw[Yd];rfl⟩
 |a::as,us,x7,x8,x9,hp,hl=>by
  rw[Zw]at hl;obtain⟨k,z8,z9,e⟩:=w_turn (c:=c) (t:=t) (m:=m) (l:=l) (w:=w) (x8:=x8) (x9:=x9) (us:=us) hT (by omega) (hp a Zb) hb hb8;obtain⟨vs,y7,y8,y9,hs,ih⟩:=b4v' hT hb hb8 as (if k=true then us++[(a,b)]else us) (some (.int a)) z8 z9 (λx hx=>hp x (Zc _ hx)) (by split<;>(try simp only[Zp,Zw,List.length_nil])<;>omega);refine⟨(if k=true then [(a,b)]else [])++vs,y7,y8,y9,?_,?_⟩
  ·rw[ZE];cases k
   ·exact hs.cons _
   ·exact hs.cons_cons _
  ·rw[ZE];unfold forD;simp only[asgCT,ZD,ZC];rw[e];refine ih.trans ?_;cases k<;>simp
noncomputable def b2i'(bs:Li):List Ti:=bs.flatMap λb=>(a0t' 0 b.toNat).map λa=>(a,b)
theorem b4w'(hT:Flat T):∀(bs:Li) (us:List Ti) (x6 x7 x8 x9:Option D),(∀b∈bs,1≤b∧b≤8)→us.length+8*bs.length<1000→∃(vs:List Ti) (y6 y7 y8 y9:Option D),vs.Sublist (b2i' bs)∧
  forD (λx ρ S=>match asgCT (.var 6) x ρ with
   |some ρ'=>denSs a0g' G0 wA ρ' S
   |none=>.fail) (bs.map D.int) (rW c t m l w T.length x6 x7 x8 x9) (T++[tiesD us])=.ok (.next (rW c t m l w T.length y6 y7 y8 y9)) (T++[tiesD (us++vs)])
 | [],us,x6,x7,x8,x9,_,_=>⟨[],x6,x7,x8,x9,.slnil,by rw[Yd];rfl⟩
 |b::bs,us,x6,x7,x8,x9,hp,hl=>by
  rw[Zw]at hl;obtain⟨hb,hb8⟩:=hp b Zb;have hlen:(a0t' 0 b.toNat).length=b.toNat:=K50.a0e';obtain⟨vs,z7,z8,z9,hs,e⟩:=b4v' (c:=c) (t:=t) (m:=m) (l:=l) (w:=w) hT hb hb8 (a0t' 0 b.toNat) us x7 x8 x9 (λa ha=>(K50.a1c' ha).1) (by rw[hlen];omega)
  have hvl:vs.length≤8:=by have:=hs.length_le;rw[Zm,hlen]at this;omega
  obtain⟨ws,y6,y7,y8,y9,hs2,ih⟩:=b4w' hT bs (us++vs) (some (.int b)) z7 z8 z9 (λx hx=>hp x (Zc _ hx)) (by rw[Zp];omega);refine⟨vs++ws,y6,y7,y8,y9,?_,?_⟩
  ·unfold b2i';rw[List.flatMap_cons];exact hs.append hs2
  ·rw[ZE];unfold forD;simp only[asgCT,ZD,ZC]
   have e':denSs a0g' G0 wA (rW c t m l w T.length (some (.int b)) x7 x8 x9) (T++[tiesD us])=.ok (.next (rW c t m l w T.length (some (.int b)) z7 z8 z9)) (T++[tiesD (us++vs)]):=by
    unfold wA;refine(a0k' (ρ':=rW c t m l w T.length (some (.int b)) z7 z8 z9) (S':=T++[tiesD (us++vs)]) ?_).trans rfl;have hrr:(-4611686018427387904:Int)≤b∧b<4611686018427387904:=by omega
    rw[a6t' (its:=.items ((a0t' 0 b.toNat).map D.int)) (S1:=T++[tiesD us]) (by simp[denI,denL,den,Res.bind,Res.noErr,hrr,K50.a1N'])];exact e
   rw[e',←Zu];exact ih
end
theorem b5Y'(h1:1≤m)(h2:m≤8):(b2i' (a0t' 1 (m-1).toNat)).Nodup∧(∀t∈b2i' (a0t' 1 (m-1).toNat),0≤t.1∧t.1<t.2∧t.2<m)∧(b2i' (a0t' 1 (m-1).toNat)).length≤28:=by rcases K50.eight h1 h2 with rfl|rfl|rfl|rfl|rfl|rfl|rfl|rfl<;>exact⟨by decide+kernel,by decide+kernel,by decide+kernel⟩
theorem web_eq(hS:Flat S)(c:Int):∃m ts,Web m ts∧a2M' [.int c,.int 8] S=.ok (webD m ts) S:=by
 have hm:1≤1+c%8∧1+c%8≤8:=by omega
 obtain⟨p1,p2,p3⟩:=b5Y' hm.1 hm.2;obtain⟨vs,y6,y7,y8,y9,hs,hf⟩:=b4w' (T:=S) (c:=c) (t:=8) (m:=1+c%8) (l:=c/8) (w:=c/8%6) hS (a0t' 1 (1+c%8-1).toNat) [] none none none none (λb hb=>by have:=K50.a1c' hb;omega) (by rw[K50.a0e'];simp;omega);rw[Z9]at hf;have hl:vs.length≤28:=ZP hs.length_le p3;have W:=b5J' hm.1 hm.2 (hs.nodup p1) (λt ht=>p2 t (hs.subset ht)) hl;refine⟨1+c%8,sortI vs,W,?_⟩;have d1:=o_mod (S:=S) (x:=c) (y:=8) (by decide);have d2:=o_div (S:=S) (x:=c) (y:=8) (by decide);have d3:=o_mod (S:=S) (x:=c/8) (y:=6) (by decide);have hso:=a7V' (S:=S++[tiesD vs]) (d:=.ref S.length) (l:=vs) boxE (by omega);have htu:b0y' [.lst (tiesD (sortI vs))] (S++[tiesD vs])=.ok (.tup (tiesD (sortI vs))) (S++[tiesD vs]):=rfl
 have hd:denSs a0g' G0 a3A' [some (.int c),some (.int 8),none,none,none,none,none,none,none,none] S=.ok (.ret (webD (1+c%8) (sortI vs))) (S++[tiesD vs]):=by
  have hrr:(-4611686018427387904:Int)≤1+c%8∧1+c%8<4611686018427387904:=by omega
  rw[b5X'];rw[a0s' (d:=.int (1+c%8)) (S':=S) (by simp only[den,Res.bind,Res.noErr,Zh,Zg,d1,o_add])];simp only[ZD,ZC];rw[a0s' (d:=.int (c/8)) (S':=S) (by simp only[den,Res.bind,Res.noErr,Zh,Zg,d2])];simp only[ZD,ZC];rw[a0s' (d:=.int (c/8%6)) (S':=S) (by simp only[den,Res.bind,Res.noErr,Zh,Zg,d3])];simp only[ZD,ZC];rw[a0s' (d:=.ref S.length) (S':=S++[tiesD []]) (by simp[den,denL,Res.bind,tiesD])];simp only[ZD,ZC];rw[a0k' (ρ':=rW c 8 (1+c%8) (c/8) (c/8%6) S.length y6 y7 y8 y9) (S':=S++[tiesD vs]) (by rw[a6t' (its:=.items ((a0t' 1 (1+c%8-1).toNat).map D.int)) (S1:=S++[tiesD []]) (by simp[denI,denL,den,Res.bind,Res.noErr,hrr,K50.a1N'])];exact hf)];refine a2k' ?_;simp only[denS,den,denL,Res.bind,Res.noErr,Zh,Zg,bltD,hso,htu];rfl
 show runD a0g' G0 a3A' a6n'.length 2 [.int c,.int 8] S=_;have hd':denSs a0g' G0 a3A' (([.int c,.int 8]:List D).map some++List.replicate (a6n'.length-2) none) S=_:=hd;unfold runD;rw[if_pos (show [D.int c,D.int 8].length=2 from rfl),hd'];show trim S.length (webD (1+c%8) (sortI vs)) (S++[tiesD vs])=_;rw[K50.a3G' (by rw[List.take_left' rfl];exact hS) (K50.low_web _ _),List.take_left' rfl]
theorem cell_eq(hS:Flat S)(ns:Li):∃c:Int,a0N' [.scr (ns.map D.int),.int 0] S=.ok (.int c) S:=by
 cases ns with
 |nil=>exact⟨0,a0z' rfl rfl rfl hS rfl⟩
 |cons n ns=>
  refine⟨n,a0z' rfl ?_ rfl hS rfl⟩;have h1:lenD [.scr ((n::ns).map D.int)] S=.ok (.int ((n::ns).map D.int).length) S:=rfl
  have h2:cmpD .Lt (.int 0) (.int ((n::ns).map D.int).length) S=.ok (.bl true) S:=by have:cmpD .Lt (.int 0) (.int ((n::ns).map D.int).length) S=.ok (.bl (decide ((0:Int)<((n::ns).map D.int).length))) S:=rfl;rw[this,ZR (by simp)]
  have h3:idxD (.scr ((n::ns).map D.int)) (.int 0) S=.ok (.int n) S:=by
   unfold idxD
   have:atI ((n::ns).map D.int) 0=some (.int n):=by
    unfold atI ixN;simp
    try omega
   simp only[seqOf,this]
  generalize(n::ns).map D.int=xs at h1 h2 h3;simp[a4h',a4g',denSs,denS,denT,den,denL,Res.bind,Res.noErr,onBl,bltD,h1,h2,h3]
def tupJ(s:Li):D:=.tup (s.map D.int)
section
variable {ts p:List Ti}
theorem a6x'(s:Li):lowD 0 (tupJ s)=true:=K50.a1F' s
theorem a8g':a3O'=[.ret (.blt .tuple [llC])]:=rfl
theorem b2j':∀(ps:List Ti) (i:Int),(mateI ps i).isNone= !(ps.any (hasP i))
 | [],i=>rfl
 |t::ps,i=>by
  have ih:=b2j' ps i;unfold mateI;rw[List.any_cons];by_cases h1:i=t.1
  ·simp[hasP,h1]
  ·by_cases h2:i=t.2
   ·simp[hasP,h1,h2]
    try split<;>rfl
   ·rw[if_neg h1,if_neg h2,ih];simp[hasP,h1,h2]
theorem b3G'(hS:Flat S)(h1:1≤m)(h8:m≤8)(hl:p.length≤1000):a2N' [webD m ts,pD p] S=.ok (tupJ (a1r' m p)) S:=by
 refine a0z' rfl ?_ rfl hS (a6x' _);show denSs a0O' G0 a3O' [some (webD m ts),some (pD p)] S=_;have hi:idxD (webD m ts) (.int 0) S=.ok (.int m) S:=rfl;have hr:(-4611686018427387904:Int)≤m∧m<4611686018427387904:=by omega
 have hI:∀i:Int,den a0O' G0 llI [some (.int i),some (pD p)] S=.ok (.lst (p.map λt=>D.bl (hasP i t))) S:=λi=>by
  refine a0K' (its:=.items (p.map tieD)) (S1:=S) rfl ?_
  have:=a0f' (xs:=p) (f:=tieD) (p:=λ_=>true) (e:=λt=>D.bl (hasP i t)) (S:=S) (step:=λx acc S2=>match a0h' (.var 0) x [none,some (.int i)]with
    |some ρ'=>(denTs a0O' G0 [] ρ' S2).bind λk S3=>if k=true then denB a0O' G0 (.emit (.cmp .In (.var 1) (.var 0))) ρ' acc S3 else .ok acc S3
    |none=>.fail) (λt ht acc ha=>by
   have ha':acc.length<16777216:=ha;have i1:inD (.int i) (tieD t) S=some (hasP i t):=K50.in_tie S i t;have ha1:a0h' (.var 0) (tieD t) [none,some (.int i)]=some [some (tieD t),some (.int i)]:=rfl;rw[ha1];generalize tieD t=tt at*;simp[denTs,denB,den,Res.bind,cmpD,i1,boolR,Res.noErr,ha']) (show p.length≤16777216 by omega)
  rw[List.filter_eq_self.mpr (λ_ _=>rfl)]at this;exact this
 have hC:den a0O' G0 llC [some (webD m ts),some (pD p)] S=.ok (.lst ((a1r' m p).map D.int)) S:=by
  refine a0K' (its:=.items ((a0t' 0 m.toNat).map D.int)) (S1:=S) (by simp[denI,denL,den,Res.bind,Res.noErr,hi,hr,K50.a1N']) ?_
  exact a0f' (xs:=a0t' 0 m.toNat) (f:=D.int) (p:=λi=>(mateI p i).isNone) (e:=D.int) (S:=S) (step:=λx acc S2=>match a0h' (.var 0) x [none,some (pD p)]with
    |some ρ'=>(denTs a0O' G0 [.bnot (.blt .any [llI])] ρ' S2).bind λk S3=>if k=true then denB a0O' G0 (.emit (.var 0)) ρ' acc S3 else .ok acc S3
    |none=>.fail) (λi hi acc ha=>by
   have ha':acc.length<16777216:=ha;have ha1:a0h' (.var 0) (.int i) [none,some (pD p)]=some [some (.int i),some (pD p)]:=rfl;have e1:=hI i;have e2:anyD [.lst (p.map λt=>D.bl (hasP i t))] S=.ok (.bl (p.any (hasP i))) S:=K50.b1U';rw[ha1,b2j'];generalize llI=C at*;generalize p.map (λt=>D.bl (hasP i t))=L at*;generalize p.any (hasP i)=b at*;cases b<;>simp[denTs,denT,denB,den,denL,Res.bind,bltD,e1,e2,Res.noErr,truD,ha']) (show(a0t' 0 m.toNat).length≤16777216 by rw[K50.a0e'];omega)
 rw[a8g'];refine a2k' ?_;rw[denS,den,denL,hC];rfl
theorem top_mem(M:Most m ts G k)(W:Web m ts){p:List Ti}(hp:p∈G):Chn ts p:=by
 obtain⟨G',g1,g2,g3⟩:=K50.a7x' (allP m ts);have h1:pD p∈G'.map pD:=by rw[←g1,M.is];exact List.mem_map_of_mem hp
 obtain⟨q,hq,e⟩:=Zy.mp h1;obtain rfl:=K50.b5S' e;exact(((K50.a9f' W).2 _).mp ((g3 _).mp hq)).1
end
section
variable {ts:List Ti}
end
theorem b3H'{e:CE}{tg:CT}{rs:α→Rho}{it:CE}{ds:List α}{h:α→D}{f:α→D}(hi:denI Φ G0 it ρ S=.ok (.items (ds.map h)) S)(hr:fr.map (λj=>j.bind λj=>(ρ[j]?).join)=r0)
  (ha:∀d∈ds,a0h' tg (h d) r0=some (rs d)) (hl:ds.length≤100000) (he:∀d∈ds,den Φ G0 e (rs d) S=.ok (f d) S):den Φ G0 (.comp false N fr tg it [] (.emit e)) ρ S=.ok (.lst (ds.map f)) S:=by
 refine a0K' hi ?_;rw[hr]
 have:=a0f' (f:=h) (p:=λ_=>true) (e:=f) (xs:=ds) (S:=S) (step:=λy acc S2=>match a0h' tg y r0 with
    |some ρ'=>(denTs Φ G0 [] ρ' S2).bind λk S3=>if k=true then denB Φ G0 (.emit e) ρ' acc S3 else .ok acc S3
    |none=>.fail) (λd hd acc hac=>by
     have ha':acc.length<16777216:=hac
     show(match a0h' tg (h d) r0 with
      |some ρ'=>(denTs Φ G0 [] ρ' S).bind λk S3=>if k=true then denB Φ G0 (.emit e) ρ' acc S3 else .ok acc S3
      |none=>.fail)=_
     rw[ha d hd];simp[denTs,denB,Res.bind,he d hd,ha']) (show ds.length≤16777216 by omega)
 rw[List.filter_eq_self.mpr (λ_ _=>rfl)]at this;exact this
theorem blt_of{b:Blt}{e:CE}{r:D}(h:den Φ G0 e ρ S=.ok d S)(hb:bltD b [d] S=.ok r S):den Φ G0 (.blt b [e]) ρ S=.ok r S:=by simp only[den,denL,h,Res.bind,hb,Res.noErr]
theorem T_blt{b:Blt}{es:List CE}{k:Bool}(h:den Φ G0 (.blt b es) ρ S=.ok (.bl k) S):denT Φ G0 (.blt b es) ρ S=.ok k S:=by
 rw[den]at h;rw[denT];cases e:denL Φ G0 es ρ S with
 |ok ds S1=>
  rw[e]at h;simp only[Res.bind]at h⊢;cases e2:(bltD b ds S1)with
  |ok d S2=>rw[e2]at h;simp only[Res.noErr]at h⊢;cases h;rfl
  |err x S2=>rw[e2]at h;cases h
  |fail=>rw[e2]at h;cases h
 |err x S1=>rw[e]at h;cases h
 |fail=>rw[e]at h;cases h
theorem a3W'{e:CE}(he:den Φ G0 e ρ S=.ok d S)(hi:a0P' S d=some (.items ds)):denI Φ G0 (.seq e) ρ S=.ok (.items ds) S:=by rw[denI,he];simp only[Res.bind,hi]
theorem b2k'{i:Nat}(h:ρ[i]?=some (some d)):den Φ G0 (.var i) ρ S=.ok d S:=by simp only[den,h]
theorem b5Z':den Φ G0 (.lit d) ρ S=.ok d S:=by simp only[den]
theorem b6a'{a b:CE}{x e:D}(h1:den Φ G0 a ρ S=.ok d S1)(h2:den Φ G0 b ρ S1=.ok e S2)(h3:idxD d e S2=.ok x S2):den Φ G0 (.idx a b) ρ S=.ok x S2:=by simp only[den,h1,h2,Res.bind,h3,Res.noErr]
theorem b6b'{o:Operator}{a b:CE}{x e:D}(h1:den Φ G0 a ρ S=.ok d S1)(h2:den Φ G0 b ρ S1=.ok e S2)(h3:opD o d e S2=.ok x S2):den Φ G0 (.bin o a b) ρ S=.ok x S2:=by simp only[den,h1,h2,Res.bind,h3,Res.noErr]
theorem add_tup{p q:List D}(h:p.length+q.length≤1000):opD .Add (.tup p) (.tup q) S=.ok (.tup (p++q)) S:=by
 have e1:opD .Add (.tup p) (.tup q) S=if p.length+q.length≤big then .ok (.tup (p++q)) S else .fail:=by simp only[opD,addD]
 rw[e1,if_pos (by show _≤16777216;omega)]
theorem T_call{f:Str}{a b:CE}{x y:D}{k:Bool}(hf:Φ f=some φ)(h1:den Φ G0 a ρ S=.ok x S)(h2:den Φ G0 b ρ S=.ok y S)(h:φ [x,y] S=.ok (.bl k) S):denT Φ G0 (.call f [a,b]) ρ S=.ok k S:=by simp only[denT,denL,hf,h1,h2,Res.bind,h,truD]
theorem T_not{e:CE}{k:Bool}(h:denT Φ G0 e ρ S=.ok k S):denT Φ G0 (.bnot e) ρ S=.ok (!k) S:=by simp only[denT,h,Res.bind]
theorem ret_go{c:CE}(h:denT Φ G0 c ρ S=.ok false S):denSs Φ G0 (.ite c [.ret (.lit (.bl false))] []::cs) ρ S=denSs Φ G0 cs ρ S:=by refine a0k' ?_;rw[a5t' h];simp only[ZT,if_false,denSs]
theorem T_or{a b:CE}{x y:Bool}(h1:denT Φ G0 a ρ S=.ok x S)(h2:denT Φ G0 b ρ S=.ok y S):denT Φ G0 (.bor a b) ρ S=.ok (x||y) S:=by
 simp only[denT,h1,Res.bind];cases x
 ·simp[h2]
 ·simp
theorem T_cm{o:CmpOp}{a b:CE}{e:D}{k:Bool}(h1:den Φ G0 a ρ S=.ok d S)(h2:den Φ G0 b ρ S=.ok e S)(h3:cmpD o d e S=.ok (.bl k) S):denT Φ G0 (.cmp o a b) ρ S=.ok k S:=by simp only[denT,h1,h2,Res.bind,h3,Res.noErr,onBl]
theorem comp_if{e c:CE}{tg:CT}{rs:α→Rho}{it:CE}{ds:List α}{h f:α→D}{p:α→Bool}(hi:denI Φ G0 it ρ S=.ok (.items (ds.map h)) S)(hr:fr.map (λj=>j.bind λj=>(ρ[j]?).join)=r0)
  (ha:∀d∈ds,a0h' tg (h d) r0=some (rs d)) (hl:ds.length≤1000000) (hp:∀d∈ds,denT Φ G0 c (rs d) S=.ok (p d) S) (he:∀d∈ds,den Φ G0 e (rs d) S=.ok (f d) S):den Φ G0 (.comp false N fr tg it [c] (.emit e)) ρ S=.ok (.lst ((ds.filter p).map f)) S:=by
 refine a0K' hi ?_;rw[hr]
 exact a0f' (f:=h) (p:=p) (e:=f) (xs:=ds) (S:=S) (step:=λy acc S2=>match a0h' tg y r0 with
    |some ρ'=>(denTs Φ G0 [c] ρ' S2).bind λk S3=>if k=true then denB Φ G0 (.emit e) ρ' acc S3 else .ok acc S3
    |none=>.fail) (λd hd acc hac=>by
     have ha':acc.length<16777216:=hac
     show(match a0h' tg (h d) r0 with
      |some ρ'=>(denTs Φ G0 [c] ρ' S).bind λk S3=>if k=true then denB Φ G0 (.emit e) ρ' acc S3 else .ok acc S3
      |none=>.fail)=_
     rw[ha d hd];simp only[denTs,hp d hd,Res.bind];cases p d with
     |true=>simp[denB,Res.bind,he d hd,ha']
     |false=>simp) (show ds.length≤16777216 by omega)
section
variable {ps:Lq}
end
section
variable {ps:Lq}
end
section
variable {ps:Lq}
end
section
variable {ts ps:List Ti}
end
noncomputable def nearL(ts:Lq)(p:Int):Li:=(ts.filter λt=>decide (p=t.1∨p=t.2)).map λt=>t.1+t.2-p
theorem b2l'(ts:Lq)(p:Int):(nearL ts p).length≤ts.length:=by unfold nearL;rw[Zm];exact ZF _ _
theorem b2m'(W:Web m ts)(p:Int):(nearL ts p).Nodup:=by unfold nearL List.Nodup;rw[Z7];have h:(ts.filter λt=>decide (p=t.1∨p=t.2)).Pairwise K50.lexlt:=W.ris.filter _;refine h.imp_of_mem λ{a b} ha hb hab=>?_;obtain⟨ha1,ha2⟩:=Zn.mp ha;obtain⟨hb1,hb2⟩:=Zn.mp hb;have ha2:=of_decide_eq_true ha2;have hb2:=of_decide_eq_true hb2;have:=W.tie a ha1;have:=W.tie b hb1;unfold K50.lexlt at hab;omega
theorem b4x'(hS:Flat S)(W:Web m ts)(p:Int):a1o' [webD m ts,.int p] S=.ok (.lst ((nearL ts p).map D.int)) S:=by
 have hlow:∀l:Li,lowD 0 (.lst (l.map D.int))=true:=λl=>K50.a1F' l;refine a0z' rfl ?_ rfl hS (hlow _);show denSs a4V' G0 a7i' [some (webD m ts),some (.int p)] S=_;have hx:idxD (webD m ts) (.int 1) S=.ok (.tup (tiesD ts)) S:=rfl;have hf:=W.few;refine a2k' (K50.a9U' ?_)
 have h:=comp_if (S:=S) (Φ:=a4V') (N:=["_law_one","_law_other","_law_place"]) (fr:=[none,none,some 1]) (tg:=.tup [.var 0,.var 1]) (it:=.seq (.idx (.var 0) (.lit (.int 1)))) (c:=.cmp .In (.var 2) (.tup [.var 0,.var 1])) (e:=.bin .Sub (.bin .Add (.var 0) (.var 1)) (.var 2)) (ρ:=[some (webD m ts),some (.int p)]) (ds:=ts) (h:=tieD) (r0:=[none,none,some (.int p)]) (rs:=λt=>[some (.int t.1),some (.int t.2),some (.int p)]) (p:=λt=>decide (p=t.1∨p=t.2)) (f:=λt=>.int (t.1+t.2-p)) (a3W' (b6a' (b2k' (i:=0) rfl) b5Z' hx) rfl) rfl (λ_ _=>rfl) (by omega) (λt _=>by refine T_cm (e:=tieD t) (b2k' (i:=2) rfl) (by simp only[den,denL,Res.bind,Zg,Zh];rfl) ?_;have:=K50.in_tie S p t;show boolR (inD (.int p) (tieD t) S) S=_;rw[this];rfl) (λt _=>b6b' (b6b' (b2k' rfl) (b2k' rfl) (o_add _ _)) (b2k' rfl) (o_sub _ _));unfold nearL;rw[Z3];exact h
section
variable {ts ps:List Ti}
end
section
variable {ps:Lq}
end
section
variable {ts ps:List Ti}
theorem T_and{a b:CE}{x y:Bool}(h1:denT Φ G0 a ρ S=.ok x S)(h2:denT Φ G0 b ρ S=.ok y S):denT Φ G0 (.band a b) ρ S=.ok (x&&y) S:=by
 simp only[denT,h1,Res.bind];cases x
 ·simp
 ·simp[h2]
theorem tru_lst(xs:List D):truD T (.lst xs)=some (!xs.isEmpty):=rfl
end
section
variable {ts ps:List Ti}
theorem b2n'{f:α→D}{g:α→List D}{c:Nat}{step:D→List D→Store→Res (List D)}{xs:List α}(hg:∀x,(g x).length≤c)(hk:S[k]?=some (xs.map f))(h:∀x∈xs,∀acc,acc.length+c≤big→step (f x) acc S=.ok (acc++g x) S):∀n i acc,i+n=xs.length→acc.length+c*n≤big→compB step (a2g' k) (n+1) i acc S=.ok (acc++(xs.drop i).flatMap g) S:=by
 have hb:∀i,a2g' k S i=some ((xs.map f)[i]?):=λi=>by unfold a2g';rw[hk];rfl
 intro n
 induction n with
 |zero=>intro i acc hi _;unfold compB;rw[hb,List.getElem?_eq_none (by rw[Zm];omega),List.drop_eq_nil_of_le (by omega)];simp
 |succ n ih=>
  intro i acc hi hl;rw[Nat.mul_add,Nat.mul_one]at hl;have hx:(xs.map f)[i]?=some (f xs[i]):=by rw[ZW,Ze (by omega)];rfl
  unfold compB;rw[hb,hx,Z8 (by omega)];dsimp only;rw[h _ (ZY _) acc (by omega)];refine(ih (i+1) (acc++g xs[i]) (by omega) (by have:=hg xs[i];rw[Zp];omega)).trans ?_;rw[List.flatMap_cons,Zu]
end
open Pc
theorem a5g':∀l:List (Li),lowL 0 (l.map tupI)=true
 | []=>rfl
 |x::l=>by show(lowD 0 (tupI x)&&lowL 0 (l.map tupI))=true;rw[a5g' l,Bool.and_true];exact K50.a1F' _
end K50
namespace K50
section
variable {ts ps:List Ti}
end
section
variable {ts ps:List Ti}
end
section
variable {ts ps:List Ti}
theorem compF{e t:CE}{tg:CT}{rs:α→Rho}{it:CE}{ds:List α}{h:α→D}{f:α→D}{p:α→Bool}(hi:denI Φ G0 it ρ S=.ok (.items (ds.map h)) S)(hr:fr.map (λj=>j.bind λj=>(ρ[j]?).join)=r0)
  (ha:∀d∈ds,a0h' tg (h d) r0=some (rs d)) (hl:ds.length≤100000) (ht:∀d∈ds,denT Φ G0 t (rs d) S=.ok (p d) S) (he:∀d∈ds,p d=true→den Φ G0 e (rs d) S=.ok (f d) S):den Φ G0 (.comp false N fr tg it [t] (.emit e)) ρ S=.ok (.lst ((ds.filter p).map f)) S:=by
 refine a0K' hi ?_;rw[hr]
 have:=a1y' (f:=h) (p:=p) (e:=f) (S:=S) (step:=λy acc S2=>match a0h' tg y r0 with
    |some ρ'=>(denTs Φ G0 [t] ρ' S2).bind λk S3=>if k=true then denB Φ G0 (.emit e) ρ' acc S3 else .ok acc S3
    |none=>.fail) ds [] (λd hd acc hac=>by
     have ha':acc.length<16777216:=hac
     show(match a0h' tg (h d) r0 with
      |some ρ'=>(denTs Φ G0 [t] ρ' S).bind λk S3=>if k=true then denB Φ G0 (.emit e) ρ' acc S3 else .ok acc S3
      |none=>.fail)=_
     rw[ha d hd];have q:=ht d hd;cases hb:p d with
     |false=>rw[hb]at q;simp only[denTs,q,Res.bind,ZT,if_false]
     |true=>rw[hb]at q;simp only[denTs,q,Res.bind,if_true,denB,he d hd hb,ha']) (show 0+ds.length≤16777216 by omega)
 rw[Z9]at this;exact this
end
theorem a8h':a1J'=K50.a1J':=rfl
theorem a7A':a0G'=K50.a0G':=rfl
section
variable {ts p:List Ti}
noncomputable def missB(m:Int)(P:List (List Ti))(q:Int):Bool:=P.any λp=>decide (q∈a1r' m p)
noncomputable def missI(m:Int)(P:List (List Ti)):Li:=(a0t' 0 m.toNat).filter (missB m P)
noncomputable def besI(ts:List Ti)(M O:Li):Li:=O.filter λq=>M.any λo=>tied ts q o
def resI(B O:Li):Li:=O.filter λq=> !B.contains q
theorem a1A'{f:Int→Bool}:((a0t' 0 m.toNat).filter f).length≤m.toNat:=by refine ZP (ZF _ _) ?_;rw[K50.a0e'];exact Zi _
theorem b2o'(h:q∈a1r' m p):0≤q∧q<m.toNat:=by have:=a1c' (Zn.mp h).1;omega
theorem T_in{a b:CE}(ha:den Φ G0 a ρ S=.ok (.int q) S)(hb:den Φ G0 b ρ S=.ok d S)(hd:seqOf S d=some (l.map D.int)):den Φ G0 (.cmp .In a b) ρ S=.ok (.bl (decide (q∈l))) S:=by have hin:=a5P' hd q;simp only[den,ha,hb,Res.bind,Res.noErr,cmpD,hin,boolR]
theorem a9j'{a b:CE}(ha:den Φ G0 a ρ S=.ok (.int q) S)(hb:den Φ G0 b ρ S=.ok d S)(hd:seqOf S d=some (l.map D.int)):denT Φ G0 (.cmp .NotIn a b) ρ S=.ok (!l.contains q) S:=by
 have hin:=a5P' hd q;have e:decide (q∈l)=l.contains q:=by rw[Bool.eq_iff_iff,Z0,List.contains_iff_mem]
 rw[e]at hin;simp only[denT,den,ha,hb,Res.bind,Res.noErr,cmpD,hin,boolR,onBl,Option.map_some]
theorem b2p'(h1:1≤m)(h8:m≤8)(h0:ρ[0]?=some (some (webD m ts))):denI Φ G0 (.range [.idx (.var 0) (.lit (.int 0))]) ρ S=.ok (.items ((a0t' 0 m.toNat).map D.int)) S:=by have hi:idxD (webD m ts) (.int 0) S=.ok (.int m) S:=rfl;simp[denI,denL,den,Res.bind,Res.noErr,h0,hi,K50.a1N'];omega
theorem oth_of{v:Nat}(h1:1≤m)(h8:m≤8)(h0:ρ[0]?=some (some (webD m ts)))(hv:ρ[v]?=some (some d))(hd:seqOf S d=some (l.map D.int)):den Φ G0 (.comp false N [none,some v] (.var 0) (.range [.idx (.var 0) (.lit (.int 0))]) [.cmp .NotIn (.var 0) (.var 1)] (.emit (.var 0))) ρ S=.ok (.lst ((leftI l m.toNat).map D.int)) S:=
 compF (h:=D.int) (f:=D.int) (p:=λq=> !l.contains q) (r0:=[none,some d]) (rs:=λq=>[some (.int q),some d]) (b2p' h1 h8 h0) (by simp only[ZE,List.map_nil,Option.bind_none,Option.bind_some,hv,Option.join_some]) (λ_ _=>rfl) (by rw[K50.a0e'];omega) (λq _=>a9j' (den_v rfl) (den_v rfl) hd) λq _ _=>den_v rfl
theorem res_of{v u:Nat}{O:Li}(hO:O.length≤1000)(hu:ρ[u]?=some (some (.lst (O.map D.int))))(hv:ρ[v]?=some (some d))(hd:seqOf S d=some (l.map D.int)):den Φ G0 (.comp false N [none,some v] (.var 0) (.seq (.var u)) [.cmp .NotIn (.var 0) (.var 1)] (.emit (.var 0))) ρ S=.ok (.lst ((resI l O).map D.int)) S:=
 compF (h:=D.int) (f:=D.int) (p:=λq=> !l.contains q) (r0:=[none,some d]) (rs:=λq=>[some (.int q),some d]) (a3W' (den_v hu) rfl) (by simp only[ZE,List.map_nil,Option.bind_none,Option.bind_some,hv,Option.join_some]) (λ_ _=>rfl) (by omega) (λq _=>a9j' (den_v rfl) (den_v rfl) hd) λq _ _=>den_v rfl
theorem b6c'{L:List α}{g:α→Bool}{e:CE}(h:den Φ G0 e ρ S=.ok (.lst (L.map λo=>D.bl (g o))) S):denT Φ G0 (.blt .any [e]) ρ S=.ok (L.any g) S:=
 T_blt (blt_of h K50.b1U')
theorem b6d'(W:Web m ts)(M:Most m ts G k){p:List Ti}(h:p∈topP G k):Pairing ts p∧p.length≤8:=by have hc:=K50.top_mem M W (Zn.mp h).1;exact⟨K50.a9Z' W hc,K50.b1Z' W hc⟩
theorem b4y'{a b c:CE}{x y z:D}(h1:den Φ G0 a ρ S=.ok x S)(h2:den Φ G0 b ρ S=.ok y S)(h3:den Φ G0 c ρ S=.ok z S):den Φ G0 (.tup [a,b,c]) ρ S=.ok (.tup [x,y,z]) S:=by simp only[den,denL,h1,h2,h3,Res.bind]
theorem low3(a b c:Li):lowD 0 (.tup [tupJ a,tupJ b,tupJ c])=true:=by show(lowD 0 (tupJ a)&&(lowD 0 (tupJ b)&&(lowD 0 (tupJ c)&&true)))=true;rw[a6x',a6x',a6x'];rfl
theorem b0d':a3P'=[.asg 1 lpR,.asg 2 lpM,.asg 3 (.comp false ["_law_place","_law_missed"] [none,some 2] (.var 0) (.range [.idx (.var 0) (.lit (.int 0))]) [.cmp .NotIn (.var 0) (.var 1)] (.emit (.var 0))),.asg 4 lpB,.ret (.tup [.blt .tuple [.var 2],.blt .tuple [.var 4],.blt .tuple [.comp false ["_law_place","_law_by_these"] [none,some 4] (.var 0) (.seq (.var 3)) [.cmp .NotIn (.var 0) (.var 1)] (.emit (.var 0))]])]:=rfl
noncomputable def lbesI(ts:List Ti)(M O:Li):Li:=O.filter λq=>(nearL ts q).any λo=>decide (o∈M)
theorem b3I'(hS:Flat S)(W:Web m ts)(M:Most m ts G k):a2O' [webD m ts] S=.ok (.tup [tupJ (missI m (topP G k)),tupJ (lbesI ts (missI m (topP G k)) (leftI (missI m (topP G k)) m.toNat)),tupJ (resI (lbesI ts (missI m (topP G k)) (leftI (missI m (topP G k)) m.toNat)) (leftI (missI m (topP G k)) m.toNat))]) S:=by
 have w1:=W.lo;have w2:=W.hi;have hfew:(topP G k).length≤40320:=ZP (ZF _ _) M.few;have e1:=K50.a8f' hS W M;rw[←a7A']at e1;refine a0z' rfl ?_ rfl hS ?_
 ·show denSs a0H' G0 a3P' [some (webD m ts),none,none,none,none] S=_;rw[b0d'];generalize hP:topP G k=P at*;have hp:∀p∈P,p.length≤1000:=λp hp=>by rw[←hP]at hp;have:=(b6d' W M hp).2;omega
  have s1:den a0H' G0 lpR [some (webD m ts),none,none,none,none] S=.ok (.lst (P.map λp=>tupJ (a1r' m p))) S:=
   b3H' (h:=pD) (f:=λp=>tupJ (a1r' m p)) (ds:=P) (r0:=[none,some (webD m ts)]) (rs:=λp=>[some (pD p),some (webD m ts)]) (a3W' (a3H' a1K' (den_v rfl) e1) rfl) rfl (λ_ _=>rfl) (by omega) λp hq=>a2Q' a2D' (den_v rfl) (den_v rfl) (b3G' hS w1 w2 (hp p hq))
  refine(a0s' s1).trans ?_;generalize hM:missI m P=N;have s2:den a0H' G0 lpM [some (webD m ts),some (.lst (P.map λp=>tupJ (a1r' m p))),none,none,none] S=.ok (.lst (N.map D.int)) S:=by rw[←hM];refine compF (h:=D.int) (f:=D.int) (p:=missB m P) (r0:=[none,some (.lst (P.map λp=>tupJ (a1r' m p)))]) (rs:=λq=>[some (.int q),some (.lst (P.map λp=>tupJ (a1r' m p)))]) (b2p' w1 w2 rfl) rfl (λ_ _=>rfl) (by rw[K50.a0e'];omega) (λq _=>b6c' ?_) λq _ _=>den_v rfl;exact b3H' (h:=λp=>tupJ (a1r' m p)) (f:=λp=>D.bl (decide (q∈a1r' m p))) (ds:=P) (r0:=[none,some (.int q)]) (rs:=λp=>[some (tupJ (a1r' m p)),some (.int q)]) (a3W' (den_v rfl) rfl) rfl (λ_ _=>rfl) (by omega) λp _=>T_in (den_v rfl) (den_v rfl) rfl
  refine(a0s' s2).trans ?_;have lN:N.length≤8:=by rw[←hM];have:=a1A' (m:=m) (f:=missB m P);unfold missI;omega
  refine(a0s' (oth_of (l:=N) w1 w2 rfl rfl rfl)).trans ?_;generalize hO:leftI N m.toNat=O;have lO:O.length≤8:=by rw[←hO];have:=a1A' (m:=m) (f:=λp=> !N.contains p);unfold leftI;omega
  have s4:den a0H' G0 lpB [some (webD m ts),some (.lst (P.map λp=>tupJ (a1r' m p))),some (.lst (N.map D.int)),some (.lst (O.map D.int)),none] S=.ok (.lst ((lbesI ts N O).map D.int)) S:=by refine compF (h:=D.int) (f:=D.int) (p:=λq=>(nearL ts q).any λo=>decide (o∈N)) (r0:=[none,some (webD m ts),some (.lst (N.map D.int))]) (rs:=λq=>[some (.int q),some (webD m ts),some (.lst (N.map D.int))]) (a3W' (den_v rfl) rfl) rfl (λ_ _=>rfl) (by omega) (λq _=>b6c' ?_) λq _ _=>den_v rfl;have en:=K50.b4x' hS W q;exact b3H' (h:=D.int) (f:=λo=>D.bl (decide (o∈N))) (ds:=nearL ts q) (r0:=[none,some (.lst (N.map D.int))]) (rs:=λo=>[some (.int o),some (.lst (N.map D.int))]) (a3W' (a2Q' a2U' (den_v rfl) (den_v rfl) en) rfl) rfl (λ_ _=>rfl) (by have:=K50.b2l' ts q;have:=W.few;omega) λo _=>T_in (den_v rfl) (den_v rfl) rfl
  refine(a0s' s4).trans ?_;have s5:=res_of (S:=S) (Φ:=a0H') (N:=["_law_place","_law_by_these"]) (l:=lbesI ts N O) (O:=O) (v:=4) (u:=3) (ρ:=[some (webD m ts),some (.lst (P.map λp=>tupJ (a1r' m p))),some (.lst (N.map D.int)),some (.lst (O.map D.int)),some (.lst ((lbesI ts N O).map D.int))]) (by omega) rfl rfl rfl;refine a2k' (a9U' ?_);exact b4y' (a0S' (den_v rfl) rfl) (a0S' (den_v rfl) rfl) (a0S' s5 rfl)
 ·exact low3 _ _ _
end
section
variable {ts p:List Ti}
theorem b2q':a7f'=[.asg 1 prF50,.asg 2 (.blt .tuple [.sset (.var 1)]),.asg 3 (.comp false ["place","missed"] [none,some 2] (.var 0) (.range [.idx (.var 0) (.lit (.int 0))]) [.cmp .NotIn (.var 0) (.var 1)] (.emit (.var 0))),.asg 4 (.blt .tuple [prB50]),.ret (.tup [.var 2,.var 4,.blt .tuple [.comp false ["place","beside"] [none,some 4] (.var 0) (.seq (.var 3)) [.cmp .NotIn (.var 0) (.var 1)] (.emit (.var 0))]])]:=rfl
def freeI(m:Int)(P:List (List Ti)):Li:=P.flatMap (a1r' m)
theorem a7B'(h8:m≤8)(p:List Ti):(a1r' m p).length≤8:=by refine ZP (ZF _ _) ?_;rw[K50.a0e'];omega
theorem prF_in{w:D}{L:Li}{acc:List D}(hb:acc.length+1*L.length≤16777216):compD (λx acc S2=>match a0h' (.var 1) x [some d,none,some w]with
    |some ρ'=>(denTs a1f' G0 [] ρ' S2).bind λk S3=>if k=true then denB a1f' G0 (.emit (.var 1)) ρ' acc S3 else .ok acc S3
    |none=>.fail) (L.map D.int) acc T=.ok (acc++L.flatMap λq=>[D.int q]) T:=by
 refine a4Z' (f:=D.int) (g:=λq:Int=>[D.int q]) (c:=1) (S:=T) (λ_=>Zi 1) L acc (λq hq acc ha=>?_) hb;have ha':acc.length+1≤16777216:=ha;have ha2:a0h' (.var 1) (.int q) [some d,none,some w]=some [some d,some (.int q),some w]:=rfl;rw[ha2];have:acc.length<16777216:=by omega
 simp[denTs,denB,den,Res.bind,this]
theorem prF_eq(hS:Flat S)(W:Web m ts)(M:Most m ts G k):den a1f' G0 prF50 [some (webD m ts),none,none,none,none] S=.ok (.lst ((freeI m (topP G k)).map D.int)) (S++[(topP G k).map pD]):=by
 have e1:=K50.b0b' hS W M;rw[←a8h']at e1;have hfew:(topP G k).length≤40320:=ZP (ZF _ _) M.few;have hS1:Flat (S++[(topP G k).map pD]):=hS.snoc (a2c' (topP G k));refine a0K' (its:=.live (((topP G k).map pD).length+1) (a2g' S.length)) (S1:=S++[(topP G k).map pD]) (by simp only[denI,den,denL,Zh,Zg,Res.bind,a4n',e1,a0P',boxE,Option.getD_some]) ?_
 have:=K50.b2n' (xs:=topP G k) (f:=pD) (g:=λp=>(a1r' m p).map D.int) (c:=8) (S:=S++[(topP G k).map pD]) (k:=S.length) (step:=λx acc S2=>match a0h' (.var 0) x [none,none,some (webD m ts)]with
    |some ρ'=>(denTs a1f' G0 [] ρ' S2).bind λk S3=>if k=true then denB a1f' G0 (.inner (.var 1) (.seq (.call "loose_of" [.var 2,.var 0])) [] (.emit (.var 1))) ρ' acc S3 else .ok acc S3
    |none=>.fail) (λp=>by rw[Zm];exact a7B' W.hi p) boxE (λp hp acc ha=>by have ha':acc.length+8≤16777216:=ha;have h2:a2z' [webD m ts,pD p] (S++[(topP G k).map pD])=.ok (tupJ (a1r' m p)) (S++[(topP G k).map pD]):=K50.a9T' hS1 W.lo W.hi ts p;have hl:=a7B' W.hi p;have ha1:a0h' (.var 0) (pD p) [none,none,some (webD m ts)]=some [some (pD p),none,some (webD m ts)]:=rfl;rw[ha1];generalize S++[(topP G k).map pD]=T at*;simp only[denTs,Res.bind,if_true];rw[denB];have hI:denI a1f' G0 (.seq (.call "loose_of" [.var 2,.var 0])) [some (pD p),none,some (webD m ts)] T=.ok (.items ((a1r' m p).map D.int)) T:=a3W' (a2Q' a4o' (den_v rfl) (den_v rfl) h2) rfl;rw[hI];generalize a1r' m p=L at*;refine Eq.trans (prF_in (show acc.length+1*L.length≤16777216 by omega)) ?_;rw[←List.map_eq_flatMap]) (topP G k).length 0 [] (by simp) (by show 0+8*(topP G k).length≤16777216;omega)
 rw[Z9,List.drop_zero]at this;rw[Zm];refine Eq.trans this ?_;unfold freeI;rw[List.map_flatMap]
theorem a9k':∀l:Li,(l.map D.int).filterMap asInt=l
 | []=>rfl
 |x::l=>by rw[ZE,List.filterMap_cons];show x::(l.map D.int).filterMap asInt=_;rw[a9k' l]
theorem b3J'(h8:m≤8){P:List (List Ti)}:ssetD (.lst ((freeI m P).map D.int)) T=.ok (.lst ((missI m P).map D.int)) T:=by
 have hm:∀q,q∈freeI m P↔∃p∈P,q∈a1r' m p:=λq=>List.mem_flatMap;have e:ssetD (.lst ((freeI m P).map D.int)) T=if((freeI m P).map D.int).all lowP=true then .ok (.lst (((List.range 8).filter λk:Nat=>(((freeI m P).map D.int).filterMap asInt).contains (k:Int)).map λk:Nat=>D.int k)) T else .fail:=rfl;rw[e,if_pos,a9k']
 ·have:((List.range 8).filter λk:Nat=>(freeI m P).contains (k:Int)).map (λk:Nat=>(k:Int))=missI m P:=by
   refine Pc.a2I' ?_ (Pc.a0v'.sublist ZK) λq=>?_
   ·rw[Z7];exact(List.pairwise_lt_range.sublist ZK).imp λh=>by omega
   ·unfold missI missB;rw[Zy,Zn,Pc.a1s',List.any_eq_true];constructor
    ·rintro⟨n,hn,rfl⟩;obtain⟨p,hp,hq⟩:=(hm _).mp (List.contains_iff_mem.mp (Zn.mp hn).2);have:=b2o' hq;exact⟨by omega,p,hp,ZR hq⟩
    ·rintro⟨h1,p,hp,hq⟩;have hq:=of_decide_eq_true hq;refine⟨q.toNat,Zn.mpr ⟨Yb.mpr (by omega),?_⟩,by omega⟩;rw[List.contains_iff_mem,show((q.toNat:Nat):Int)=q by omega];exact(hm q).mpr ⟨p,hp,hq⟩
  rw[←this,Z3];rfl
 ·refine ZQ.mpr λx hx=>?_;obtain⟨q,hq,rfl⟩:=Zy.mp hx;obtain⟨p,hp,hq⟩:=(hm q).mp hq;have:=b2o' hq;simp only[lowP,ZA,Z0];omega
theorem b2r'(hS:Flat S)(W:Web m ts)(M:Most m ts G k):a5G' [webD m ts] S=.ok (.tup [tupJ (missI m (topP G k)),tupJ (besI ts (missI m (topP G k)) (leftI (missI m (topP G k)) m.toNat)),tupJ (resI (besI ts (missI m (topP G k)) (leftI (missI m (topP G k)) m.toNat)) (leftI (missI m (topP G k)) m.toNat))]) S:=by
 have w1:=W.lo;have w2:=W.hi;have s1:=prF_eq hS W M;have hS1:Flat (S++[(topP G k).map pD]):=hS.snoc (a2c' (topP G k))
 have hd:denSs a1f' G0 a7f' [some (webD m ts),none,none,none,none] S=.ok (.ret (.tup [tupJ (missI m (topP G k)),tupJ (besI ts (missI m (topP G k)) (leftI (missI m (topP G k)) m.toNat)),tupJ (resI (besI ts (missI m (topP G k)) (leftI (missI m (topP G k)) m.toNat)) (leftI (missI m (topP G k)) m.toNat))])) (S++[(topP G k).map pD]):=by
  rw[b2q'];refine(a0s' s1).trans ?_;generalize S++[(topP G k).map pD]=T at*;generalize topP G k=P at*;have s2:den a1f' G0 (.blt .tuple [.sset (.var 1)]) [some (webD m ts),some (.lst ((freeI m P).map D.int)),none,none,none] T=.ok (tupJ (missI m P)) T:=by refine a0S' (d:=.lst ((missI m P).map D.int)) (S1:=T) ?_ rfl;rw[den,den_v (d:=.lst ((freeI m P).map D.int)) rfl];simp only[Res.bind,b3J' w2,Res.noErr]
  refine(a0s' s2).trans ?_;generalize hM:missI m P=N;have lN:N.length≤8:=by rw[←hM];have:=a1A' (m:=m) (f:=missB m P);unfold missI;omega
  refine(a0s' (oth_of (l:=N) w1 w2 rfl rfl rfl)).trans ?_;generalize hO:leftI N m.toNat=O;have lO:O.length≤8:=by rw[←hO];have:=a1A' (m:=m) (f:=λp=> !N.contains p);unfold leftI;omega
  have s4:den a1f' G0 prB50 [some (webD m ts),some (.lst ((freeI m P).map D.int)),some (tupJ N),some (.lst (O.map D.int)),none] T=.ok (.lst ((besI ts N O).map D.int)) T:=by refine compF (h:=D.int) (f:=D.int) (p:=λq=>N.any λo=>tied ts q o) (r0:=[none,some (tupJ N),some (webD m ts)]) (rs:=λq=>[some (.int q),some (tupJ N),some (webD m ts)]) (a3W' (den_v rfl) rfl) rfl (λ_ _=>rfl) (by omega) (λq _=>b6c' ?_) λq _ _=>den_v rfl;refine b3H' (h:=D.int) (f:=λo=>D.bl (tied ts q o)) (ds:=N) (r0:=[none,some (webD m ts),some (.int q)]) (rs:=λo=>[some (.int o),some (webD m ts),some (.int q)]) (a3W' (den_v rfl) rfl) rfl (λ_ _=>rfl) (by omega) λo _=>?_;have h3:a1m' [webD m ts,.int q,.int o] T=.ok (.bl (tied ts q o)) T:=K50.a5M' hS1 m ts q o;simp only[den,denL,Res.bind,Zh,Zg,a4p',h3]
  refine(a0s' (a0S' s4 (r:=tupJ (besI ts N O)) (S2:=T) rfl)).trans ?_;have s5:=res_of (S:=T) (Φ:=a1f') (N:=["place","beside"]) (l:=besI ts N O) (O:=O) (v:=4) (u:=3) (ρ:=[some (webD m ts),some (.lst ((freeI m P).map D.int)),some (tupJ N),some (.lst (O.map D.int)),some (tupJ (besI ts N O))]) (by omega) rfl rfl rfl;exact a2k' (a9U' (b4y' (den_v rfl) (den_v rfl) (a0S' s5 rfl)))
 show runD a1f' G0 a7f' b1z'.length 1 [webD m ts] S=_;unfold runD;rw[if_pos (show [webD m ts].length=1 from rfl),show denSs a1f' G0 a7f' (([webD m ts]:List D).map some++List.replicate (b1z'.length-1) none) S=_ from hd];show trim S.length _ (S++[(topP G k).map pD])=_;rw[K50.a3G' (by rw[List.take_left' rfl];exact hS) (low3 _ _ _),List.take_left' rfl]
theorem b6e'(W:Web m ts){N O:Li}(hO:∀q∈O,0≤q∧q<m)(hN:∀q∈N,0≤q∧q<m):lbesI ts N O=besI ts N O:=by
 unfold lbesI besI;refine List.filter_congr λq hq=>?_;have hs:=K50.a9b' W (hO q hq)
 have hm:∀o,o∈nearL ts q↔(0≤o∧o<m)∧tied ts q o=true:=λo=>by
  have e:o∈nearL ts q↔o∈nearI m ts q:=by rw[hs,(K50.a1d' _).mem_iff];rfl
  rw[e];unfold nearI;rw[Zn,Pc.a1s'];have:=W.lo;constructor
  ·rintro⟨h1,h2⟩;exact⟨by omega,h2⟩
  ·rintro⟨h1,h2⟩;exact⟨by omega,h2⟩
 rw[Bool.eq_iff_iff,List.any_eq_true,List.any_eq_true];constructor
 ·rintro⟨o,h1,h2⟩;exact⟨o,of_decide_eq_true h2,((hm o).mp h1).2⟩
 ·rintro⟨o,h1,h2⟩;exact⟨o,(hm o).mpr ⟨hN o h1,h2⟩,ZR h1⟩
end
open Pc
section
variable {ts:List Ti}
noncomputable def gro(ts:List Ti)(so l:Li)(a:Int):Li:=l++(nearL ts a).filter λq=>decide (q∈so)&& !l.contains q
def rnd(ts:List Ti)(so l:Li):Li:=l.foldl (gro ts so) l
noncomputable def rnds(ts:List Ti)(so:Li):Nat→Li→Li
 |0,l=>l
 |n+1,l=>rnds ts so n (rnd ts so l)
theorem a8i'(W:Web m ts)(hM:leftI so m.toNat=M){a:Int}(ha:a∈M):(q∈nearL ts a∧q∈M)↔Adj ts so a q:=by
 have w1:=W.lo;rw[←hM]at ha⊢;have ha':=K50.a0L'.mp ha;have hs:=K50.a9b' W (p:=a) (by omega);rw[K50.b4n' W a q ha]
 have e:q∈nearL ts a↔q∈nearI m ts a:=by rw[hs,(a1d' _).mem_iff];rfl
 rw[e];unfold nearI;rw[Zn,a1s'];constructor
 ·rintro⟨⟨_,h2⟩,h3⟩;exact⟨h3,h2⟩
 ·rintro⟨h3,h2⟩;have:=(K50.a0L'.mp h3).1;exact⟨⟨by omega,h2⟩,h3⟩
structure Lin (ts:List Ti)(so M:Li)(p:Int)(l:Li):Prop where
 nd:l.Nodup
 st:p∈l
 ok:∀q∈l,q∈M∧Con (Adj ts so) p q
theorem b4z'(W:Web m ts){p a:Int}(hM:leftI so m.toNat=M)(h:Lin ts so M p l)(ha:a∈l):Lin ts so M p (gro ts M l a):=by
 have hn:=K50.b2m' W a;refine⟨?_,ZG _ h.st,λq hq=>?_⟩
 ·refine Z2.mpr ⟨h.nd,hn.sublist ZK,λx hx y hy e=>?_⟩;subst e;have:=(Zn.mp hy).2;simp only[ZA,Yi,List.contains_eq_mem,Z4]at this;exact this.2 hx
 ·rcases Zs.mp hq with h1|h1
  ·exact h.ok q h1
  ·obtain⟨h2,h3⟩:=Zn.mp h1;simp only[ZA,Z0]at h3;have:=h.ok a ha;exact⟨h3.1,this.2.step ((a8i' W hM this.1).mp ⟨h2,h3.1⟩)⟩
theorem a8j'(W:Web m ts){M:Li}{p:Int}(hM:leftI so m.toNat=M):∀(xs l:Li),Lin ts so M p l→(∀a∈xs,a∈l)→Lin ts so M p (xs.foldl (gro ts M) l)∧(∀q∈l,q∈xs.foldl (gro ts M) l)∧l.length≤(xs.foldl (gro ts M) l).length∧∀a∈xs,∀q,Adj ts so a q→q∈xs.foldl (gro ts M) l
 | [],l,h,_=>⟨h,λ_ h=>h,Zi _,λa ha=>by cases ha⟩
 |a::xs,l,h,hx=>by
  have ha:=hx a Zb;have h1:=b4z' W hM h ha;obtain⟨i1,i2,i3,i4⟩:=a8j' W hM xs (gro ts M l a) h1 λb hb=>ZG _ (hx b (Zc _ hb));refine⟨i1,λq hq=>i2 q (ZG _ hq),ZP (by unfold gro;rw[Zp];omega) i3,λb hb q hq=>?_⟩;rcases Zj.mp hb with rfl|hb
  ·refine i2 q ?_;obtain⟨n1,n2⟩:=(a8i' W hM (h.ok b ha).1).mpr hq;by_cases hl:q∈l
   ·exact ZG _ hl
   ·refine Zz _ (Zn.mpr ⟨n1,?_⟩);simp[n2,hl]
  ·exact i4 b hb q hq
def Clo(ts:List Ti)(so l:Li):Prop:=∀a∈l,∀q,Adj ts so a q→q∈l
theorem gro_clo(W:Web m ts){p a:Int}(hM:leftI so m.toNat=M)(h:Lin ts so M p l)(hc:Clo ts so l)(ha:a∈l):gro ts M l a=l:=by unfold gro;rw[List.filter_eq_nil_iff.mpr,Yd];intro q hq z;simp only[ZA,Yi,List.contains_eq_mem,Z4,Z0]at z;exact z.2 (hc a ha q ((a8i' W hM (h.ok a ha).1).mp ⟨hq,z.1⟩))
theorem b2s'(W:Web m ts){M l:Li}{p:Int}(hM:leftI so m.toNat=M)(h:Lin ts so M p l)(hc:Clo ts so l):∀xs:Li,(∀a∈xs,a∈l)→xs.foldl (gro ts M) l=l
 | [],_=>rfl
 |a::xs,hx=>by rw[List.foldl_cons,gro_clo W hM h hc (hx a Zb)];exact b2s' W hM h hc xs λb hb=>hx b (Zc _ hb)
theorem b2t'(W:Web m ts){M l:Li}{p:Int}(hM:leftI so m.toNat=M)(h:Lin ts so M p l)(hc:Clo ts so l):∀n:Nat,rnds ts M n l=l
 |0=>rfl
 |n+1=>by have e:rnd ts M l=l:=b2s' W hM h hc l λ_ h=>h;show rnds ts M n (rnd ts M l)=l;rw[e];exact b2t' W hM h hc n
theorem a6y'(W:Web m ts){M:Li}{p:Int}(hM:leftI so m.toNat=M):∀(n:Nat) (l:Li),Lin ts so M p l→Lin ts so M p (rnds ts M n l)∧(Clo ts so (rnds ts M n l)∨l.length+n≤(rnds ts M n l).length)
 |0,l,h=>⟨h,.inr (Zi _)⟩
 |n+1,l,h=>by
  obtain⟨i1,i2,i3,i4⟩:=a8j' W hM l l h λ_ h=>h;obtain⟨j1,j2⟩:=a6y' W hM n (rnd ts M l) i1;refine⟨j1,?_⟩;by_cases hc:Clo ts so l
  ·rw[b2t' W hM h hc];exact .inl hc
  ·rcases j2 with j2|j2
   ·exact .inl j2
   ·refine .inr ?_;obtain⟨a,ha⟩:=Classical.not_forall.mp hc;obtain⟨ha,hb⟩:=Classical.not_imp.mp ha;obtain⟨q,hq⟩:=Classical.not_forall.mp hb;obtain⟨hq,hn⟩:=Classical.not_imp.mp hq
    have h1:(q::l).length≤(rnd ts M l).length:=(List.nodup_cons.mpr ⟨hn,h.nd⟩).length_le_of_subset λx hx=>by
     rcases Zj.mp hx with rfl|hx
     ·exact i4 a ha x hq
     ·exact i2 x hx
    show l.length+(n+1)≤(rnds ts M n (rnd ts M l)).length;rw[Zw]at h1;omega
theorem b6f'(W:Web m ts){L:Li}{p:Int}(hM:leftI so m.toNat=M)(hL:∀q∈L,q∈M)(hp:p∈L)(hc:∀q,Con (Adj ts so) p q→q∈L):(rnds ts M L.length [p]).Nodup∧∀q,q∈rnds ts M L.length [p]↔Con (Adj ts so) p q:=by
 have h0:Lin ts so M p [p]:=⟨by simp,ZN.mpr rfl,λq hq=>by rw[ZN.mp hq];exact⟨hL p hp,.refl _⟩⟩;obtain⟨h1,h2⟩:=a6y' W hM L.length [p] h0;refine⟨h1.nd,λq=>⟨λh=>(h1.ok q h).2,λh=>?_⟩⟩;have h3:Clo ts so (rnds ts M L.length [p]):=by refine h2.resolve_right λz=>?_;have:=h1.nd.length_le_of_subset λq hq=>hc q (h1.ok q hq).2;rw[List.length_singleton]at z;omega
 induction h with
 |refl=>exact h1.st
 |step _ r ih=>exact h3 _ ih _ r
noncomputable def spl(ts:List Ti)(M:Li):Nat→Li→List (Li)
 |0,_=>[]
 |_+1,[]=>[]
 |n+1,p::L=>sortN (rnds ts M (p::L).length [p])::spl ts M n ((p::L).filter λq=> !(rnds ts M (p::L).length [p]).contains q)
theorem spl_eq(W:Web m ts){M:Li}(hM:leftI so m.toNat=M):∀(n:Nat) (L:Li),L.length<n→L.Pairwise (· < ·)→(∀q∈L,q∈M)→(∀a∈L,∀q,Con (Adj ts so) a q→q∈L)→spl ts M n L=(L.filter (own so ts m.toNat)).map (chain so ts m.toNat)
 |0,_,h,_,_,_=>by omega
 |_+1,[],_,_,_,_=>rfl
 |n+1,p::L,hn,hr,hs,hc=>by
  have hp:=hs p Zb;rw[←hM]at hp;have hp':=K50.a0L'.mp hp;obtain⟨b1,b2⟩:=b6f' W hM hs Zb (hc p Zb);obtain⟨r1,r2⟩:=ZM.mp hr;have hT:=K50.a9X' W;obtain⟨f1,f2⟩:=a3f' (so:=so) hT hp'.1.1 hp'.1.2
  have ho:nm (fin so ts m.toNat) p=p:=by
   have h1:=f2 p (.refl _);rcases Zj.mp (hc p Zb _ f1)with h2|h2
   ·exact h2
   ·have:=r1 _ h2;omega
  have e:=b1Q' hT hp'.1.1 hp'.1.2 hp'.2 ho (a2b' b1) (λq=>by rw[(a1d' _).mem_iff];exact b2 q);have hpl:p∈rnds ts M (p::L).length [p]:=(b2 p).mpr (.refl _);generalize hX:rnds ts M (p::L).length [p]=X at*
  have hf:(p::L).filter (λq=> !X.contains q)=L.filter λq=> !X.contains q:=by rw[List.filter_cons_of_neg];simp[hpl]
  have ih:=spl_eq W hM n (L.filter λq=> !X.contains q) (by have:=ZF (λq=> !X.contains q) L;simp only[Zw]at hn;omega) (r2.sublist ZK) (λq hq=>hs q (Zc _ (Zn.mp hq).1)) (λa ha q hq=>by
   obtain⟨a1,a2⟩:=Zn.mp ha;simp only[Yi,List.contains_eq_mem,Z4]at a2;have hx:q∉X:=λz=>a2 ((b2 a).mpr (((b2 q).mp z).trans (hq.symm Adj.symm)));refine Zn.mpr ⟨?_,by simp[hx]⟩;rcases Zj.mp (hc a (Zc _ a1) q hq)with rfl|h
   ·exact absurd hpl hx
   ·exact h)
  show sortN (rnds ts M (p::L).length [p])::spl ts M n ((p::L).filter λq=> !(rnds ts M (p::L).length [p]).contains q)=_;rw[hX,hf,ih,e,List.filter_cons_of_pos (by simp[own,ho]),ZE];congr 2;rw[List.filter_filter];refine List.filter_congr λq hq=>?_;cases hq2:own so ts m.toNat q with
  |false=>rfl
  |true=>
   have:q∉X:=λz=>by
    have hq3:=hs q (Zc _ hq);rw[←hM]at hq3;have hq4:=(K50.a0L'.mp hq3).1;have h1:=(b3B' (so:=so) hT hp'.1.1 hp'.1.2 hq4.1 hq4.2).mpr ((b2 q).mp z);have h2:nm (fin so ts m.toNat) q=q:=by simpa[own]using hq2
    have:=r1 q hq;omega
   simp[this]
end
end K50
namespace K50
section
variable {ts:List Ti}
end
section
variable {ts:List Ti}{x0 x1 x2 x4:Option D}
end
section
variable {ts p:List Ti}
theorem ne_nil{L:List D}:cmpD .NotEq (.lst L) (.lst []) S=.ok (.bl (!L.isEmpty)) S:=by cases L<;>rfl
end
open Pc
section
variable {R:Store}{F:List (Li)}{ts:List Ti}{p:Int}{b:Nat}
theorem a8k':a1q'=[.asg 2 (.blt (.list false) [.var 1]),.asg 3 (.lst true []),.while_ 100 lcW lcB,.ret (.var 3)]:=rfl
theorem b4A'(W:Web m ts)(hM:leftI so m.toNat=M)(h:Lin ts so M p l):l.length≤8:=by
 have h1:=h.nd.length_le_of_subset λq hq=>(h.ok q hq).1;have h2:=a1A' (m:=m) (f:=λp=> !so.contains p);have:M.length≤m.toNat:=by rw[←hM];exact h2
 have:=W.hi;omega
theorem b2u'(l:Li):lowL 0 (l.map D.int)=true:=K50.a1F' l
theorem one50(hT:Flat T)(W:Web m ts)(hl:l.length≤8)(a:Int){x2:Option D}:denSs a0a' G0 lcI [some (webD m ts),some (tupJ M),x2,x3,some (.ref T.length),x5,some (.int a)] (T++[l.map D.int])=.ok (.next [some (webD m ts),some (tupJ M),x2,x3,some (.ref T.length),x5,some (.int a)]) (T++[(gro ts M l a).map D.int]):=by
 have hT1:Flat (T++[l.map D.int]):=hT.snoc (b2u' l);have en:a1o' [webD m ts,.int a] (T++[l.map D.int])=.ok (.lst ((nearL ts a).map D.int)) (T++[l.map D.int]):=K50.b4x' hT1 W a;have hn:=K50.b2l' ts a;have hw:=W.few
 have hs:seqOf (T++[l.map D.int]) (.ref T.length)=some (l.map D.int):=by show(T++[l.map D.int])[T.length]?=_;exact boxE
 have ec:den a0a' G0 lcC [some (webD m ts),some (tupJ M),x2,x3,some (.ref T.length),x5,some (.int a)] (T++[l.map D.int])=.ok (.lst (((nearL ts a).filter λq=>decide (q∈M)&& !l.contains q).map D.int)) (T++[l.map D.int]):=by
  refine compF (h:=D.int) (f:=D.int) (p:=λq=>decide (q∈M)&& !l.contains q) (r0:=[none,some (tupJ M),some (.ref T.length)]) (rs:=λq=>[some (.int q),some (tupJ M),some (.ref T.length)]) (a3W' (a2Q' a2E' (den_v rfl) (den_v rfl) en) rfl) rfl (λ_ _=>rfl) (by omega) (λq _=>?_) λq _ _=>den_v rfl;have h2:denT a0a' G0 (.cmp .NotIn (.var 0) (.var 2)) [some (.int q),some (tupJ M),some (.ref T.length)] (T++[l.map D.int])=.ok (!l.contains q) (T++[l.map D.int]):=a9j' (den_v rfl) (den_v rfl) hs
  have h3:denT a0a' G0 (.cmp .In (.var 0) (.var 1)) [some (.int q),some (tupJ M),some (.ref T.length)] (T++[l.map D.int])=.ok (decide (q∈M)) (T++[l.map D.int]):=K50.T_cm (den_v rfl) (den_v rfl) (by have hin:inD (.int q) (tupJ M) (T++[l.map D.int])=some (decide (q∈M)):=a5P' rfl q;show boolR (inD (.int q) (tupJ M) (T++[l.map D.int])) _=_;rw[hin];rfl);exact K50.T_and h3 h2
 have hf:=ZF (λq=>decide (q∈M)&& !l.contains q) (nearL ts a);generalize hg:(nearL ts a).filter (λq=>decide (q∈M)&& !l.contains q)=g at*
 have hx:a4a' (.ref T.length) [.lst (g.map D.int)] (T++[l.map D.int])=.ok .non (T++[(l++g).map D.int]):=by
  show(match(T++[l.map D.int])[T.length]?,some (g.map D.int)with
   |some xs,some ys=>if xs.length+ys.length≤big then Res.ok D.non ((T++[l.map D.int]).set T.length (xs++ys))else .fail
   |_,_=>.fail)=_
  rw[boxE];show(if(l.map D.int).length+(g.map D.int).length≤big then Res.ok D.non ((T++[l.map D.int]).set T.length (l.map D.int++g.map D.int))else .fail)=_;rw[if_pos (by rw[Zm,Zm];show _≤16777216;omega),setE,List.map_append]
 have hge:gro ts M l a=l++g:=by unfold gro;rw[hg]
 rw[hge];refine(a0k' (ρ':=[some (webD m ts),some (tupJ M),x2,x3,some (.ref T.length),x5,some (.int a)]) (S':=T++[(l++g).map D.int]) ?_).trans rfl;rw[denS,den,den_v (i:=4) (d:=.ref T.length) rfl];simp only[Res.bind,denL,ec,methD,hx,Res.noErr]
theorem in50(hT:Flat T)(W:Web m ts)(hM:leftI so m.toNat=M){x2 x3 x5:Option D}:∀(xs l:Li) (x6:Option D),Lin ts so M p l→(∀a∈xs,a∈l)→∃y6,forD (λx ρ S=>match asgCT (.var 6) x ρ with
   |some ρ'=>denSs a0a' G0 lcI ρ' S
   |none=>.fail) (xs.map D.int) [some (webD m ts),some (tupJ M),x2,x3,some (.ref T.length),x5,x6] (T++[l.map D.int])=.ok (.next [some (webD m ts),some (tupJ M),x2,x3,some (.ref T.length),x5,y6]) (T++[(xs.foldl (gro ts M) l).map D.int])
 | [],l,x6,_,_=>⟨x6,rfl⟩
 |a::xs,l,x6,h,hx=>by have e:=one50 hT W (M:=M) (b4A' W hM h) a (x2:=x2) (x3:=x3) (x5:=x5);obtain⟨y6,e2⟩:=in50 hT W hM (x2:=x2) (x3:=x3) (x5:=x5) xs (gro ts M l a) (some (.int a)) (b4z' W hM h (hx a Zb)) λc hc=>ZG _ (hx c (Zc _ hc));refine⟨y6,?_⟩;rw[ZE,forD];show(denSs a0a' G0 lcI [some (webD m ts),some (tupJ M),x2,x3,some (.ref T.length),x5,some (.int a)] (T++[l.map D.int])).bind _=_;rw[e];exact e2
theorem out50(hT:Flat T)(W:Web m ts)(hM:leftI so m.toNat=M){x2 x3:Option D}:∀(L l:Li) (x5 x6:Option D),Lin ts so M p l→∃y5 y6,forD (λx ρ S=>match asgCT (.var 5) x ρ with
   |some ρ'=>denSs a0a' G0 lcR ρ' S
   |none=>.fail) (L.map D.int) [some (webD m ts),some (tupJ M),x2,x3,some (.ref T.length),x5,x6] (T++[l.map D.int])=.ok (.next [some (webD m ts),some (tupJ M),x2,x3,some (.ref T.length),y5,y6]) (T++[(rnds ts M L.length l).map D.int])
 | [],l,x5,x6,_=>⟨x5,x6,rfl⟩
 |a::L,l,x5,x6,h=>by
  obtain⟨y6,e⟩:=in50 hT W hM (x2:=x2) (x3:=x3) (x5:=some (.int a)) l l x6 h λ_ h=>h;obtain⟨z5,z6,e2⟩:=out50 hT W hM (x2:=x2) (x3:=x3) L (rnd ts M l) (some (.int a)) y6 (a8j' W hM l l h λ_ h=>h).1;refine⟨z5,z6,?_⟩;rw[ZE,forD];show(denSs a0a' G0 lcR [some (webD m ts),some (tupJ M),x2,x3,some (.ref T.length),some (.int a),x6] (T++[l.map D.int])).bind _=_
  have hI:denI a0a' G0 (.seq (.blt (.list false) [.var 4])) [some (webD m ts),some (tupJ M),x2,x3,some (.ref T.length),some (.int a),x6] (T++[l.map D.int])=.ok (.items (l.map D.int)) (T++[l.map D.int]):=by
   refine a3W' (d:=.lst (l.map D.int)) (blt_of (d:=.ref T.length) (den_v rfl) ?_) rfl
   show(match seqOf (T++[l.map D.int]) (.ref T.length)with
    |some xs=>Res.ok (D.lst xs) (T++[l.map D.int])
    |none=>.fail)=_
   rw[show seqOf (T++[l.map D.int]) (.ref T.length)=some (l.map D.int)from boxE]
  have hb:denSs a0a' G0 lcR [some (webD m ts),some (tupJ M),x2,x3,some (.ref T.length),some (.int a),x6] (T++[l.map D.int])=.ok (.next [some (webD m ts),some (tupJ M),x2,x3,some (.ref T.length),some (.int a),y6]) (T++[(rnd ts M l).map D.int]):=by refine(a0k' (ρ':=[some (webD m ts),some (tupJ M),x2,x3,some (.ref T.length),some (.int a),y6]) (S':=T++[(rnd ts M l).map D.int]) ?_).trans rfl;exact(a6t' (Γ:=G0) hI).trans e
  rw[hb];exact e2
theorem boxR{A:List D}:(S++A::R)[S.length]?=some A:=by rw[Zv (Zi _)];simp
theorem setR{A B:List D}:(S++A::R).set S.length B=S++B::R:=by rw[List.set_append_right _ _ (Zi _)];simp
theorem snocR{A B:List D}:S++A::R++[B]=S++A::(R++[B]):=by simp
theorem body50(hS:Flat (S++(F.map tupJ)::R))(W:Web m ts)(hM:leftI so m.toNat=M)(hF:F.length≤1000){p:Int}{L:Li}(hL:(p::L).length≤8)(hp:p∈M){x4:Option D}:∃y4 y5 y6 B,Flat (S++((F++[sortN (rnds ts M (p::L).length [p])]).map tupJ)::(R++[B]))∧
  denSs a0a' G0 lcB [some (webD m ts),some (tupJ M),some (.lst ((p::L).map D.int)),some (.ref S.length),x4,x5,x6] (S++(F.map tupJ)::R)=.ok (.next [some (webD m ts),some (tupJ M),some (.lst (((p::L).filter λq=> !(rnds ts M (p::L).length [p]).contains q).map D.int)),some (.ref S.length),y4,y5,y6]) (S++((F++[sortN (rnds ts M (p::L).length [p])]).map tupJ)::(R++[B])):=by
 have h0:Lin ts so M p [p]:=⟨by simp,ZN.mpr rfl,λq hq=>by rw[ZN.mp hq];exact⟨hp,.refl _⟩⟩;generalize hT:S++(F.map tupJ)::R=T at hS;obtain⟨y5,y6,e⟩:=out50 hS W hM (x2:=some (.lst ((p::L).map D.int))) (x3:=some (.ref S.length)) (p::L) [p] x5 x6 h0;have hlin:=(a6y' W hM (p::L).length [p] h0).1;have hlen:=b4A' W hM hlin;generalize hX:rnds ts M (p::L).length [p]=X at*;have hsq:seqOf (T++[X.map D.int]) (.ref T.length)=some (X.map D.int):=boxE;have hso:=K50.a3g' (S:=T++[X.map D.int]) (d:=.ref T.length) (l:=X) hsq (by omega);have hTX:T++[X.map D.int]=S++(F.map tupJ)::(R++[X.map D.int]):=by rw[←hT];exact snocR
 have hT2:S++((F++[sortN X]).map tupJ)::(R++[X.map D.int])=(T++[X.map D.int]).set S.length ((F++[sortN X]).map tupJ):=by rw[hTX,setR]
 have happ:a3k' (.ref S.length) [tupJ (sortN X)] (T++[X.map D.int])=.ok .non (S++((F++[sortN X]).map tupJ)::(R++[X.map D.int])):=by
  show(match(T++[X.map D.int])[S.length]? with
   |some xs=>if xs.length<big then Res.ok D.non ((T++[X.map D.int]).set S.length (xs++[tupJ (sortN X)]))else .fail
   |none=>.fail)=_
  rw[hTX,boxR];show(if(F.map tupJ).length<big then Res.ok D.non ((S++(F.map tupJ)::(R++[X.map D.int])).set S.length (F.map tupJ++[tupJ (sortN X)]))else .fail)=_;rw[if_pos (by rw[Zm];show _<16777216;omega),setR,List.map_append];rfl
 have hF2:Flat (S++((F++[sortN X]).map tupJ)::(R++[X.map D.int])):=by rw[hT2];exact(hS.snoc (b2u' X)).set (K50.a5g' _)
 refine⟨some (.ref T.length),y5,y6,X.map D.int,hF2,?_⟩
 have hidx:idxD (.lst ((p::L).map D.int)) (.int 0) T=.ok (.int p) T:=by
  have h5:atI ((p::L).map D.int) 0=some (.int p):=by
   unfold atI ixN;simp
   try omega
  unfold idxD;simp only[seqOf,h5]
 unfold lcB;refine(a0s' (d:=.ref T.length) (S':=T++[[p].map D.int]) ?_).trans ?_
 ·have hi:den a0a' G0 (.idx (.var 2) (.lit (.int 0))) [some (webD m ts),some (tupJ M),some (.lst ((p::L).map D.int)),some (.ref S.length),x4,x5,x6] T=.ok (.int p) T:=b6a' (den_v rfl) b5Z' hidx;rw[den,denL,hi];simp only[denL,Res.bind,if_true];rfl
 refine(a0k' (ρ':=[some (webD m ts),some (tupJ M),some (.lst ((p::L).map D.int)),some (.ref S.length),some (.ref T.length),y5,y6]) (S':=T++[X.map D.int]) ?_).trans ?_
 ·have hI:denI a0a' G0 (.seq (.var 2)) [some (webD m ts),some (tupJ M),some (.lst ((p::L).map D.int)),some (.ref S.length),some (.ref T.length),x5,x6] (T++[[p].map D.int])=.ok (.items ((p::L).map D.int)) (T++[[p].map D.int]):=a3W' (den_v rfl) rfl;exact(a6t' (Γ:=G0) hI).trans e
 refine(a0k' (ρ':=[some (webD m ts),some (tupJ M),some (.lst ((p::L).map D.int)),some (.ref S.length),some (.ref T.length),y5,y6]) (S':=S++((F++[sortN X]).map tupJ)::(R++[X.map D.int])) ?_).trans ?_
 ·have ht:den a0a' G0 (.blt .tuple [.blt (.sorted false (.int)) [.var 4]]) [some (webD m ts),some (tupJ M),some (.lst ((p::L).map D.int)),some (.ref S.length),some (.ref T.length),y5,y6] (T++[X.map D.int])=.ok (tupJ (sortN X)) (T++[X.map D.int]):=a0S' (a0S' (den_v rfl) hso) rfl;rw[denS,den,den_v (i:=3) (d:=.ref S.length) rfl];simp only[Res.bind,denL,ht,methD,happ,Res.noErr]
 have hsq2:seqOf (S++((F++[sortN X]).map tupJ)::(R++[X.map D.int])) (.ref T.length)=some (X.map D.int):=by show(S++((F++[sortN X]).map tupJ)::(R++[X.map D.int]))[T.length]?=_;rw[hT2,List.getElem?_set_ne (by rw[←hT];simp)];exact boxE
 exact(a0s' (compF (h:=D.int) (f:=D.int) (p:=λq=> !X.contains q) (r0:=[none,some (.ref T.length)]) (rs:=λq=>[some (.int q),some (.ref T.length)]) (a3W' (den_v rfl) rfl) rfl (λ_ _=>rfl) (by omega) (λq _=>a9j' (den_v rfl) (den_v rfl) hsq2) λq _ _=>den_v rfl)).trans rfl
theorem loop50(W:Web m ts)(hM:leftI so m.toNat=M):∀(n:Nat) (L:Li) (F:List (Li)) (R:Store) (x4 x5 x6:Option D),L.length<n→L.length≤8→F.length+L.length≤500→(∀q∈L,q∈M)→Flat (S++(F.map tupJ)::R)→∃y2 y4 y5 y6 R',a3J' (denT a0a' G0 lcW) (denSs a0a' G0 lcB) n [some (webD m ts),some (tupJ M),some (.lst (L.map D.int)),some (.ref S.length),x4,x5,x6] (S++(F.map tupJ)::R)=.ok (.next [some (webD m ts),some (tupJ M),y2,some (.ref S.length),y4,y5,y6]) (S++((F++spl ts M n L).map tupJ)::R')
 |0,L,F,R,x4,x5,x6,h,_,_,_,_=>by omega
 |n+1,[],F,R,x4,x5,x6,_,_,_,_,_=>by
  refine⟨some (.lst []),x4,x5,x6,R,?_⟩;rw[a3J'];have hc:denT a0a' G0 lcW [some (webD m ts),some (tupJ M),some (.lst []),some (.ref S.length),x4,x5,x6] (S++(F.map tupJ)::R)=.ok false (S++(F.map tupJ)::R):=by generalize S++(F.map tupJ)::R=T;exact K50.T_cm (den_v rfl) (e:=.lst []) (by simp only[den,denL,Res.bind,ZT,if_false]) (K50.ne_nil (L:=[]))
  rw[show(List.map D.int [])=[]from rfl,hc,show spl ts M (n+1) []=[]from rfl,Yd];rfl
 |n+1,p::L,F,R,x4,x5,x6,hn,h8,hF,hs,hR=>by
  obtain⟨y4,y5,y6,B,hR2,e⟩:=body50 hR W hM (by simp only[Zw]at hF;omega) h8 (hs p Zb) (x4:=x4) (x5:=x5) (x6:=x6);have hp:p∈rnds ts M (p::L).length [p]:=by have h0:Lin ts so M p [p]:=⟨by simp,ZN.mpr rfl,λq hq=>by rw[ZN.mp hq];exact⟨hs p Zb,.refl _⟩⟩;exact(a6y' W hM (p::L).length [p] h0).1.st
  have es:spl ts M (n+1) (p::L)=sortN (rnds ts M (p::L).length [p])::spl ts M n ((p::L).filter λq=> !(rnds ts M (p::L).length [p]).contains q):=rfl;generalize rnds ts M (p::L).length [p]=X at*;have hfl:(p::L).filter (λq=> !X.contains q)=L.filter λq=> !X.contains q:=by rw[List.filter_cons_of_neg];simp[hp]
  rw[hfl]at e es;have hll:=ZF (λq=> !X.contains q) L;simp only[Zw]at hn h8 hF;obtain⟨z2,z4,z5,z6,R',e2⟩:=loop50 W hM n (L.filter λq=> !X.contains q) (F++[sortN X]) (R++[B]) y4 y5 y6 (by omega) (by omega) (by rw[Zp,List.length_singleton];omega) (λq hq=>hs q (Zc _ (Zn.mp hq).1)) hR2;refine⟨z2,z4,z5,z6,R',?_⟩;rw[a3J']
  have hc:denT a0a' G0 lcW [some (webD m ts),some (tupJ M),some (.lst ((p::L).map D.int)),some (.ref S.length),x4,x5,x6] (S++(F.map tupJ)::R)=.ok true (S++(F.map tupJ)::R):=by generalize S++(F.map tupJ)::R=T;exact K50.T_cm (den_v rfl) (e:=.lst []) (by simp only[den,denL,Res.bind,ZT,if_false]) (K50.ne_nil (L:=(p::L).map D.int))
  rw[hc];simp only[Res.bind,if_true];rw[e];simp only;rw[e2,es,Zu];rfl
end
end K50
namespace K50
section
variable {ts:List Ti}
end
section
variable {ts:List Ti}
end
open PySem.Builtin.Int (intBits)
section
variable {ts:List Ti}
theorem b6g'{e:D}(ha:seqOf T d=some xs)(hb:seqOf T e=some xs){step:D→List D→Store→Res (List D)}(hs:∀z∈xs,∀acc,acc.length<1000→step (.tup [z,z]) acc T=.ok (acc++[.bl true]) T):
  ∀(n i:Nat) (acc:List D),i+n=xs.length→acc.length+n≤1000→compB step (a5X' d e) (n+1) i acc T=.ok (acc++List.replicate n (.bl true)) T:=by
 have hz:∀i,a5X' d e T i=some (match xs[i]?,xs[i]? with
   |some x,some y=>some (.tup [x,y])
   |_,_=>none):=λi=>by
  unfold a5X';simp only[ha,hb]
  all_goals rfl
 intro n
 induction n with
 |zero=>intro i acc h _;unfold compB;rw[hz,List.getElem?_eq_none (by omega)];simp
 |succ n ih=>intro i acc h hl;have hx:xs[i]?=some xs[i]:=Ze (by omega);unfold compB;rw[hz,hx];dsimp only;rw[hs _ (ZY _) acc (by omega)];refine(ih (i+1) (acc++[.bl true]) (by omega) (by simp only[Zp,Zw,List.length_nil];omega)).trans ?_;rw[Zu,List.replicate_succ];rfl
end
end K50
namespace K50
open Pc
section
variable {R:Store}{ts:List Ti}
noncomputable def chs(so:Li)(ts:List Ti)(m:Nat):List (Li):=((leftI so m).filter (own so ts m)).map (chain so ts m)
theorem a6z'(h8:m≤8):(leftI so m.toNat).length≤8:=by have:=a1A' (m:=m) (f:=λp=> !so.contains p);unfold leftI;omega
theorem b4B'(h8:m≤8):(chs so ts m.toNat).length≤8:=by unfold chs;rw[Zm];have:=ZF (own so ts m.toNat) (leftI so m.toNat);have:=a6z' (so:=so) h8;omega
theorem b6h'(W:Web m ts){a:Int}(ha:a∈leftI so m.toNat)(h:Con (Adj ts so) a q):q∈leftI so m.toNat:=by have ha':=K50.a0L'.mp ha;exact K50.a0L'.mpr ⟨a1Z' (K50.a9X' W) ha'.1.1 ha'.1.2 h,b5M' ha'.2 h⟩
theorem b2v'(hS:Flat S)(W:Web m ts)(hM:leftI so m.toNat=M):a1X' [webD m ts,tupJ M] S=.ok (.ref S.length) (S++[(chs so ts m.toNat).map tupJ]):=by
 have hl:M.length≤8:=by rw[←hM];exact a6z' W.hi
 have e2:spl ts M 100 M=chs so ts m.toNat:=by have:=spl_eq W hM 100 M (by omega) (by rw[←hM];exact a0v'.sublist ZK) (λ_ h=>h) (λa ha q hq=>by rw[←hM]at ha⊢;exact b6h' W ha hq);rw[this];unfold chs;rw[hM]
 obtain⟨y2,y4,y5,y6,R',e⟩:=loop50 (S:=S) W hM 100 M [] [] none none none (by omega) hl (by simp;omega) (λ_ h=>h) (hS.snoc rfl);rw[Z9,e2]at e
 have hd:denSs a0a' G0 a1q' [some (webD m ts),some (tupJ M),none,none,none,none,none] S=.ok (.ret (.ref S.length)) (S++((chs so ts m.toNat).map tupJ)::R'):=by
  rw[a8k'];refine(a0s' (d:=.lst (M.map D.int)) (S':=S) (a0S' (den_v rfl) rfl)).trans ?_;refine(a0s' (d:=.ref S.length) (S':=S++[[]]) (by simp only[den,denL,Res.bind,if_true])).trans ?_;refine(a0k' (ρ':=[some (webD m ts),some (tupJ M),y2,some (.ref S.length),y4,y5,y6]) (S':=S++((chs so ts m.toNat).map tupJ)::R') ?_).trans ?_
  ·rw[denS];exact e
  ·exact a2k' (a9U' (den_v rfl))
 show runD a0a' G0 a1q' a3c'.length 2 [webD m ts,tupJ M] S=_;unfold runD;rw[if_pos (show [webD m ts,tupJ M].length=2 from rfl),show denSs a0a' G0 a1q' (([webD m ts,tupJ M]:List D).map some++List.replicate (a3c'.length-2) none) S=_ from hd];show trim S.length (.ref S.length) _=_;unfold trim;rw[List.take_left' rfl,if_pos hS.all,if_neg (by unfold lowD;simp)];simp only[boxR];rw[if_pos ⟨K50.a1x' _ (K50.a5g' _),Zi _⟩]
theorem a9l'{f:D→D→Bool}{x:D}:∀{l:List D},(∀y∈l,f x y=false)→insB f x l=l++[x]
 | [],_=>rfl
 |y::l,h=>by rw[insB,h y Zb,if_neg (by simp),a9l' λz hz=>h z (Zc _ hz)];rfl
theorem b2w'{f:D→D→Bool}:∀(l acc:List D),(acc++l).Pairwise (λa b=>f b a=false)→l.foldl (λacc x=>insB f x acc) acc=acc++l
 | [],acc,_=>by rw[Yd];rfl
 |x::l,acc,h=>by have h1:=(ZH.mp h).2.2;rw[List.foldl_cons,a9l' λy hy=>h1 y hy x Zb,b2w' l (acc++[x]) (by rw[Zu];exact h),Zu];rfl
theorem a5h'(W:Web m ts){c:Int}(hc:c∈(leftI so m.toNat).filter (own so ts m.toNat)):∃l,chain so ts m.toNat c=c::l:=by
 obtain⟨h1,h2⟩:=Zn.mp hc;have h3:=K50.a0L'.mp h1;have h4:nm (fin so ts m.toNat) c=c:=by simpa[own]using h2
 have hm:c∈chain so ts m.toNat c:=a2a'.mpr ⟨h3.1,h4,h3.2⟩;cases e:chain so ts m.toNat c with
 |nil=>rw[e]at hm;cases hm
 |cons d l=>
  have hr:=a5c' (so:=so) (ts:=ts) (m:=m.toNat) (c:=c);have hd:d∈chain so ts m.toNat c:=by rw[e];exact Zb
  rw[e]at hm hr;rcases Zj.mp hm with rfl|hm
  ·exact⟨l,rfl⟩
  ·have:=(ZM.mp hr).1 c hm;obtain⟨⟨d0,d1⟩,d2,d3⟩:=a2a'.mp hd;have:=fin_le (so:=so) (K50.a9X' W) d0 d1;omega
theorem b6i'{a b:Int}{k:Li}(h:a<b):ltK (.seq .int) (tupJ (b::k)) (tupJ (a::l))=false:=by show lexB (ltK .int) (D.int b::k.map D.int) (D.int a::l.map D.int)=false;have e1:ltK .int (.int b) (.int a)=false:=ZO (by omega);have e2:ltK .int (.int a) (.int b)=true:=ZR h;simp only[lexB,e1,e2];simp
theorem b6j'(W:Web m ts):a4G' (ltK (.seq .int)) ((chs so ts m.toNat).map tupJ)=(chs so ts m.toNat).map tupJ:=by have:=b2w' (f:=ltK (.seq .int)) ((chs so ts m.toNat).map tupJ) [] (by rw[Z9,Z7];unfold chs;rw[Z7];have hr:((leftI so m.toNat).filter (own so ts m.toNat)).Pairwise (· < ·):=(a0v'.sublist ZK).sublist ZK;refine List.Pairwise.imp_of_mem (λ{a b} ha hb h=>?_) hr;obtain⟨l,e1⟩:=a5h' W ha;obtain⟨k,e2⟩:=a5h' W hb;rw[e1,e2];exact b6i' h);rw[Z9]at this;exact this
theorem b2x'(W:Web m ts)(hd:seqOf T d=some ((chs so ts m.toNat).map tupJ)):a2d' false (.seq .int) [d] T=.ok (.lst ((chs so ts m.toNat).map tupJ)) T:=by
 have hl:=b4B' (so:=so) (ts:=ts) W.hi;have e1:((chs so ts m.toNat).map tupJ).all (hasTy (.seq .int))=true:=by rw[ZQ];intro x hx;obtain⟨t,_,rfl⟩:=Zy.mp hx;show(t.map D.int).all _=true;rw[ZQ];intro x hx;obtain⟨t,_,rfl⟩:=Zy.mp hx;rfl
 have e2:a3I' (.seq .int) ((chs so ts m.toNat).map tupJ)=true:=by
  show(true&&((((chs so ts m.toNat).map tupJ).all λd=> !isNil d)||isNil (((chs so ts m.toNat).map tupJ).headD .non)))=true;rw[ZQ.mpr]
  ·rfl
  ·intro x hx;obtain⟨t,ht,rfl⟩:=Zy.mp hx;obtain⟨c,hc,rfl⟩:=Zy.mp ht;obtain⟨l,e⟩:=a5h' W hc;rw[e];rfl
 unfold a2d';simp only[hd];rw[if_pos ⟨e1,by simp;omega,e2⟩,b6j' W];rfl
theorem b6k'(W:Web m ts)(hN:∀q∈M,0≤q∧q<m.toNat)(hr:M.Pairwise (· < ·))(B:Li)(hB:B=besI ts M (leftI M m.toNat)):∃so,sortN (B++resI B (leftI M m.toNat))=so∧so.length≤8∧(∀q∈so,0≤q∧q<m)∧so.Pairwise (· < ·)∧leftI so m.toNat=M∧(B++resI B (leftI M m.toNat)).length≤8:=by
 have w1:=W.lo;have hO:(leftI M m.toNat).Nodup:=K50.a5b'.sublist ZK;have hb:∀q,q∈B→q∈leftI M m.toNat:=λq hq=>by rw[hB]at hq;exact(Zn.mp hq).1
 have hnd:(B++resI B (leftI M m.toNat)).Nodup:=by refine Z2.mpr ⟨by rw[hB];exact hO.sublist ZK,hO.sublist ZK,λa ha c hc e=>?_⟩;subst e;have:=(Zn.mp hc).2;simp only[Yi,List.contains_eq_mem,Z4]at this;exact this ha
 have hm:∀q,q∈B++resI B (leftI M m.toNat)↔q∈leftI M m.toNat:=λq=>by
  rw[Zs];constructor
  ·rintro(h|h)
   ·exact hb q h
   ·exact(Zn.mp h).1
  ·intro h;by_cases hq:q∈B
   ·exact .inl hq
   ·exact .inr (Zn.mpr ⟨h,by simp[hq]⟩)
 have hlen:(B++resI B (leftI M m.toNat)).length≤8:=ZP (hnd.length_le_of_subset λq hq=>(hm q).mp hq) (a6z' W.hi);refine⟨_,rfl,by rw[(a1d' _).length_eq];exact hlen,λq hq=>?_,a2b' hnd,?_,hlen⟩
 ·have:=(K50.a0L'.mp ((hm q).mp ((a1d' _).mem_iff.mp hq))).1;omega
 ·refine a2I' (a0v'.sublist ZK) hr λq=>?_;rw[K50.a0L',(a1d' _).mem_iff,hm,K50.a0L'];constructor
  ·rintro⟨h1,h2⟩;exact Classical.byContradiction λz=>h2 ⟨h1,z⟩
  ·intro h;exact⟨hN q h,λz=>z.2 h⟩
theorem c_mp_is:a1D'=[.asgT (.tup [.var 1,.var 2,.var 3]) (.call "parts" [.var 0]),.ret (.call "pieces_without" [.var 0,.blt .tuple [.blt (.sorted false (.int)) [.bin .Add (.var 2) (.var 3)]]])]:=rfl
theorem b3K'(hS:Flat S)(W:Web m ts)(Y:Most m ts G k):∃so,leftI so m.toNat=missI m (topP G k)∧∀S,Flat S→a0Z' [webD m ts] S=.ok (.ref S.length) (S++[(chs so ts m.toNat).map tupJ]):=by
 have hN:∀q∈missI m (topP G k),0≤q∧q<m.toNat:=λq hq=>by have:=a1c' (Zn.mp hq).1;omega
 obtain⟨so,e1,l1,h1,r1,lf,ll⟩:=b6k' W hN (a0v'.sublist ZK) _ rfl;refine⟨so,lf,λS hS=>?_⟩;have ep:=b2r' hS W Y
 have ew:a0D' [webD m ts,tupJ so] S=.ok (.ref S.length) (S++[(chs so ts m.toNat).map tupJ]):=by have:=K50.a4s' hS W (so:=so) (by omega) h1 r1;rw[K50.pcs_tup]at this;exact this
 generalize missI m (topP G k)=N at*;generalize besI ts N (leftI N m.toNat)=B at*;generalize resI B (leftI N m.toNat)=Q at*;refine K50.b1V' rfl ?_ hS (K50.a5g' _);show denSs a0Y' G0 a1D' [some (webD m ts),none,none,none] S=_;rw[c_mp_is];refine(a0k' (ρ':=[some (webD m ts),some (tupJ N),some (tupJ B),some (tupJ Q)]) (S':=S) ?_).trans ?_
 ·rw[denS,a3H' a2B' (den_v rfl) ep];rfl
 ·refine a2k' (a9U' (a2Q' a1b' (den_v rfl) (a0S' (d:=.lst (so.map D.int)) (a0S' (d:=.tup (B.map D.int++Q.map D.int)) (b6b' (den_v rfl) (den_v rfl) (add_tup (by rw[Zm,Zm];rw[Zp]at ll;omega))) ?_) rfl) ew));rw[←e1];exact K50.a3g' (S:=S) (d:=.tup (B.map D.int++Q.map D.int)) (l:=B++Q) (by rw[List.map_append];rfl) (by omega)
end
end K50
namespace K50
section
variable {R:Store}{ts:List Ti}
theorem a5i':∀n,a0c' n=K50.a0c' n
 |0=>rfl
 |n+1=>by
  show runD (tbl [("_law_same",a0c' n)]) G0 a0R' a3C'.length 2=runD (tbl [("_law_same",K50.a0c' n)]) K50.G0 K50.a0R' K50.a3C'.length 2;rw[a5i' n]
  all_goals rfl
theorem a4C'(hT:Flat T)(n:Nat)(l:Li)(hl:l.length≤1000):K50.a0c' (n+2) [tupJ l,tupJ l] T=.ok (.bl true) T:=K50.b2h' hT (by rw[Zm];exact hl) λz hz=>by obtain⟨i,_,rfl⟩:=Zy.mp hz;exact K50.b5W' hT n i
theorem b2y'(hT:Flat T){a b c:Li}(ha:a.length≤1000)(hb:b.length≤1000)(hc:c.length≤1000):a1n' [.tup [tupJ a,tupJ b,tupJ c],.tup [tupJ a,tupJ b,tupJ c]] T=.ok (.bl true) T:=by
 show a0c' 6 _ T=_;rw[a5i'];refine K50.b2h' (n:=5) hT (by simp) λz hz=>?_;simp only[Zj,Z1,or_false]at hz;rcases hz with rfl|rfl|rfl
 ·exact a4C' hT 3 a ha
 ·exact a4C' hT 3 b hb
 ·exact a4C' hT 3 c hc
abbrev tS50(n:Nat):FT:=tbl [("_law_same",a0c' n)]
theorem uS50(n:Nat):tS50 n "_law_same"=some (a0c' n):=rfl
noncomputable def smC50:CE:=.comp false ["_law_one","_law_other"] [none,none] (.tup [.var 0,.var 1]) (.zip [.var 0,.var 1]) [] (.emit (.call "_law_same" [.var 0,.var 1]))
theorem b2z'(hT:Flat T){a:Nat}(ha:T[a]?=some xs)(hl:xs.length≤100)(hsame:∀z∈xs,a0c' 5 [z,z] T=.ok (.bl true) T):a1n' [.ref a,.lst xs] T=.ok (.bl true) T:=by
 show a0c' (5+1) _ T=_;refine a0z' rfl ?_ rfl hT rfl;show denSs (tS50 5) G0 a0R' [some (.ref a),some (.lst xs)] T=_;have ta:b2O' T (.ref a)=some "list":=by simp[b2O',ha]
 have tb:b2O' T (.lst xs)=some "list":=rfl;have h1:a0M' [.ref a,.ty "tuple"] T=.ok (.bl false) T:=by simp only[a0M',ta];rfl
 have h2:a0M' [.ref a,.ty "list"] T=.ok (.bl true) T:=by simp only[a0M',ta];rfl
 have h1b:a0M' [.lst xs,.ty "tuple"] T=.ok (.bl false) T:=by simp only[a0M',tb];rfl
 have h2b:a0M' [.lst xs,.ty "list"] T=.ok (.bl true) T:=by simp only[a0M',tb];rfl
 have h3:cmpD .NotEq (.bl true) (.bl true) T=.ok (.bl false) T:=rfl;have h4:cmpD .NotEq (.bl false) (.bl false) T=.ok (.bl false) T:=rfl;have h5:lenD [.ref a] T=.ok (.int (xs.length:Nat)) T:=by simp[lenD,seqOf,ha]
 have h5b:lenD [.lst xs] T=.ok (.int (xs.length:Nat)) T:=rfl;have h6:cmpD .Eq (.int (xs.length:Nat)) (.int (xs.length:Nat)) T=.ok (.bl true) T:=by have:cmpD .Eq (.int (xs.length:Nat)) (.int (xs.length:Nat)) T=.ok (.bl (((xs.length:Nat):Int)==((xs.length:Nat):Int))) T:=rfl;rw[this];simp
 have h11:zipOf T (.ref a) (.lst xs)=some (.live (xs.length+1) (a5X' (.ref a) (.lst xs))):=by simp[zipOf,a9q',seqOf,ha]
 have hc:den (tS50 5) G0 smC50 [some (.ref a),some (.lst xs)] T=.ok (.lst (List.replicate xs.length (.bl true))) T:=by
  refine a0K' (its:=.live (xs.length+1) (a5X' (.ref a) (.lst xs))) (S1:=T) (by simp only[denI,den,denL,Res.bind,Zg,Zh,h11]) ?_
  refine(K50.b6g' (T:=T) (d:=.ref a) (e:=.lst xs) (xs:=xs) (step:=λx acc S2=>match a0h' (.tup [.var 0,.var 1]) x [none,none]with
   |some ρ'=>(denTs (tS50 5) G0 [] ρ' S2).bind λk S3=>if k=true then denB (tS50 5) G0 (.emit (.call "_law_same" [.var 0,.var 1])) ρ' acc S3 else .ok acc S3
   |none=>.fail) (by simp[seqOf,ha]) rfl (λz hz acc hacc=>?_) xs.length 0 [] (by omega) (by simp;omega):)
  have ha1:a0h' (.tup [.var 0,.var 1]) (.tup [z,z]) [none,none]=some [some z,some z]:=rfl;have hb1:acc.length<big:=by show _<16777216;omega
  show(match a0h' (.tup [.var 0,.var 1]) (.tup [z,z]) [none,none]with
   |some ρ'=>(denTs (tS50 5) G0 [] ρ' T).bind λk S3=>if k=true then denB (tS50 5) G0 (.emit (.call "_law_same" [.var 0,.var 1])) ρ' acc S3 else .ok acc S3
   |none=>.fail)=_
  rw[ha1];simp only[denTs,denB,den,denL,Res.bind,Zh,Zg,uS50,hsame z hz,if_true];rw[if_pos hb1]
 have hall:allD [.lst (List.replicate xs.length (.bl true))] T=.ok (.bl true) T:=by
  show boolR (allO ((List.replicate xs.length (D.bl true)).map asB)) T=_;have:allO ((List.replicate xs.length (D.bl true)).map asB)=some true:=K50.a6r' λx hx=>by rw[(List.mem_replicate.mp hx).2];rfl
  rw[this];rfl
 have e:a0R'=[.ite (.bor (.blt .isinst [.var 1,.ty "tuple"]) (.blt .isinst [.var 1,.ty "list"])) [.ite (.bor (.cmp .NotEq (.blt .isinst [.var 0,.ty "tuple"]) (.blt .isinst [.var 1,.ty "tuple"])) (.cmp .NotEq (.blt .isinst [.var 0,.ty "list"]) (.blt .isinst [.var 1,.ty "list"]))) [.ret (.lit (.bl false))] [],.ret (.band (.cmp .Eq (.blt .len [.var 0]) (.blt .len [.var 1])) (.blt .all [smC50]))] [],.ite (.cmp .Is (.var 1) (.lit (.non))) [.ret (.cmp .Is (.var 0) (.lit (.non)))] [],.ret (.band (.cmp .Eq (.blt .isinst [.var 0,.ty "bool"]) (.blt .isinst [.var 1,.ty "bool"])) (.band (.blt .isinst [.var 0,.ty "int"]) (.cmp .Eq (.var 0) (.var 1))))]:=rfl;rw[e];refine a2k' ?_;rw[a5t' (k:=true) (S1:=T) (by simp[denT,den,denL,Res.bind,Res.noErr,bltD,h1b,h2b,truD]),if_pos rfl];rw[a0k' (ρ':=[some (.ref a),some (.lst xs)]) (S':=T) (by rw[a5t' (k:=false) (S1:=T) (by simp[denT,den,denL,Res.bind,Res.noErr,onBl,bltD,h1,h2,h1b,h2b,h3,h4]),if_neg (by decide)];rfl)];refine a2k' ?_;rw[denS,den,den];simp only[den,denL,Res.bind,Res.noErr,bltD,Zh,Zg,h5,h5b,h6,onBl,if_true,hc,hall]
end
theorem x50_web:a2M'=K50.a2M':=rfl
theorem b6l':a0N'=K50.a0N':=rfl
section
variable {R:Store}{c:Int}{ts:List Ti}
theorem a8l':a1L'=[.asg 1 (.call "_law_parts" [.var 0]),.asg 2 (.blt (.sorted false (.seq .int)) [.call "_law_pieces" [.var 0,.idx (.var 1) (.lit (.int 0))]]),.for_ (.var 3) (.range [.lit (.int 2)]) rb50,.ret (.lit (.bl true))]:=rfl
theorem a9m'(hS:Flat S)(W:Web m ts):a2P' [webD m ts] S=.ok (.bl true) S:=by
 have w1:=W.lo;have w2:=W.hi;obtain⟨G,k,Y⟩:=K50.b5V' W;obtain⟨so,lf,em⟩:=b3K' hS W Y;have ep:=λ(T:Store) (hT:Flat T)=>b2r' hT W Y;have el:=b3I' hS W Y;have hN:∀q∈missI m (topP G k),0≤q∧q<m:=λq hq=>by have:=a1c' (Zn.mp hq).1;omega
 have hO:∀q∈leftI (missI m (topP G k)) m.toNat,0≤q∧q<m:=λq hq=>by have:=(K50.a0L'.mp hq).1;omega
 rw[b6e' W hO hN]at el;have lN:(missI m (topP G k)).length≤8:=by have:=a1A' (m:=m) (f:=missB m (topP G k));unfold missI;omega
 have lO:=a6z' (so:=missI m (topP G k)) w2;have e2:=b2v' hS W lf;generalize missI m (topP G k)=N at*;have lB:(besI ts N (leftI N m.toNat)).length≤8:=ZP (ZF _ _) lO;have lR:(resI (besI ts N (leftI N m.toNat)) (leftI N m.toNat)).length≤8:=ZP (ZF _ _) lO;generalize besI ts N (leftI N m.toNat)=B at*;generalize resI B (leftI N m.toNat)=Q at*;have hC:=b4B' (so:=so) (ts:=ts) w2;have hso:a2d' false (.seq .int) [.ref S.length] (S++[(chs so ts m.toNat).map tupJ])=.ok (.lst ((chs so ts m.toNat).map tupJ)) (S++[(chs so ts m.toNat).map tupJ]):=b2x' W boxE
 have hci:∀c∈chs so ts m.toNat,c.length≤1000:=λc hc=>by obtain⟨a,_,rfl⟩:=Zy.mp hc;have:=a1A' (m:=m) (f:=λp=>decide (Pc.nm (Pc.fin so ts m.toNat) p=a)&& !so.contains p);unfold Pc.chain;omega
 generalize chs so ts m.toNat=C at*;have hlow:=K50.a5g' C
 obtain⟨ρ',T,⟨x3,x4,rfl,hT,h2,h3⟩,hf⟩:=a8b' (step:=λx ρ S=>match asgCT (.var 3) x ρ with
   |some ρ'=>denSs a0l' G0 rb50 ρ' S
   |none=>.fail) (λρ T=>∃x3 x4,ρ=[some (webD m ts),some (.tup [tupJ N,tupJ B,tupJ Q]),some (.lst (C.map tupJ)),x3,x4]∧Flat T∧T.take S.length=S∧S.length≤T.length) [.int 0,.int 1] (by
    rintro x hx ρ T ⟨x3,x4,rfl,hT,h2,h3⟩;have e1:=em T hT;have hT1:Flat (T++[C.map tupJ]):=hT.snoc hlow;have e5:=ep _ hT1;have e3:a1n' [.tup [tupJ N,tupJ B,tupJ Q],.tup [tupJ N,tupJ B,tupJ Q]] (T++[C.map tupJ])=.ok (.bl true) (T++[C.map tupJ]):=b2y' hT1 (by omega) (by omega) (by omega)
    have e4:a1n' [.ref T.length,.lst (C.map tupJ)] (T++[C.map tupJ])=.ok (.bl true) (T++[C.map tupJ]):=b2z' hT1 boxE (by rw[Zm];omega) λz hz=>by obtain⟨c,hc,rfl⟩:=Zy.mp hz;rw[a5i'];exact a4C' hT1 3 c (hci c hc)
    have e6:=b1W' (T:=T) (A:=C.map tupJ) (d:=.tup []) (by rw[Zm];show _<16777216;omega);refine⟨[some (webD m ts),some (.tup [tupJ N,tupJ B,tupJ Q]),some (.lst (C.map tupJ)),some x,some (.ref T.length)],T++[C.map tupJ++[.tup []]],⟨some x,some (.ref T.length),rfl,hT.snoc (K50.b5Q' hlow),by rw[List.take_append_of_le_length h3];exact h2,by rw[Zp];omega⟩,?_⟩;show denSs a0l' G0 rb50 [some (webD m ts),some (.tup [tupJ N,tupJ B,tupJ Q]),some (.lst (C.map tupJ)),some x,x4] T=_;unfold rb50;refine(a0s' (d:=.ref T.length) (S':=T++[C.map tupJ]) (a3H' a1E' (den_v rfl) e1)).trans ?_;have t1:denT a0l' G0 (.call "_law_same" [.call "parts" [.var 0],.var 1]) [some (webD m ts),some (.tup [tupJ N,tupJ B,tupJ Q]),some (.lst (C.map tupJ)),some x,some (.ref T.length)] (T++[C.map tupJ])=.ok true (T++[C.map tupJ]):=T_call a1g' (a3H' a3R' (den_v rfl) e5) (den_v rfl) e3;have t2:denT a0l' G0 (.call "_law_same" [.var 4,.var 2]) [some (webD m ts),some (.tup [tupJ N,tupJ B,tupJ Q]),some (.lst (C.map tupJ)),some x,some (.ref T.length)] (T++[C.map tupJ])=.ok true (T++[C.map tupJ]):=T_call a1g' (den_v rfl) (den_v rfl) e4;refine(ret_go (T_or (T_not t1) (T_not t2))).trans ?_;refine(a0k' (ρ':=[some (webD m ts),some (.tup [tupJ N,tupJ B,tupJ Q]),some (.lst (C.map tupJ)),some x,some (.ref T.length)]) (S':=T++[C.map tupJ++[.tup []]]) ?_).trans rfl;rw[denS,den,den_v (i:=4) (d:=.ref T.length) rfl];simp only[Res.bind,denL,den,methD,e6,Res.noErr]) [some (webD m ts),some (.tup [tupJ N,tupJ B,tupJ Q]),some (.lst (C.map tupJ)),none,none] (S++[C.map tupJ]) ⟨none,none,rfl,hS.snoc hlow,by simp,by simp⟩
 have hd:denSs a0l' G0 a1L' [some (webD m ts),none,none,none,none] S=.ok (.ret (.bl true)) T:=by rw[a8l'];refine(a0s' (d:=.tup [tupJ N,tupJ B,tupJ Q]) (S':=S) (a3H' a2F' (den_v rfl) el)).trans ?_;refine(a0s' (d:=.lst (C.map tupJ)) (S':=S++[C.map tupJ]) (a0S' (k:=.sorted false (.seq .int)) (a2Q' a2j' (den_v rfl) (b6a' (x:=tupJ N) (den_v rfl) b5Z' rfl) e2) hso)).trans ?_;refine(a0k' (ρ':=[some (webD m ts),some (.tup [tupJ N,tupJ B,tupJ Q]),some (.lst (C.map tupJ)),x3,x4]) (S':=T) ?_).trans rfl;exact(a6t' (Γ:=G0) (its:=.items [.int 0,.int 1]) (S1:=S++[C.map tupJ]) rfl).trans hf
 show runD a0l' G0 a1L' a3Q'.length 1 [webD m ts] S=_;unfold runD;rw[if_pos (show [webD m ts].length=1 from rfl)];rw[show denSs a0l' G0 a1L' (([webD m ts]:List D).map some++List.replicate (a3Q'.length-1) none) S=_ from hd];have:=K50.a3G' (k:=S.length) (d:=.bl true) (S':=T) (by rw[h2];exact hS) rfl;rw[h2]at this;exact this
theorem b2A':c_law=[.ite l50T [.ret (.lit (.bl false))] [],.for_ (.var 1) l50S l50B,.ret (.lit (.bl true))]:=rfl
theorem cells50(hS:Flat S)(hl:ns.length≤63){x1:Option D}:∃cs:Li,denI t_law G0 l50S [some (.scr (ns.map D.int)),x1] S=.ok (.items (cs.map D.int)) S:=by
 obtain⟨c,ec⟩:=K50.cell_eq hS ns;rw[←b6l']at ec;obtain⟨cs,hc,hcl⟩:∃cs:Li,cutL (ns.map D.int) (some 1) (some 5)=cs.map D.int∧cs.length≤63:=by refine⟨(ns.drop _).take _,by unfold cutL;rw[←List.map_drop,←List.map_take],?_⟩;simp;omega
 refine⟨c::cs,?_⟩;have h1:slD (.scr (ns.map D.int)) (some 1) (some 5) S=.ok (.lst (cs.map D.int)) S:=by rw[←hc];rfl
 have h2:addD (.lst [.int c]) (.lst (cs.map D.int)) S=.ok (.lst ([.int c]++cs.map D.int)) S:=by show(if 1+(cs.map D.int).length≤big then Res.ok (D.lst ([.int c]++cs.map D.int)) S else .fail)=_;rw[if_pos (by unfold big;simp;omega)]
 simp[l50S,denI,den,denL,Res.bind,Res.noErr,a3S',ec,optL,toOpt,h1,opD,h2,a0P']
theorem body50z{s0:D}(c:Int)(hS:Flat S):denSs t_law G0 l50B [some s0,some (.int c)] S=.ok (.next [some s0,some (.int c)]) S:=by obtain⟨m,ts,W,e2⟩:=K50.web_eq hS c;rw[←x50_web]at e2;have e3:=a9m' hS W;refine(a0k' (ρ':=[some s0,some (.int c)]) (S':=S) ?_).trans rfl;simp[denS,denSs,denT,den,denL,Res.bind,a2G',a6q',e2,e3,truD]
theorem web50a:Web 1 []:=⟨by decide,by decide,.nil,λt ht=>(by cases ht),by decide⟩
theorem web50b:Web 4 [(0,1),(0,2),(0,3)]:=⟨by decide,by decide,by decide+kernel,by decide+kernel,by decide⟩
theorem web50c:Web 2 [(0,1)]:=⟨by decide,by decide,by decide+kernel,by decide+kernel,by decide⟩
theorem test50:denT t_law G0 l50T ρ []=.ok false []:=by
 have r1:=a9m' Flat.nil web50a;have r2:=a9m' Flat.nil web50b;have r3:=a9m' Flat.nil web50c;have d1:den t_law G0 l50a ρ []=.ok (webD 1 []) []:=by simp[l50a,den,denL,Res.bind,webD,tiesD]
 have d2:den t_law G0 l50b ρ []=.ok (webD 4 [(0,1),(0,2),(0,3)]) []:=by simp[l50b,den,denL,Res.bind,webD,tiesD,tieD]
 have d3:den t_law G0 l50c ρ []=.ok (webD 2 [(0,1)]) []:=by simp[l50c,den,denL,Res.bind,webD,tiesD,tieD]
 generalize webD 1 []=w1 at*;generalize webD 4 [(0,1),(0,2),(0,3)]=w2 at*;generalize webD 2 [(0,1)]=w3 at*;simp[l50T,denT,den,denL,Res.bind,d1,d2,d3,a2G',r1,r2,r3,truD]
theorem good(ns:Li)(hl:ns.length≤63):∃S',f_law [.scr (ns.map D.int)] []=.ok (.bl true) S':=by
 obtain⟨cs,hcs⟩:=cells50 Flat.nil hl (x1:=none)
 obtain⟨ρ',S',_,hf⟩:=a8b' (step:=λx ρ S=>match asgCT (.var 1) x ρ with
   |some ρ'=>denSs t_law G0 l50B ρ' S
   |none=>.fail) (λρ S=>∃x1,ρ=[some (.scr (ns.map D.int)),x1]∧Flat S) (cs.map D.int) (by rintro x hx ρ S ⟨x1,rfl,hS⟩;obtain⟨c,_,rfl⟩:=Zy.mp hx;exact⟨_,S,⟨some (.int c),rfl,hS⟩,body50z (s0:=.scr (ns.map D.int)) c hS⟩) [some (.scr (ns.map D.int)),none] [] ⟨none,rfl,Flat.nil⟩
 have hd:denSs t_law G0 c_law [some (.scr (ns.map D.int)),none] []=.ok (.ret (.bl true)) S':=by rw[b2A'];rw[a0k' (ρ':=[some (.scr (ns.map D.int)),none]) (S':=[]) (by rw[a5t' test50];rfl)];refine(a0k' (ρ':=ρ') (S':=S') ?_).trans rfl;rw[a6t' hcs];exact hf
 refine⟨[],?_⟩;show runD t_law G0 c_law n_law.length 1 [.scr (ns.map D.int)] []=_;unfold runD;rw[if_pos (show [D.scr (ns.map D.int)].length=1 from rfl)];rw[show denSs t_law G0 c_law ([D.scr (ns.map D.int)].map some++List.replicate (n_law.length-1) none) []=_ from hd];rfl
end
end K50
section
namespace K50
theorem walk{l:PySem.W.OpenLaw}{q:Program}{d:DefRec}{K:Params→Fg}(hn:l.most=some 63)(hdf:d.params.defaults=[])
  (hY:∀(w:World) (h:Heap),YP w h→(K w.params).In h)
  (F:∀(w:World) (mg:Mg) (fa:Addr) (h:Heap),(K w.params).In h→h.Ns mainGlobals mg→mg d.name=some (.ref fa)→
   ∃fd:FuncData,(∀(s:Shared) (u:Value),BindsTo s fd ⟨[u],[]⟩ [("_law_script",u)])∧∀base:Heap,(K w.params).In base→base.Ns mainGlobals mg→FnOk l.prog w (K w.params) mg base CX0 13 fa fd ["_law_script"] (spLaw (K w.params))):
  PySem.W.WalkO q loose XP YP l.row.toRowW d [] (λf vs=>PySem.call f vs):=
 L2.walk_of (n:=63) (k:=13) (x:="_law_script") (CX:=λ_=>CX0) (sp:=λw=>spLaw (K w.params)) hn (by decide) hdf ⟨rfl,by decide,by decide,rfl⟩ hY F (λ_ _ a ns hl hO hS=>⟨a,ns,rfl,hO,hS,hl,λ_=>rfl⟩) λ_ _ _ _ _ z=>z
end K50
namespace PySem.W.Fast
def tw11501347082810584488:=Nat
def tw4801428581901152246:=Nat
def tw6939110093875386945:=Nat
def tw10180014463495933757:=Nat
def tw7750078255007302608:=Nat
def tw16969587566416669147:=Nat
def tw12810936953242553234:=Nat
def tw17507210824087175613:=Nat
def tw490692485380968630:=Nat
def tw1736647900247987681:=Nat
def tw5467177011070457894:=Nat
def tw7760818942597626768:=Nat
def tw1722323695213758143:=Nat
def tw3556144300327683870:=Nat
def tw12904502405970935333:=Nat
def tw9638653493136320116:=Nat
def tw8688098551550771979:=Nat
def tw11370140184112432666:=Nat
def tw6470587926133639363:=Nat
def tw1483402622307871322:=Nat
def tw1957981070160206901:=Nat
def tw16593592458899491194:=Nat
def tw9606126387515806529:=Nat
def tw12833360813727669226:=Nat
def tw6562830355931210809:=Nat
def tw17532614753503400278:=Nat
def tw17588428026411193477:=Nat
def tw13130689774708380727:=Nat
def tw15069226221082314375:=Nat
def tw13916295322476462711:=Nat
def tw16423574772939530791:=Nat
def tw5103182800607218704:=Nat
def tw18270667813875732980:=Nat
def tw12634567861301599639:=Nat
def tw1271814373789647979:=Nat
def tw5730892552192344888:=Nat
def tw4698760173347597845:=Nat
def tw15857936022422060994:=Nat
def tw16249519886083873277:=Nat
def tw2973531453828699915:=Nat
def tw9790881698240220011:=Nat
def tw7856267062451672408:=Nat
def tw10026280532850684396:=Nat
def tw11561685264449800001:=Nat
def tw3485004910442508947:=Nat
def tw5146457163475046140:=Nat
def tw16267236946025564659:=Nat
def tw4276299277402028173:=Nat
def tw8896565434740277803:=Nat
def tw15152611482013993521:=Nat
def tw12202065999032070501:=Nat
def tw7729233024920394405:=Nat
def tw9952243488516251261:=Nat
def tw4117741997042017167:=Nat
def tw8502504198827735171:=Nat
def tw11440720384143892769:=Nat
def tw1766864561094063826:=Nat
def tw8233046092515582392:=Nat
def tw14051266381728534560:=Nat
def tw439407799244809264:=Nat
def tw4862834151561398155:=Nat
def tw6194312885931639928:=Nat
def tw14250874059392508555:=Nat
def tw6376007219928230096:=Nat
def tw18058366329945593653:=Nat
def tw528187879249492797:=Nat
def tw12500542684503538511:=Nat
def tw197586920158104051:=Nat
def tw10936654029453919385:=Nat
end PySem.W.Fast
open PySem PySem.W PyProof.Rows
set_option maxRecDepth 100000 in
set_option maxHeartbeats 0 in
theorem PySem.Challenge.cw_pairwebs_k50_parts_of_webs_holds : PySem.Challenge.rw_pairwebs_k50_parts_of_webs.Holds := by
 w_on;o_law;k_head;(case hw=>w_witness2)
 k_fill
 refine K50.walk (l:=PySem.Challenge.rw_pairwebs_k50_parts_of_webs) rfl rfl (λw h Y=>PySem.W.kIn_of Y) ?F
 case F=>
  intro w mg fa h KX G hmg
  refine' K50.all_mk KX G hmg K50.good ⟨K50.dm ?_ ?_ ?_ ?_,K50.dm ?_ ?_ ?_ ?_,K50.dm ?_ ?_ ?_ ?_,K50.dm ?_ ?_ ?_ ?_,K50.dm ?_ ?_ ?_ ?_,K50.dm ?_ ?_ ?_ ?_,K50.dm ?_ ?_ ?_ ?_,K50.dm ?_ ?_ ?_ ?_,K50.dm ?_ ?_ ?_ ?_,K50.dm ?_ ?_ ?_ ?_,K50.dm ?_ ?_ ?_ ?_,K50.dm ?_ ?_ ?_ ?_,K50.dm ?_ ?_ ?_ ?_,K50.dm ?_ ?_ ?_ ?_,K50.dm ?_ ?_ ?_ ?_,K50.dm ?_ ?_ ?_ ?_,K50.dm ?_ ?_ ?_ ?_,K50.dm ?_ ?_ ?_ ?_,K50.dm ?_ ?_ ?_ ?_,K50.dm ?_ ?_ ?_ ?_,K50.dm ?_ ?_ ?_ ?_,K50.dm ?_ ?_ ?_ ?_,K50.dm ?_ ?_ ?_ ?_,K50.dm ?_ ?_ ?_ ?_,K50.dm ?_ ?_ ?_ ?_,K50.dm ?_ ?_ ?_ ?_,K50.dm ?_ ?_ ?_ ?_,K50.dm ?_ ?_ ?_ ?_,K50.dm ?_ ?_ ?_ ?_,K50.dm ?_ ?_ ?_ ?_,K50.dm ?_ ?_ ?_ ?_,K50.dm ?_ ?_ ?_ ?_,K50.dm ?_ ?_ ?_ ?_⟩ ?Z ?_
  case Z=>intro x hx;simp only[Py.a2m',Zj,List.mem_nil_iff,or_false]at hx;rcases hx with rfl|rfl|rfl|rfl|rfl|rfl|rfl|rfl|rfl|rfl|rfl|rfl|rfl|rfl|rfl|rfl|rfl|rfl|rfl|rfl|rfl<;>k_is
  all_goals first|k_is|skip
end
