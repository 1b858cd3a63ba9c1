import PyProof.Rows.All
import Wide.All
import OpenK.AllK
import Wide.FinOn
import Lean
import PyProof.EqAt
import PyProof.EqKinds
import PyProof.TupleCall
import PyProof.ListMulAny
import PyProof.FactsAll.tuple
import KE.IntBitsLaws
import PyProof.NeKinds
import PyProof.FactsAll.tuple_2
import PyProof.SumWalkG
import PyProof.MinMaxWalk
import PyProof.Rows.SeqMore
import PyProof.FactsAll.tuple_3
import KE.KRevIter
import PyProof.FactsAll.range_2
import PyProof.EnumFor
import PyProof.TupleOfGen
import PyProof.ListRange
import PyProof.Rows.SetFrom
import PyProof.WalksMore
import PyProof.FactsAll.subtypes_4
import PyProof.RangeFor
import PyProof.FactsAll.set_1
import PyProof.CollectIter
import PyProof.FactsAll.set_2
import PyProof.Rows.SortRuns
import KE.KSortAsk
import KE.KSortTup
import PyProof.Rows.FStr
import PyProof.ExcBaseAll.ValueError
import PyProof.Rows.TopTwo
import PyProof.ExcAttrAll.ValueError
import KE.KIsAll
import KE.KTryMore
import PySem.Challenge.RW_pairwebs_k03_kinds
noncomputable section
set_option genSizeOfSpec false
set_option Elab.async false
set_option linter.all false
set_option maxRecDepth 100000
set_option maxHeartbeats 16000000
namespace L2
end L2
namespace Py
end Py
open PySem PySem.Spec PyProof.Rows L2 Py
abbrev Mg:=Str→Option Value
abbrev Vs:=Value→Shared→Prop
abbrev Fg:=PySem.W.Frag
abbrev Lp:=List (Addr×Obj)
abbrev Lq:=List (Int×Int)
abbrev Li:=List Int
abbrev La:=List Addr
abbrev Lv:=List Value
abbrev Ls:=List Str
abbrev Lx:=List Expr
abbrev Ov:=Option Value
abbrev Av:=Array Value
def Za:=@PySem.wpAny_bind
def Zb:=@List.mem_cons_of_mem
def Zc:=@List.mem_cons_self
def Zd:=@PySem.Heap.get?_push_of_some
def Ze:=@List.getElem?_eq_some_iff
def Zf:=@List.size_toArray
def Zg:=@PySem.wpAny_pure
def Zh:=@List.getElem?_eq_getElem
def Zi:=@Nat.le_refl
def Zj:=@PyProof.Rows.wpS_bind
def Zk:=@PySem.Heap.lt_size
def Zl:=@PyProof.Rows.wpS_pure
def Zm:=@List.getElem?_append_left
def Zn:=@PySem.Heap.get?_push_size
def Zo:=@List.mem_cons
def Zp:=@List.all_eq_true
def Zq:=@List.mem_append_right
def Zr:=@List.getElem?_append_right
def Zs:=@List.append_assoc
def Zt:=@List.eq_nil_of_length_eq_zero
def Zu:=@Array.length_toList
def Zv:=@Nat.lt_of_lt_of_le
def Zw:=@List.mem_of_getElem?
def Zx:=@PySem.mem_of_lookup
def Zy:=@decide_eq_false
def Zz:=@Nat.succ.inj
def ZA:=@Bool.and_eq_true
def ZB:=@List.pairwise_append
def ZC:=@List.mem_append
def ZD:=@Bool.false_eq_true
def ZE:=@Nat.le_trans
def ZF:=@List.length_cons
def ZG:=@List.mem_append_left
def ZH:=@List.exists_cons_of_length_eq_add_one
def ZI:=@List.length_append
def ZJ:=@Array.toList_append
def ZK:=@Nat.ne_of_lt
def ZL:=@Option.some.inj
def ZM:=@List.getElem?_set_self
def ZN:=@List.length_take
def ZO:=@PyProof.Rows.wpS_forRange
def ZP:=@PySem.wpAny_truthy_bool
def ZQ:=@List.getElem?_map
def ZR:=@Array.getElem?_toList
def ZS:=@decide_eq_true
def ZT:=@LawfulBEq.eq_of_beq
def ZU:=@Bool.false_ne_true
def ZV:=@PySem.wpAny_mono
def ZW:=@List.mem_iff_getElem
def ZX:=@PySem.wpAny_field
variable {us its its' args:Lv}{u cd doc pm cdv ct oc vl vu z cls:Value}{a it C dx f sl fa acc I pa:Addr}{P prog q:Program}{w:World}{h h' h1 h2 base h0 h3:Heap}{α β:Type}{e tg iter r' elt:Expr}{pq pins':Lp}{s s' s2:Shared}{g':Array GenState}{t' k n lo tk j2 nrem src line np:Nat}{d':Drawn}{ch fp μ μ' F wr μ1 μ0:La}{N ps loose N':Ls}{M:Model}{A:Around}{E Q E':Vs}{rest es ifs:Lx}{c:Nat→Nat→Bool}{y name qual pe:Str}{K:Fg}{st:Stmt}{pos' apos p2 cpos vp:Pos}{hi:Option Int}{op':CmpOp}{κ:SortKind}{mg:Mg}{scope:Scope}{outer:List Env}{od:Option Addr}{osl:Array (Ov)}{T:String}{items:Av}{XP:(Mg)→Heap→Prop}{YP:World→Heap→Prop}{ns:Li}{env:Env}{gens:List Comprehension}{tn:Nat→Heap→Prop}{cell bf:Str→Bool}{b1 b2 left:Bool}{fr:List (Option Nat)}{key:Keyed}{o2 a0:Array Keyed}{c1:Nat→Prop}{L:List (Nat×Nat×Nat)}
namespace L2
abbrev Key:=Sum Int Str
def keyIs:Key→Value→Bool
 | .inl k,v=>Value.isInt k v
 | .inr x,v=>Value.isStrOf x v
def keyH(w:World):Key→Int
 | .inl k=>hashInt k
 | .inr x=>hashStr w x
theorem a0q':∀{k:Key} {v:Value},keyIs k v=true→(∃i t,k=Sum.inl i∧v=Value.int i t)∨(∃x t,k=Sum.inr x∧v=Value.str x t)
 | .inl i,v,h=>by obtain⟨t,e⟩:=Value.isInt_shape (k:=i) (v:=v) h;exact .inl ⟨i,t,rfl,e⟩
 | .inr x,v,h=>by obtain⟨t,e⟩:=Value.isStrOf_shape (x:=x) (v:=v) h;exact .inr ⟨x,t,rfl,e⟩
theorem key_ll(a b:Int):decide ((Sum.inl a:Key)=Sum.inl b)=(a==b):=by
 by_cases e:a=b
 ·subst e;simp
 ·have h:¬(Sum.inl a:Key)=Sum.inl b:=λq=>e (Sum.inl.inj q);rw[Zy h];exact(beq_eq_false_iff_ne.mpr e).symm
theorem key_rr(a b:Str):decide ((Sum.inr a:Key)=Sum.inr b)=decide (a=b):=by
 by_cases e:a=b
 ·subst e;simp
 ·have h:¬(Sum.inr a:Key)=Sum.inr b:=λq=>e (Sum.inr.inj q);rw[Zy h,Zy e]
theorem key_lr(a:Int)(b:Str):decide ((Sum.inl a:Key)=Sum.inr b)=false:=Zy (λq=>nomatch q)
theorem key_rl(a:Str)(b:Int):decide ((Sum.inr a:Key)=Sum.inl b)=false:=Zy (λq=>nomatch q)
def a4Z'(prog:Program)(w:World):PySem.KeyKind prog w Key where
 is:=keyIs
 hash:=keyH w
 inj:=λv a b ha hb=>by
  rcases a0q' ha with⟨i,t,rfl,rfl⟩| ⟨x,t,rfl,rfl⟩
  ·rcases a0q' hb with⟨j,u,rfl,e⟩| ⟨y,u,rfl,e⟩
   ·injection e with e1 _;rw[e1]
   ·exact nomatch e
  ·rcases a0q' hb with⟨j,u,rfl,e⟩| ⟨y,u,rfl,e⟩
   ·exact nomatch e
   ·injection e with e1 _;rw[e1]
 byValue:=λk v h=>by rcases a0q' h with⟨i,t,rfl,rfl⟩| ⟨x,t,rfl,rfl⟩<;>rfl
 pyHash:=λhv h=>by
  rcases a0q' hv with⟨i,t,rfl,rfl⟩| ⟨x,t,rfl,rfl⟩
  ·exact wpAny_pyHash_int h
  ·exact wpAny_pyHash_str h
 eqBool:=λhu hv h=>by
  rcases a0q' hu with⟨i,t,rfl,rfl⟩| ⟨x,t,rfl,rfl⟩
  ·rcases a0q' hv with⟨j,u,rfl,rfl⟩| ⟨y,u,rfl,rfl⟩
   ·rw[key_ll]at h;exact wpAny_eqBool_int h
   ·rw[key_lr]at h;exact SeqAt.EqAt.int_str i t y u _ _ _ _ h
  ·rcases a0q' hv with⟨j,u,rfl,rfl⟩| ⟨y,u,rfl,rfl⟩
   ·rw[key_rl]at h;exact SeqAt.EqAt.str_int x t j u _ _ _ _ h
   ·rw[key_rr]at h;exact wpAny_eqBool_str h
 «strs»:=λk x t v h=>by
  rcases a0q' h with⟨i,u,rfl,e⟩| ⟨y,u,rfl,e⟩
  ·exact nomatch e
  ·injection e with e1 _
   subst e1;cases v<;>rfl
inductive V where
 |non|bl (b:Bool)|int (i:Int)|str (x:Str)|byt (b:Array UInt8)|flt (b:UInt64)|ref (a:Addr)|ty (n:String)
 deriving DecidableEq
def RelV:V→Value→Prop
 | .non,u=>u=Value.none
 | .bl b,u=>u=Value.bool b
 | .int i,u=>∃t,u=Value.int i t
 | .str x,u=>∃t,u=Value.str x t
 | .byt b,u=>∃t,u=Value.bytes b t
 | .flt b,u=>∃t,u=Value.float b t
 | .ref a,u=>u=Value.ref a
 | .ty n,u=>u=Value.type n
abbrev Vals:List V→Lv→Prop:=Paired RelV
theorem Vals.length{xs:List V}(r:Vals xs us):xs.length=us.length:=Paired.length r
theorem Vals.get:∀{xs:List V} {us:Lv} {i:Nat} {x:V},Vals xs us→xs[i]?=some x→∃u,us[i]?=some u∧RelV x u
 |_,_,_,_,.nil,e=>by simp at e
 |_,_,0,_,.cons r _,e=>by simp at e;subst e;exact⟨_,rfl,r⟩
 |_,_,i+1,x,.cons _ t,e=>by obtain⟨u,h1,h2⟩:=Vals.get (i:=i) (x:=x) t (by simpa using e);exact⟨u,by simpa using h1,h2⟩
theorem Vals.set{x:V}(r:RelV x u):∀{xs:List V} {us:Lv} (i:Nat),Vals xs us→Vals (xs.set i x) (us.set i u)
 |_,_,_,.nil=>.nil
 |_,_,0,.cons _ t=>.cons r t
 |_,_,i+1,.cons q t=>.cons q (Vals.set r i t)
theorem Vals.append:∀{xs ys:List V} {us ws:Lv},Vals xs us→Vals ys ws→Vals (xs++ys) (us++ws)
 |_,_,_,_,.nil,s=>s
 |_,_,_,_,.cons r t,s=>.cons r (Vals.append t s)
theorem Vals.take:∀{xs:List V} {us:Lv} (n:Nat),Vals xs us→Vals (xs.take n) (us.take n)
 |_,_,0,_=>.nil
 |_,_,_+1,.nil=>.nil
 |_,_,n+1,.cons r t=>.cons r (Vals.take n t)
theorem Vals.drop:∀{xs:List V} {us:Lv} (n:Nat),Vals xs us→Vals (xs.drop n) (us.drop n)
 |_,_,0,r=>r
 |_,_,_+1,.nil=>.nil
 |_,_,n+1,.cons _ t=>Vals.drop n t
def RelO:Option V→Ov→Prop
 |some v,some u=>RelV v u
 |none,none=>True
 |_,_=>False
def KV{κ:Type}:List (κ×V)→List (κ×Value)→Prop:=Paired λ(p:κ×V) (q:κ×Value)=>p.1=q.1∧RelV p.2 q.2
def kV:Key→V
 | .inl i=>.int i
 | .inr x=>.str x
inductive HO where
 |lst (xs:List V)
 |tup (xs:List V)
 |dK (kvs:List (Key×V))|dT (kvs:List (List Key×V))
 |set (S:Int→Bool) (n:Nat)
 |ins (C dx:Addr) (fs:List (Str×V))
 |own (x:Addr)
 |xd (fs:List (Str×V))
 |met (f x:Addr)
 |rng (lo hi:Int)
 |frz (o:Obj) (u:HO)
 |tbl (ps:Av)
 |ext (φ:Heap→Prop)
abbrev Hp:=Addr→Option HO
def upd(H:Hp)(a:Addr)(o:HO):Hp:=λb=>if b=a then some o else H b
theorem a0h'{H:Hp}{o:HO}:upd H a o a=some o:=by unfold upd;rw[if_pos rfl]
theorem a0e'{H:Hp}{b:Addr}{o:HO}(h:b≠a):upd H a o b=H b:=by unfold upd;rw[if_neg h]
theorem a0c'{H:Hp}{b:Addr}{o:HO}(h:H a=some o)(h':H b=none):a≠b:=by intro e;subst e;rw[h]at h';cases h'
def NoD(h:Heap)(a:Addr):Prop:=∃o,h.get? a=some o∧o.dict=none
theorem NoD.new(h:Heap)(items:Av):NoD (h.push {cls:=.type "tuple",data:=.seq items}) h.objs.size:=⟨_,Zn _ rfl,rfl⟩
section
variable (P:Program)(w:World)
def ObjOk(H:Hp)(h:Heap)(a:Addr):HO→Prop
 | .lst xs=>xs.length≤sizeLine∧∃(its:Lv) (n:Nat),Vals xs its∧h.get? a=some {cls:=.type "list",data:=.seq its.toArray n}
 | .tup xs=>xs.length≤sizeLine∧∃its:Lv,Vals xs its∧IsTup h a its.toArray∧NoD h a
 | .dK kvs=>kvs.length≤sizeLine∧(a==sysModules)=false∧∃vs,KV kvs vs∧h.DictOf (a4Z' P w) a vs
 | .dT kvs=>kvs.length≤sizeLine∧(a==sysModules)=false∧∃xs:List (List Key×Addr×Value),
   Paired (λ(p:List Key×V) (q:List Key×Addr×Value)=>p.1=q.1∧H q.2.1=some (.tup (p.1.map kV))∧RelV p.2 q.2.2) kvs xs∧
   ∃o es ep,h.get? a=some o∧o.ExactDict∧o.data=.dict es ep∧es.toList=xs.map (entryOfKey (tupleKind (a4Z' P w)))∧(xs.map (·.1)).Nodup
 | .set S n=>h.SetOf (intKind P w) a S n
 | .ins C dx fs=>H dx=some (.own a)∧fs.length≤1000∧dx≠a∧h.get? a=some (PySem.W.instObj C dx)∧
   ∃mA,h.Ns1 dx mA∧(∀f,RelO (fs.lookup f) (mA f))∧PySem.Within mA (fs.map (·.1))
 | .own _=>∃o,h.get? a=some o
 | .xd fs=>∃mA,h.Ns1 a mA∧∀f,RelO (fs.lookup f) (mA f)
 | .rng lo hi=>∃t u v,h.get? a=some {cls:=.type "range",data:=.fields #[.int lo t,.int hi u,.int 1 v]}
 | .frz o u=>h.get? a=some o∧ObjOk H h a u
 | .tbl ps=>h.get? a=some {cls:=.none,data:=.fields ps}
 | .met f x=>h.get? a=some (PySem.W.methodObj (.ref f) (.ref x))
 | .ext φ=>φ h∧(∃o,h.get? a=some o)∧∀h1 h2:Heap,φ h1→(∀o,h1.get? a=some o→h2.get? a=some o)→φ h2
def HOk(H:Hp)(h:Heap):Prop:=∀a o,H a=some o→ObjOk P w H h a o
end
section
variable {H H':Hp}{o:HO}
theorem ObjOk.lt(x:ObjOk P w H h a o):a<h.objs.size:=by
 cases o with
 |lst xs=>obtain⟨_,_,_,_,e⟩:=x;exact Zk e
 |tup xs=>obtain⟨_,_,_,p,_⟩:=x;exact p.lt
 |dK kvs=>obtain⟨_,_,_,_,o,_,_,e,_⟩:=x;exact Zk e
 |dT kvs=>obtain⟨_,_,_,_,o,_,_,e,_⟩:=x;exact Zk e
 |set S n=>obtain⟨o,_,_,_,e,_⟩:=x;exact Zk e
 |ins C dx fs=>obtain⟨_,_,_,e,_⟩:=x;exact Zk e
 |own y=>obtain⟨_,e⟩:=x;exact Zk e
 |xd fs=>obtain⟨_,⟨_,_,_,e,_⟩,_⟩:=x;exact Zk e
 |rng lo hi=>obtain⟨_,_,_,e⟩:=x;exact Zk e
 |frz ob u=>obtain⟨e,_⟩:=x;exact Zk e
 |tbl ps=>exact Zk (show h.get? a=some _ from x)
 |met f y=>exact Zk (show h.get? a=some _ from x)
 |ext φ=>obtain⟨_,⟨_,e⟩,_⟩:=x;exact Zk e
theorem Paired.mapP{F G:α→β→Prop}:∀{l₁:List α} {l₂:List β},Paired F l₁ l₂→(∀a b,F a b→G a b)→Paired G l₁ l₂
 |_,_,.nil,_=>.nil
 |_,_,.cons r t,f=>.cons (f _ _ r) (Paired.mapP t f)
theorem ObjOk.stay(x:ObjOk P w H h a o)(k:∀b u,(b=a∨H b=some (.own a))→h.get? b=some u→h'.get? b=some u)
  (ho:∀b,H b=some (.own a)→H' b=some (.own a)) (ht:∀b xs,H b=some (.tup xs)→H' b=some (.tup xs)):ObjOk P w H' h' a o:=by
 induction o with
 |lst xs=>obtain⟨z,its,n,r,e⟩:=x;exact⟨z,its,n,r,k _ _ (.inl rfl) e⟩
 |tup xs=>obtain⟨z,its,r,⟨ob,e,c⟩,ob',e',c'⟩:=x;exact⟨z,its,r,⟨ob,k _ _ (.inl rfl) e,c⟩,ob',k _ _ (.inl rfl) e',c'⟩
 |dK kvs=>obtain⟨z,y,vs,r,ob,es,ep,e,c⟩:=x;exact⟨z,y,vs,r,ob,es,ep,k _ _ (.inl rfl) e,c⟩
 |dT kvs=>obtain⟨z,y,xs,r,ob,es,ep,e,c⟩:=x;exact⟨z,y,xs,Paired.mapP r λp q z=>⟨z.1,ht _ _ z.2.1,z.2.2⟩,ob,es,ep,k _ _ (.inl rfl) e,c⟩
 |set S n=>obtain⟨ob,es,ep,t,e,c⟩:=x;exact⟨ob,es,ep,t,k _ _ (.inl rfl) e,c⟩
 |ins C dx fs=>obtain⟨d,z,ne,e,mA,⟨od,es,ep,e2,c⟩,r⟩:=x;exact⟨ho _ d,z,ne,k _ _ (.inl rfl) e,mA,⟨od,es,ep,k _ _ (.inr d) e2,c⟩,r⟩
 |own y=>obtain⟨ob,e⟩:=x;exact⟨ob,k _ _ (.inl rfl) e⟩
 |xd fs=>obtain⟨mA,⟨od,es,ep,e,c⟩,r⟩:=x;exact⟨mA,⟨od,es,ep,k _ _ (.inl rfl) e,c⟩,r⟩
 |rng lo hi=>obtain⟨t,u,v,e⟩:=x;exact⟨t,u,v,k _ _ (.inl rfl) e⟩
 |frz ob u ih=>obtain⟨e,q⟩:=x;exact⟨k _ _ (.inl rfl) e,ih q⟩
 |tbl ps=>have e:h.get? a=some {cls:=.none,data:=.fields ps}:=x;show h'.get? a=some {cls:=.none,data:=.fields ps};exact k a _ (.inl rfl) e
 |met f y=>have e:h.get? a=some (PySem.W.methodObj (.ref f) (.ref y)):=x;show h'.get? a=some (PySem.W.methodObj (.ref f) (.ref y));exact k a _ (.inl rfl) e
 |ext φ=>obtain⟨p,⟨o,e⟩,st⟩:=x;exact⟨st _ _ p λo q=>k _ _ (.inl rfl) q,⟨o,k _ _ (.inl rfl) e⟩,st⟩
theorem HOk.lt(x:HOk P w H h)(e:H a=some o):a<h.objs.size:=(x a o e).lt
theorem HOk.fresh(x:HOk P w H h)(e:h.objs.size≤a):H a=none:=by
 cases q:H a with
 |none=>rfl
 |some u=>exact absurd (Zv (x.lt q) e) (Nat.lt_irrefl _)
theorem HOk.kept(x:HOk P w H h)(k:∀b u,h.get? b=some u→h'.get? b=some u):HOk P w H h':=λa o e=>
 (x a o e).stay (λb u _ q=>k b u q) (λ_ q=>q) λ_ _ q=>q
theorem HOk.laid(x:HOk P w H h)(k:∀b u,h.get? b=some u→h'.get? b=some u)(hp:h.objs.size≤a)(new:ObjOk P w (upd H a o) h' a o):HOk P w (upd H a o) h':=λb u e=>by
 have hn:=x.fresh hp;by_cases hb:b=a
 ·subst hb;rw[a0h']at e;cases e;exact new
 ·rw[a0e' hb]at e;exact(x b u e).stay (λc v _ q=>k c v q) (λc q=>by rw[a0e' (a0c' q hn)];exact q) λc xs q=>by rw[a0e' (a0c' q hn)];exact q
end
def Rd(H:Hp)(a:Addr)(u:HO):Prop:=H a=some u∨∃o,H a=some (.frz o u)
theorem Rd.ok{H:Hp}{u:HO}(r:Rd H a u)(x:HOk P w H h):ObjOk P w H h a u:=by
 rcases r with r| ⟨o,r⟩
 ·exact x a u r
 ·obtain⟨_,q⟩:=x a _ r;exact q
def Mut:Option HO→Prop
 |some (.lst _)=>True
 |some (.dK _)=>True
 |some (.dT _)=>True
 |some (.set _ _)=>True
 |some (.ins _ _ _)=>True
 |some (.ext _)=>True
 |_=>False
section
variable {H:Hp}{x e:Addr}{o':HO}
theorem HOk.write(ok:HOk P w H h)(mu:Mut (H x))(he:e=x∨H e=some (.own x))(k:∀b u,b≠e→h.get? b=some u→h'.get? b=some u)(heo:∃u,h'.get? e=some u)
  (new:ObjOk P w (upd H x o') h' x o'):HOk P w (upd H x o') h':=λb u q=>by
 have nown:∀c y,H c=some (.own y)→c≠x:=λc y r z=>by subst z;rw[r]at mu;exact mu
 have ntup:∀c xs,H c=some (.tup xs)→c≠x:=λc xs r z=>by subst z;rw[r]at mu;exact mu
 by_cases hb:b=x
 ·subst hb;rw[a0h']at q;cases q;exact new
 ·rw[a0e' hb]at q;by_cases hbe:b=e
  ·have q':H b=some (.own x):=by
    rcases he with z|z
    ·exact absurd (hbe.trans z) hb
    ·rw[hbe];exact z
   rw[q]at q';cases q';obtain⟨v,hv⟩:=heo;exact⟨v,by rw[hbe];exact hv⟩
  ·refine(ok b u q).stay (λc v hc r=>k c v ?_ r) (λc r=>by rw[a0e' (nown c b r)];exact r) λc xs r=>by rw[a0e' (ntup c xs r)];exact r
   rcases hc with rfl|hc
   ·exact hbe
   ·rintro rfl;rcases he with z|z
    ·exact nown c b hc z
    ·rw[hc]at z;cases z;exact hb rfl
end
structure Un (fs ex:La)(H H':Hp)(h h':Heap):Prop where
 keep:∀b o,h.get? b=some o→H b=none→b∉fs→b∉ex→h'.get? b=some o
 slot:∀b o,h.get? b=some o→H b=none→b∈fs→b∉ex→∃sl,h'.get? b=some {o with slots:=sl}
 free:∀b o,h.get? b=some o→H b=none→b∉ex→H' b=none
 there:∀b o,h.get? b=some o→b∉ex→∃o',h'.get? b=some o'
 tups:∀b xs,H b=some (.tup xs)→H' b=some (.tup xs)
 frzs:∀b o u,H b=some (.frz o u)→H' b=some (.frz o u)
 tbls:∀b ps,H b=some (.tbl ps)→∃more,H' b=some (.tbl (ps++more))
section
variable {fs fs' ex ex':La}{H H1 H2:Hp}{x e:Addr}{o:HO}
theorem Un.any(u:Un fs ex H H1 h h1){b:Addr}{ob:Obj}(q:h.get? b=some ob)(n:H b=none)(hx:b∉ex):∃sl,h1.get? b=some {ob with slots:=sl}:=by
 by_cases hb:b∈fs
 ·exact u.slot b ob q n hb hx
 ·exact⟨ob.slots,u.keep b ob q n hb hx⟩
theorem Un.kept(k:∀b u,h.get? b=some u→h'.get? b=some u):Un fs ex H H h h':=
 ⟨λb ob q _ _ _=>k b ob q,λb ob q _ _ _=>⟨ob.slots,k b ob q⟩,λ_ _ _ n _=>n,λb ob q _=>⟨ob,k b ob q⟩,λ_ _ q=>q,λ_ _ _ q=>q,λ_ ps q=>⟨#[],by rw[q];simp⟩⟩
theorem Un.refl:Un fs ex H H h h:=Un.kept λ_ _ q=>q
theorem Un.laid(k:∀b u,h.get? b=some u→h'.get? b=some u)(hp:h.objs.size≤a)(hn:H a=none):Un fs ex H (upd H a o) h h' where
 keep:=λb u q _ _ _=>k b u q
 slot:=λb u q _ _ _=>⟨u.slots,k b u q⟩
 free:=λb u q n _=>by rw[a0e' (ZK (Zv (Zk q) hp))];exact n
 there:=λb u q _=>⟨u,k b u q⟩
 tups:=λb xs q=>by rw[a0e' (a0c' q hn)];exact q
 frzs:=λb u xs q=>by rw[a0e' (a0c' q hn)];exact q
 tbls:=λb ps q=>⟨#[],by rw[a0e' (a0c' q hn),q];simp⟩
theorem Un.write(mu:Mut (H x))(he:e=x∨H e=some (.own x))(k:∀b u,b≠e→h.get? b=some u→h'.get? b=some u)(heo:∃u,h'.get? e=some u):Un fs ex H (upd H x o) h h':=by
 have hx:∀b,H b=none→b≠x:=λb n z=>by subst z;rw[n]at mu;exact mu
 have hb:∀b,H b=none→b≠e:=λb n z=>by
  subst z;rcases he with r|r
  ·exact hx b n r
  ·rw[n]at r;cases r
 have hm:∀b u,H b=some u→¬Mut (some u)→b≠x:=λb u q nm z=>by subst z;rw[q]at mu;exact nm mu
 refine⟨λb u q n _ _=>k b u (hb b n) q,λb u q n _ _=>⟨u.slots,k b u (hb b n) q⟩,λb u q n _=>by rw[a0e' (hx b n)];exact n,λb u q _=>?_,
  λb xs q=>by rw[a0e' (hm b _ q λz=>z)];exact q,λb u xs q=>by rw[a0e' (hm b _ q λz=>z)];exact q,λb ps q=>⟨#[],by rw[a0e' (hm b _ q λz=>z),q];simp⟩⟩
 by_cases hbe:b=e
 ·subst hbe;exact heo
 ·exact⟨u,k b u hbe q⟩
end
def trk(h:Heap)(H:Hp):La:=(List.range h.objs.size).filter λa=>(H a).isSome
def hidT(h:Heap)(H:Hp):Heap:=PySem.W.hideAll h (trk h H)
theorem a6z'(h:Heap)(H:Hp):(hidT h H).objs.size=h.objs.size:=PySem.W.hideAll_size _ _
theorem a7Y'{H:Hp}{b:Addr}{o:Obj}(e:h.get? b=some o)(n:H b=none):(hidT h H).get? b=some o:=
 PySem.W.hideAll_get _ e λhm=>by have q:(H b).isSome=true:=(List.mem_filter.mp hm).2;rw[n]at q;simp at q
theorem of_hidT{H:Hp}{b:Addr}{o:Obj}(e:(hidT h H).get? b=some o):h.get? b=some o∧H b=none:=by
 have e':h.get? b=some o:=PySem.W.of_hideAll (trk h H) e;refine⟨e',?_⟩;cases q:H b with
 |none=>rfl
 |some x=>have hm:b∈trk h H:=List.mem_filter.mpr ⟨List.mem_range.mpr (Zk e'),by simp[q]⟩;have z:(hidT h H).get? b=none:=PySem.W.hideAll_none (trk h H) hm;rw[z]at e;cases e
structure Mod (K:Fg)(mg:Mg)(base:Heap):Prop where
 kin:K.In base
 glob:base.Ns mainGlobals mg
 blt:∃mb,base.Ns builtinsNs mb∧∀x:Str,x≠"__name__"→mb x=bootBuiltins x
 nolimit:base.NoLimit
structure Cx where
 prog:Program
 w:World
 K:Fg
 mg:Mg
 base:Heap
 A:Around
 N:Ls
 s₀:Shared
 H₀:Hp
 env:Env
 outer:List Env
 stack:List Env
 ex:La
 fn:Str→Bool
 calm:Bool
 pn:Lp
 xe:Vs
def frs(l:List Env):La:=l.filterMap (·.frame)
abbrev Cx.fs(X:Cx):La:=frs X.outer
def Vis(sc:Scope)(x:Str):Prop:=sc.names.lookup x=some .local∨sc.names.lookup x=some .cell∨sc.names.lookup x=some .free
def Loc(sc:Scope)(x:Str):Prop:=sc.names.lookup x=some .local∨sc.names.lookup x=some .cell
def Look(env:Env)(h:Heap)(m:Mg)(x:Str)(u:Value):Prop:=
 (env.kindOf x=some .local∧m x=some u)∨((env.kindOf x=some .cell∨env.kindOf x=some .free)∧∃c,env.cells.lookup x=some c∧h.IsCell c (some u))
structure Cx.Ok (X:Cx):Prop where
 mod:Mod X.K X.mg X.base
 kind:X.env.scope.kind=.function
 glob:X.env.globals=mainGlobals
 blt:X.env.builtins=builtinsNs
 above:X.s₀.heap.objs.size≤X.env.locals
 inj:∀x y c,X.env.cells.lookup x=some c→X.env.cells.lookup y=some c→x=y
 has:∀x,(X.env.kindOf x=some .cell∨X.env.kindOf x=some .free)→∃c,X.env.cells.lookup x=some c
 cab:∀x c,X.fn x=true→X.env.cells.lookup x=some c→X.s₀.heap.objs.size≤c
 hd:X.calm=true→X.A.handled=none
 frames:X.A.frames=some X.stack
 stk:X.stack=X.outer∨(X.stack=X.env::X.outer∧X.env.frame=some X.env.locals)
 exf:∀b∈X.ex,b≠X.env.locals∧∀x c,X.env.cells.lookup x=some c→c≠b
 bs:∀b o,X.base.get? b=some o→X.s₀.heap.get? b=some o∧X.H₀ b=none
 bsz:X.base.objs.size≤X.s₀.heap.objs.size
 noex:∀b o,X.base.get? b=some o→b∉X.ex
 exfs:∀b∈X.ex,b∉X.fs
 funs:X.s₀.heap.FunFrames X.base X.outer
 frf:∀b∈X.fs,X.H₀ b=none
structure Inv (X:Cx)(pq:Lp)(σ:List (Option V))(H:Hp)(s:Shared):Prop where
 ok:X.Ok
 os:s.os=X.s₀.os
 bare:AllBare s.gens
 base:Un X.fs X.ex X.H₀ H X.s₀.heap s.heap
 loc:∃m,s.heap.Ns X.env.locals m∧∀(i:Nat) (x:Str) (v:V),X.N[i]?=some x→σ[i]?=some (some v)→Vis X.env.scope x→∃u,RelV v u∧Look X.env s.heap m x u
 cell:∀x c,X.env.cells.lookup x=some c→∃v,s.heap.IsCell c v
 free:H X.env.locals=none
 freeC:∀x c,X.env.cells.lookup x=some c→H c=none
 pin:∀p∈X.pn++pq,s.heap.get? p.1=some p.2∧H p.1=none∧p.1≠X.env.locals∧p.1∉X.fs∧∀v,p.2.data≠.cell v
 hok:HOk X.prog X.w H s.heap
 len:σ.length=X.N.length
section
variable {X:Cx}{σ:List (Option V)}{H H':Hp}
theorem Cx.Ok.nofr(ok:X.Ok){b:Addr}{o:Obj}(e:X.base.get? b=some o):b∉X.fs:=λhb=>by have:=(ok.funs.mem hb).1;rw[e]at this;cases this
theorem Inv.bs(I:Inv X pq σ H s):∀b o,X.base.get? b=some o→s.heap.get? b=some o∧H b=none:=λb o e=>
 ⟨I.base.keep b o (I.ok.bs b o e).1 (I.ok.bs b o e).2 (I.ok.nofr e) (I.ok.noex b o e),I.base.free b o (I.ok.bs b o e).1 (I.ok.bs b o e).2 (I.ok.noex b o e)⟩
theorem Inv.bk(I:Inv X pq σ H s):∀b o,X.base.get? b=some o→s.heap.get? b=some o:=λb o e=>(I.bs b o e).1
theorem Inv.mod(I:Inv X pq σ H s):Mod X.K X.mg X.base:=I.ok.mod
theorem Inv.kIn(I:Inv X pq σ H s):X.K.In s.heap:=I.ok.mod.kin.keeps I.bk
theorem Inv.lt(I:Inv X pq σ H s):X.env.locals<s.heap.objs.size:=let⟨_,hn,_⟩:=I.loc;hn.lt
theorem Inv.sz(I:Inv X pq σ H s):X.s₀.heap.objs.size≤s.heap.objs.size:=ZE I.ok.above (Nat.le_of_lt I.lt)
theorem Inv.nofs(I:Inv X pq σ H s)(h:s.heap.objs.size≤a):a∉X.fs:=λhb=>by obtain⟨_,o,ho,_⟩:=I.ok.funs.mem hb;exact absurd (Zv (Zk ho) (ZE I.sz h)) (Nat.lt_irrefl _)
theorem Inv.cne(I:Inv X pq σ H s):∀x c,X.env.cells.lookup x=some c→c≠X.env.locals:=λx c e z=>by obtain⟨v,o,ho,hd⟩:=I.cell x c e;obtain⟨m,⟨o',es,ep,ho',hd',_⟩,_⟩:=I.loc;rw[z,ho']at ho;cases ho;rw[hd']at hd;cases hd
theorem Inv.funs(I:Inv X pq σ H s):s.heap.FunFrames X.base X.outer:=by
 have all:∀(l:List Env),(∀b∈frs l,b∈X.fs)→X.s₀.heap.FunFrames X.base l→s.heap.FunFrames X.base l:=by
  intro l
  induction l with
  |nil=>intro _ _;trivial
  |cons env r ih=>intro hs hl;obtain⟨hk,⟨L,o,hf,hn,ho,hd⟩,hr⟩:=hl;have hL:L∈X.fs:=hs L (by unfold frs;rw[List.filterMap_cons,hf];exact Zc);obtain⟨sl,e⟩:=I.base.slot L o ho (I.ok.frf L hL) hL λz=>I.ok.exfs L z hL;exact⟨hk,⟨L,_,hf,hn,e,hd⟩,ih (λb hb=>hs b (by unfold frs;rw[List.filterMap_cons,hf];exact Zb _ hb)) hr⟩
 exact all X.outer (λ_ hb=>hb) I.ok.funs
theorem Inv.stack(I:Inv X pq σ H s):s.heap.FunFrames X.base X.stack:=by
 rcases I.ok.stk with e| ⟨e,hf⟩
 ·rw[e];exact I.funs
 ·rw[e];obtain⟨m,hn,_⟩:=I.loc;refine .cons (by rw[I.ok.kind];decide) hf hn ?_ I.funs;exact Heap.get?_none_of_le (ZE I.ok.bsz I.ok.above)
theorem Inv.stkSub(I:Inv X pq σ H s):∀b∈frs X.stack,b∈X.env.locals::X.fs:=λb hb=>by
 rcases I.ok.stk with e| ⟨e,hf⟩
 ·rw[e]at hb;exact Zb _ hb
 ·rw[e]at hb;unfold frs at hb;rw[List.filterMap_cons,hf]at hb;exact hb
theorem Inv.stkFree(I:Inv X pq σ H s):∀b∈frs X.stack,H b=none:=λb hb=>by
 rcases Zo.mp (I.stkSub b hb)with e|hb
 ·rw[e];exact I.free
 ·obtain⟨_,o,ho,_⟩:=I.ok.funs.mem hb;exact I.base.free b o ho (I.ok.frf b hb) λz=>I.ok.exfs b z hb
theorem Inv.step{g':Array GenState}{t':Nat}{d':Drawn}(I:Inv X pq σ H s)
  (hch:∀b∈ch,(b∈X.ex∨X.s₀.heap.objs.size≤b)∧b≠X.env.locals∧(∀x c,X.env.cells.lookup x=some c→c≠b)∧∀p∈X.pn++pq,p.1≠b)
  (keep:∀b o,b≠X.env.locals→b∉X.fs→b∉ch→s.heap.get? b=some o→H b=none→h'.get? b=some o)
  (slot:∀b o,b≠X.env.locals→b∈X.fs→b∉ch→s.heap.get? b=some o→H b=none→∃sl,h'.get? b=some {o with slots:=sl}) (free:∀b o,b∉ch→s.heap.get? b=some o→H b=none→H' b=none)
  (there:∀b o,b∉ch→s.heap.get? b=some o→∃o',h'.get? b=some o')
  (tups:∀b xs,H b=some (.tup xs)→H' b=some (.tup xs)) (frzs:∀b o u,H b=some (.frz o u)→H' b=some (.frz o u)) (tbls:∀b ps,H b=some (.tbl ps)→∃more,H' b=some (.tbl (ps++more)))
  (ns:∀m,s.heap.Ns X.env.locals m→h'.Ns X.env.locals m) (hok:HOk X.prog X.w H' h') (hg:AllBare g'):
  Inv X pq σ H' {s with heap:=h',gens:=g',drawn:=d',toks:=t'}:=by
 have neL:∀b o,X.s₀.heap.get? b=some o→b≠X.env.locals:=λb o e=>ZK (Zv (Zk e) I.ok.above)
 have neC:∀b o,X.s₀.heap.get? b=some o→b∉X.ex→b∉ch:=λb o e hx hb=>by
  rcases(hch b hb).1 with z|z
  ·exact hx z
  ·exact absurd (Zv (Zk e) z) (Nat.lt_irrefl _)
 have cellK:∀x c,X.env.cells.lookup x=some c→∀v,s.heap.IsCell c v→h'.IsCell c v:=λx c e v ⟨o,ho,hd⟩=>by
  have nch:c∉ch:=λz=>(hch c z).2.2.1 x c e rfl;by_cases hc:c∈X.fs
  ·obtain⟨sl,q⟩:=slot c o (I.cne x c e) hc nch ho (I.freeC x c e);exact⟨_,q,hd⟩
  ·exact⟨o,keep c o (I.cne x c e) hc nch ho (I.freeC x c e),hd⟩
 refine⟨I.ok,I.os,hg,⟨λb o e n hb hx=>?_,λb o e n hb hx=>?_,λb o e n hx=>?_,λb o e hx=>?_,λb xs e=>tups b xs (I.base.tups b xs e),λb o xs e=>frzs b o xs (I.base.frzs b o xs e),λb ps e=>?_⟩,?_,λx c e=>?_,?_,λx c e=>?_,λp hp=>?_,hok,I.len⟩
 ·exact keep b o (neL b o e) hb (neC b o e hx) (I.base.keep b o e n hb hx) (I.base.free b o e n hx)
 ·obtain⟨sl,e1⟩:=I.base.slot b o e n hb hx;obtain⟨sl',e2⟩:=slot b _ (neL b o e) hb (neC b o e hx) e1 (I.base.free b o e n hx);exact⟨sl',e2⟩
 ·obtain⟨o',e1⟩:=I.base.there b o e hx;exact free b o' (neC b o e hx) e1 (I.base.free b o e n hx)
 ·obtain⟨o',e1⟩:=I.base.there b o e hx;exact there b o' (neC b o e hx) e1
 ·obtain⟨m1,e1⟩:=I.base.tbls b ps e;obtain⟨m2,e2⟩:=tbls b _ e1;exact⟨m1++m2,by rw[e2,Array.append_assoc]⟩
 ·obtain⟨m,hn,hl⟩:=I.loc;refine⟨m,ns m hn,λi x v e1 e2 e3=>?_⟩;obtain⟨u,r,l⟩:=hl i x v e1 e2 e3;refine⟨u,r,?_⟩;rcases l with l| ⟨k,c,e,z⟩
  ·exact .inl l
  ·exact .inr ⟨k,c,e,cellK x c e _ z⟩
 ·obtain⟨v,z⟩:=I.cell x c e;exact⟨v,cellK x c e v z⟩
 ·obtain⟨m,⟨o,_,_,ho,_⟩,_⟩:=I.loc;exact free _ o (λz=>(hch _ z).2.1 rfl) ho I.free
 ·obtain⟨v,o,ho,hd⟩:=I.cell x c e;exact free c o (λz=>(hch c z).2.2.1 x c e rfl) ho (I.freeC x c e)
 ·obtain⟨e,n,ne,nf,d⟩:=I.pin p hp;have nch:p.1∉ch:=λz=>(hch p.1 z).2.2.2 p hp rfl;exact⟨keep p.1 p.2 ne nf nch e n,free p.1 p.2 nch e n,ne,nf,d⟩
theorem Inv.un{t':Nat}(I:Inv X pq σ H s)(u:Un X.fs [] H H' s.heap h')(hok:HOk X.prog X.w H' h'):Inv X pq σ H' {s with heap:=h',toks:=t'}:=by obtain⟨m,⟨o,es,ep,ho,r⟩,_⟩:=id I.loc;obtain⟨sl,hL⟩:=u.any ho I.free (by simp);exact I.step (g':=s.gens) (d':=s.drawn) (ch:=[]) (λ_ z=>nomatch z) (λb o _ hb _ e n=>u.keep b o e n hb (by simp)) (λb o _ hb _ e n=>u.slot b o e n hb (by simp)) (λb o _ e n=>u.free b o e n (by simp)) (λb o _ e=>u.there b o e (by simp)) u.tups u.frzs u.tbls (λm' hm=>by obtain⟨o',es',ep',ho',r'⟩:=hm;rw[ho]at ho';cases ho';exact⟨_,es',ep',hL,r'⟩) hok I.bare
theorem Inv.call{t':Nat}{d':Drawn}(I:Inv X pq σ H s)(u:Un (frs X.stack) ch H H' s.heap h')(hok:HOk X.prog X.w H' h')(hg:AllBare g')
  (hch:∀b∈ch,(b∈X.ex∨X.s₀.heap.objs.size≤b)∧b≠X.env.locals∧(∀x c,X.env.cells.lookup x=some c→c≠b)∧∀p∈X.pn++pq,p.1≠b):
  Inv X pq σ H' {s with heap:=h',gens:=g',drawn:=d',toks:=t'}:=by
 obtain⟨m,⟨o,es,ep,ho,r⟩,_⟩:=id I.loc;obtain⟨sl,hL⟩:=u.any ho I.free λz=>(hch _ z).2.1 rfl;exact I.step (ch:=ch) hch (λb o hL hb hc e n=>u.keep b o e n (λz=>(Zo.mp (I.stkSub b z)).elim hL hb) hc) (λb o _ _ hc e n=>u.any e n hc) (λb o hc e n=>u.free b o e n hc) (λb o hc e=>u.there b o e hc) u.tups u.frzs u.tbls (λm' hm=>by obtain⟨o',es',ep',ho',r'⟩:=hm;rw[ho]at ho';cases ho';exact⟨_,es',ep',hL,r'⟩) hok hg
theorem Inv.turned{t':Nat}(I:Inv X pq σ H s)(k:∀b o,b≠it→s.heap.get? b=some o→h'.get? b=some o)(hn:H it=none)(hL:it≠X.env.locals)
  (h1:it∈X.ex∨X.s₀.heap.objs.size≤it) (h2:∀x c,X.env.cells.lookup x=some c→c≠it) (h3:∀p∈X.pn++pq,p.1≠it):Inv X pq σ H {s with heap:=h',toks:=t'}:=by
 have nit:∀b u,H b=some u→b≠it:=λb u e z=>by rw[z,hn]at e;cases e
 refine I.step (g':=s.gens) (d':=s.drawn) (ch:=[it]) (λb hb=>?_) (λb o _ _ hc e _=>k b o (λz=>hc (by simp[z])) e) (λb o _ _ hc e _=>⟨o.slots,k b o (λz=>hc (by simp[z])) e⟩) (λ_ _ _ _ n=>n)
  (λb o hc e=>⟨o,k b o (λz=>hc (by simp[z])) e⟩) (λ_ _ e=>e) (λ_ _ _ e=>e) (λb ps e=>⟨#[],by rw[e];simp⟩) (λm hm=>?_) (λb u e=>?_) I.bare
 ·have e:b=it:=by simpa using hb
  subst e;exact⟨h1,hL,h2,h3⟩
 ·obtain⟨o,es,ep,ho,r⟩:=hm;exact⟨o,es,ep,k _ o (Ne.symm hL) ho,r⟩
 ·refine(I.hok b u e).stay (λc v hc q=>k c v ?_ q) (λ_ q=>q) λ_ _ q=>q;rcases hc with z|z
  ·rw[z];exact nit b u e
  ·exact nit c _ z
theorem Inv.tok(I:Inv X pq σ H s)(t:Nat):Inv X pq σ H {s with toks:=t}:=I.un (h':=s.heap) (t':=t) Un.refl I.hok
theorem Inv.kept{t':Nat}(I:Inv X pq σ H s)(k:∀b u,s.heap.get? b=some u→h'.get? b=some u):Inv X pq σ H {s with heap:=h',toks:=t'}:=I.un (Un.kept k) (I.hok.kept k)
theorem Inv.laid{o:HO}{t':Nat}(I:Inv X pq σ H s)(k:∀b u,s.heap.get? b=some u→h'.get? b=some u)(hp:s.heap.objs.size≤a)(new:ObjOk X.prog X.w (upd H a o) h' a o):
  Inv X pq σ (upd H a o) {s with heap:=h',toks:=t'}:=I.un (Un.laid k hp (I.hok.fresh hp)) (I.hok.laid k hp new)
theorem Inv.write{x e:Addr}{o:HO}{t':Nat}(I:Inv X pq σ H s)(mu:Mut (H x))(he:e=x∨H e=some (.own x))(k:∀b u,b≠e→s.heap.get? b=some u→h'.get? b=some u)(heo:∃u,h'.get? e=some u)
  (new:ObjOk X.prog X.w (upd H x o) h' x o):Inv X pq σ (upd H x o) {s with heap:=h',toks:=t'}:=I.un (Un.write mu he k heo) (I.hok.write mu he k heo new)
theorem Inv.pins_of(I:Inv X pq σ H s)(h:∀p∈pins',s.heap.get? p.1=some p.2∧H p.1=none∧p.1≠X.env.locals∧p.1∉X.fs∧∀v,p.2.data≠.cell v):Inv X pins' σ H s:=
 ⟨I.ok,I.os,I.bare,I.base,I.loc,I.cell,I.free,I.freeC,λp hp=>(ZC.mp hp).elim (λz=>I.pin p (ZG _ z)) (h p),I.hok,I.len⟩
theorem a5a'(hN:N.Nodup){i j:Nat}{x:Str}(a:N[i]?=some x)(b:N[j]?=some x):i=j:=by obtain⟨h1,e1⟩:=Ze.mp a;obtain⟨h2,e2⟩:=Ze.mp b;exact(List.getElem_inj hN).mp (e1.trans e2.symm)
theorem a3U'{M:Model}{A:Around}{E:Vs}{i:Nat}{x:Str}{v:V}{Q:Unit→Shared→Prop}(I:Inv X pq σ H s)(hN:X.N.Nodup)(hi:X.N[i]?=some x)(hx:Loc X.env.scope x)(r:RelV v u)
  (h:∀s',Inv X pq (σ.set i (some v)) H s'→(∃a,Heap.SameBut a s.heap s'.heap∧(a=X.env.locals∨X.env.cells.lookup x=some a))→Q () s') (hf:X.fn x=true∨X.env.scope.names.lookup x=some .local:=by first|exact .inl rfl|exact .inr rfl|assumption):wpAny M A (storeName X.env x u) Q E s:=by
 obtain⟨m,hn,hl⟩:=id I.loc;have hcls:(X.env.scope.kind== .class||(X.env.scope.kind== .module&&X.env.locals !=X.env.globals))=false:=by rw[I.ok.kind];rfl
 have hiσ:i<σ.length:=by rw[I.len];exact(Ze.mp hi).1
 have cne:=I.cne
 have tracked:∀{a:Addr} {h':Heap},(∃o,s.heap.get? a=some o∧H a=none)→Heap.SameBut a s.heap h'→HOk X.prog X.w H h':=λ{a h'} ha hs b ob e=>by
  obtain⟨_,_,hfree⟩:=ha;refine(I.hok b ob e).stay (λc w' hc q=>(hs.2 c ?_).trans q) (λ_ q=>q) λ_ _ q=>q;rintro rfl;rcases hc with rfl|hc
  ·rw[hfree]at e;cases e
  ·rw[hfree]at hc;cases hc
 rcases hx with hk|hk
 ·refine wpAny_storeName_local hk hn (λh' hn' hs=>?_) hcls;obtain⟨oL,_,_,hoL,_⟩:=id hn;refine h _ ⟨I.ok,I.os,I.bare,⟨λb o e n hb hx=>?_,λb o e n hb hx=>?_,I.base.free,λb o e hx=>?_,I.base.tups,I.base.frzs,I.base.tbls⟩,⟨_,hn',λj y v' e1 e2 e3=>?_⟩,λy c e=>?_,I.free,I.freeC,λp hp=>?_,tracked ⟨oL,hoL,I.free⟩ hs,by simpa using I.len⟩ ⟨_,hs,.inl rfl⟩
  ·exact(hs.2 b (ZK (Zv (Zk e) I.ok.above))).trans (I.base.keep b o e n hb hx)
  ·obtain⟨sl,e1⟩:=I.base.slot b o e n hb hx;exact⟨sl,(hs.2 b (ZK (Zv (Zk e) I.ok.above))).trans e1⟩
  ·obtain⟨o',e1⟩:=I.base.there b o e hx;exact⟨o',(hs.2 b (ZK (Zv (Zk e) I.ok.above))).trans e1⟩
  ·by_cases hj:j=i
   ·subst hj;rw[hi]at e1;cases e1;rw[ZM hiσ]at e2;cases e2;exact⟨u,r,.inl ⟨hk,by simp⟩⟩
   ·rw[List.getElem?_set_ne (Ne.symm hj)]at e2;obtain⟨u',r',q⟩:=hl j y v' e1 e2 e3;refine⟨u',r',?_⟩;rcases q with⟨k,e⟩| ⟨k,c,e,z⟩
    ·refine .inl ⟨k,?_⟩;have:y≠x:=λe=>hj (a5a' hN e1 (e▸hi));simp[this,e]
    ·exact .inr ⟨k,c,e,z.sameBut hs (cne y c e)⟩
  ·obtain⟨w',z⟩:=I.cell y c e;exact⟨w',z.sameBut hs (cne y c e)⟩
  ·obtain⟨e,n,ne,nf,d⟩:=I.pin p hp;exact⟨(hs.2 p.1 ne).trans e,n,ne,nf,d⟩
 ·have hfn:X.fn x=true:=by
   rcases hf with z|z
   ·exact z
   ·rw[z]at hk;cases hk
  obtain⟨c,hc⟩:=I.ok.has x (.inl hk);obtain⟨w',z⟩:=I.cell x c hc;refine wpAny_storeName_cell I.ok.kind hk hc z (λh' hc' hs=>?_);obtain⟨oc,hoc,hocd⟩:=id z;refine h {s with heap:=h'} ⟨I.ok,I.os,I.bare,⟨λb o e n hb hx=>?_,λb o e n hb hx=>?_,I.base.free,λb o e hx=>?_,I.base.tups,I.base.frzs,I.base.tbls⟩,⟨m,hn.sameBut hs (Ne.symm (cne x c hc)),λj y v' e1 e2 e3=>?_⟩,λy c' e=>?_,I.free,I.freeC,λp hp=>?_,tracked ⟨oc,hoc,I.freeC x c hc⟩ hs,by simpa using I.len⟩ ⟨c,hs,.inr hc⟩
  ·exact(hs.2 b (ZK (Zv (Zk e) (I.ok.cab x c hfn hc)))).trans (I.base.keep b o e n hb hx)
  ·obtain⟨sl,e1⟩:=I.base.slot b o e n hb hx;exact⟨sl,(hs.2 b (ZK (Zv (Zk e) (I.ok.cab x c hfn hc)))).trans e1⟩
  ·obtain⟨o',e1⟩:=I.base.there b o e hx;exact⟨o',(hs.2 b (ZK (Zv (Zk e) (I.ok.cab x c hfn hc)))).trans e1⟩
  ·by_cases hj:j=i
   ·subst hj;rw[hi]at e1;cases e1;rw[ZM hiσ]at e2;cases e2;exact⟨u,r,.inr ⟨.inl hk,c,hc,hc'⟩⟩
   ·rw[List.getElem?_set_ne (Ne.symm hj)]at e2;obtain⟨u',r',q⟩:=hl j y v' e1 e2 e3;refine⟨u',r',?_⟩;rcases q with q| ⟨k,c',e,z'⟩
    ·exact .inl q
    ·refine .inr ⟨k,c',e,z'.sameBut hs ?_⟩;rintro rfl;exact hj (a5a' hN e1 (I.ok.inj _ _ _ e hc▸hi))
  ·by_cases hcc:c'=c
   ·subst hcc;exact⟨_,hc'⟩
   ·obtain⟨w2,z2⟩:=I.cell y c' e;exact⟨w2,z2.sameBut hs hcc⟩
  ·obtain⟨e,n,ne,nf,d⟩:=I.pin p hp;refine⟨(hs.2 p.1 ?_).trans e,n,ne,nf,d⟩;intro q;rw[q,hoc]at e;have q':oc=p.2:=ZL e;exact d w' (by rw[←q'];exact hocd)
theorem a3x'{M:Model}{A:Around}{E:Vs}{i:Nat}{x:Str}{v:V}{Q:Unit→Shared→Prop}(I:Inv X pq σ H s)(hN:X.N.Nodup)(hi:X.N[i]?=some x)(hx:Loc X.env.scope x)(r:RelV v u)
  (h:∀s',Inv X pq (σ.set i (some v)) H s'→Q () s') (hf:X.fn x=true∨X.env.scope.names.lookup x=some .local:=by first|exact .inl rfl|exact .inr rfl|assumption):wpAny M A (storeName X.env x u) Q E s:=
 a3U' I hN hi hx r (λs' I' _=>h s' I') hf
theorem Inv.call'(I:Inv X pq σ H s)(ho:s'.os=s.os)(u:Un (frs X.stack) ch H H' s.heap s'.heap)(hok:HOk X.prog X.w H' s'.heap)(hg:AllBare s'.gens)
  (hch:∀b∈ch,(b∈X.ex∨X.s₀.heap.objs.size≤b)∧b≠X.env.locals∧(∀x c,X.env.cells.lookup x=some c→c≠b)∧∀p∈X.pn++pq,p.1≠b):Inv X pq σ H' s':=by
 obtain⟨h',g',d',t',o'⟩:=s';have e:o'=s.os:=ho;subst e;exact I.call (g':=g') (t':=t') (d':=d') u hok hg hch
end
abbrev XK:=Value→Option Addr→Hp→Prop
abbrev St:=List (Option V)
abbrev VK:=V→Hp→Prop
abbrev TE:=St→Hp→VK→Prop
abbrev TT:=St→Hp→(Bool→Hp→Prop)→Prop
abbrev TA:=St→Hp→(List V→Hp→Prop)→Prop
structure Ends where
 nx:St→Hp→Prop
 rt:VK
 bk:St→Hp→Prop:=λ_ _=>False
 ct:St→Hp→Prop:=λ_ _=>False
abbrev TS:=Ends→St→Hp→Prop
def EP(X:Cx)(pq:Lp)(σ:St)(Q:VK)(u:Value)(s':Shared):Prop:=∃v H',Inv X pq σ H' s'∧RelV v u∧Q v H'
def TP(X:Cx)(pq:Lp)(σ:St)(Q:Bool→Hp→Prop)(b:Bool)(s':Shared):Prop:=∃H',Inv X pq σ H' s'∧Q b H'
def AP(X:Cx)(pq:Lp)(σ:St)(Q:List V→Hp→Prop)(us:Lv)(s':Shared):Prop:=∃vs H',Inv X pq σ H' s'∧Vals vs us∧Q vs H'
def SP(X:Cx)(pq:Lp)(D:Ends)(f:Flow)(s':Shared):Prop:=
 match f with
 | .next=>∃σ' H',Inv X pq σ' H' s'∧D.nx σ' H'
 | .brk=>∃σ' H',Inv X pq σ' H' s'∧D.bk σ' H'
 | .cont=>∃σ' H',Inv X pq σ' H' s'∧D.ct σ' H'
 | .ret u=>∃v σ' H',Inv X pq σ' H' s'∧RelV v u∧D.rt v H'
def PE(X:Cx)(e:Expr)(t:TE):Prop:=
 ∀(pq:Lp) (s:Shared) (σ:St) (H:Hp) (Q:VK),Inv X pq σ H s→t σ H Q→wpAny (model X.prog X.w) X.A (eval e X.env) (EP X pq σ Q) X.xe s
def PT(X:Cx)(e:Expr)(t:TT):Prop:=
 ∀(pq:Lp) (s:Shared) (σ:St) (H:Hp) (Q:Bool→Hp→Prop),Inv X pq σ H s→t σ H Q→wpAny (model X.prog X.w) X.A (isTrue e X.env (eval e X.env)) (TP X pq σ Q) X.xe s
def PW(X:Cx)(e:Expr)(t:TT):Prop:=
 ∀(whole:Sem Value) (pq:Lp) (s:Shared) (σ:St) (H:Hp) (Q:Bool→Hp→Prop),Inv X pq σ H s→t σ H Q→wpAny (model X.prog X.w) X.A (isTrue e X.env whole) (TP X pq σ Q) X.xe s
theorem PW.pt{X:Cx}{t:TT}(h:PW X e t):PT X e t:=h _
def PA(X:Cx)(es:Lx)(t:TA):Prop:=
 ∀(pos:Pos) (pq:Lp) (s:Shared) (σ:St) (H:Hp) (Q:List V→Hp→Prop),Inv X pq σ H s→t σ H Q→wpAny (model X.prog X.w) X.A (spliced (backTo pos (starEach es X.env))) (AP X pq σ Q) X.xe s
def PS(X:Cx)(st:Stmt)(t:TS):Prop:=
 ∀(pq:Lp) (s:Shared) (σ:St) (H:Hp) (D:Ends),Inv X pq σ H s→t D σ H→wpAny (model X.prog X.w) X.A (exec st X.env) (SP X pq D) X.xe s
def PSs(X:Cx)(st:List Stmt)(t:TS):Prop:=
 ∀(pq:Lp) (s:Shared) (σ:St) (H:Hp) (D:Ends),Inv X pq σ H s→t D σ H→wpAny (model X.prog X.w) X.A (execs st X.env) (SP X pq D) X.xe s
theorem thn{t:Sem α}{Q Q':α→Shared→Prop}(h:wpAny M A t Q E s)(hQ:∀a s,Q a s→Q' a s):wpAny M A t Q' E s:=ZV h hQ λ_ _ x=>x
section
variable {X:Cx}
def tVar(i:Nat):TE:=λσ H Q=>∃v,σ[i]?=some (some v)∧Q v H
def tC(v:V):TE:=λ_ H Q=>Q v H
theorem a6A'{i:Nat}{x:Str}{pos:Pos}(hN:X.N[i]?=some x)(hv:Vis X.env.scope x)(hd:(x==("__debug__":Str))=false:=by decide)(hcd:(x==("__classdict__":Str))=false:=by decide):PE X (.Name x pos) (tVar i):=by
 intro pq s σ H Q I h;obtain⟨v,e,h⟩:=h;obtain⟨m,hn,hl⟩:=I.loc;obtain⟨u,r,l⟩:=hl i x v hN e hv;have fin:EP X pq σ Q u s:=⟨v,H,I,r,h⟩;rcases l with⟨hk,hm⟩| ⟨hk,c,hc,hcell⟩
 ·exact wpAny_Name (wpAny_loadName_local I.ok.kind hk hn hm fin) hd
 ·rcases hk with hk|hk
  ·exact wpAny_Name (wpAny_loadName_cell I.ok.kind hk hc hcell fin) hd
  ·exact wpAny_Name (wpAny_loadName_free I.ok.kind hk hc hcell fin hcd) hd
theorem pe_int{i j pos}:PE X (.Constant (.int i) j pos) (tC (.int i)):=λ_ _ _ H _ I h=>wpAny_Constant_int ⟨.int i,H,I.tok _,⟨_,rfl⟩,h⟩
theorem pe_bl{b j pos}:PE X (.Constant (.bool b) j pos) (tC (.bl b)):=λ_ _ _ H _ I h=>Constant_bool ⟨.bl b,H,I,rfl,h⟩
theorem pe_non{j pos}:PE X (.Constant .none j pos) (tC .non):=λ_ _ _ H _ I h=>Constant_none ⟨.non,H,I,rfl,h⟩
theorem a7Z'{x j pos}:PE X (.Constant (.str x) j pos) (tC (.str x)):=λ_ _ _ H _ I h=>Calls.Constant_str ⟨.str x,H,I.tok _,⟨_,rfl⟩,h⟩
def Gl(X:Cx)(x:Str):Prop:=X.env.kindOf x=some .globalImplicit
theorem a2p'{E:Vs}{σ:St}{H:Hp}{x:Str}{pos:Pos}(I:Inv X pq σ H s)(hg:Gl X x)(hm:X.mg x=some u)(h:Q u s)
  (hd:(x==("__debug__":Str))=false:=by decide):wpAny (model X.prog X.w) X.A (eval (.Name x pos) X.env) Q E s:=
 Calls.Name_function_global I.ok.kind hg (Calls.loadGlobal_global (by rw[I.ok.glob];exact I.mod.glob.keeps I.bk) hm h) hd
theorem a4B'{E:Vs}{σ:St}{H:Hp}{x:Str}{pos:Pos}(I:Inv X pq σ H s)(hg:Gl X x)(hm:X.mg x=none)(hv:bootBuiltins x=some u)(h:Q u s)
  (hn:x≠"__name__":=by decide) (hd:(x==("__debug__":Str))=false:=by decide):wpAny (model X.prog X.w) X.A (eval (.Name x pos) X.env) Q E s:=by
 obtain⟨mb,h1,h2⟩:=I.mod.blt;exact Calls.Name_function_global I.ok.kind hg (Calls.loadGlobal_builtin (by rw[I.ok.glob];exact I.mod.glob.keeps I.bk) hm (by rw[I.ok.blt];exact h1.keeps I.bk) ((h2 x hn).trans hv) h) hd
theorem a5b'{x:Str}{v:V}{pos:Pos}(hg:Gl X x)(hm:X.mg x=some u)(r:RelV v u)(hd:(x==("__debug__":Str))=false:=by decide):PE X (.Name x pos) (tC v):=
 λ_ _ _ H _ I h=>a2p' I hg hm ⟨v,H,I,r,h⟩ hd
theorem a7w'{x:Str}{v:V}{pos:Pos}(hg:Gl X x)(hm:X.mg x=none)(hv:bootBuiltins x=some u)(r:RelV v u)(hn:x≠"__name__":=by decide)(hd:(x==("__debug__":Str))=false:=by decide):PE X (.Name x pos) (tC v):=
 λ_ _ _ H _ I h=>a4B' I hg hm hv ⟨v,H,I,r,h⟩ hn hd
variable {a b:Expr}{ta tb:TE}{pos:Pos}
def tB(t:TE):TT:=λσ H Q=>t σ H λx H1=>∃c,x=.bl c∧Q c H1
theorem pt_val{t:TE}(h:PE X e t)(he:∀whole,isTrue e X.env whole=(do let v ←whole;standAt e.pos;holding [v] (truthy v)):=by intro _;rfl):PT X e (tB t):=by intro pq s σ H Q I hw;refine isTrue_plain (thn (h pq s σ H _ I hw) λv s1 ⟨x,H1,I1,r1,q1⟩=>?_) (he _);obtain⟨d,rfl,q⟩:=q1;cases r1;exact ZP ⟨H1,I1,q⟩
variable {tA tB':TT}
def tAnd(t u:TT):TT:=λσ H Q=>t σ H λc H1=>if c=true then u σ H1 Q else Q false H1
def tOr(t u:TT):TT:=λσ H Q=>t σ H λc H1=>if c=true then Q true H1 else u σ H1 Q
def tNot(t:TT):TT:=λσ H Q=>t σ H λc H1=>Q (!c) H1
theorem pw_and1(ha:PT X a tA):PW X (.BoolOp .And [a] pos) tA:=by
 intro wh pq s σ H Q I h;refine isTrue_and (thn (ha pq s σ H Q I h) λc s1 e=>?_);cases c with
 |true=>exact isTrue_and_nil e
 |false=>exact e
theorem pw_or1(ha:PT X a tA):PW X (.BoolOp .Or [a] pos) tA:=by
 intro wh pq s σ H Q I h;refine isTrue_or (thn (ha pq s σ H Q I h) λc s1 e=>?_);cases c with
 |false=>exact isTrue_or_nil e
 |true=>exact e
theorem pw_and(ha:PT X a tA)(hb:PW X (.BoolOp .And (b::rest) pos) tB'):PW X (.BoolOp .And (a::b::rest) pos) (tAnd tA tB'):=by
 intro wh pq s σ H Q I h;refine isTrue_and (thn (ha pq s σ H _ I h) λc s1 ⟨H1,I1,q1⟩=>?_);cases c with
 |true=>exact hb wh pq s1 σ H1 Q I1 q1
 |false=>exact⟨H1,I1,q1⟩
theorem pw_or(ha:PT X a tA)(hb:PW X (.BoolOp .Or (b::rest) pos) tB'):PW X (.BoolOp .Or (a::b::rest) pos) (tOr tA tB'):=by
 intro wh pq s σ H Q I h;refine isTrue_or (thn (ha pq s σ H _ I h) λc s1 ⟨H1,I1,q1⟩=>?_);cases c with
 |true=>exact⟨H1,I1,q1⟩
 |false=>exact hb wh pq s1 σ H1 Q I1 q1
theorem pt_not(ha:PT X a tA):PT X (.UnaryOp .Not a pos) (tNot tA):=by intro pq s σ H Q I h;exact isTrue_not (ha pq s σ H (λc H1=>Q (!c) H1) I h)
def tAndV(ta tb:TE):TE:=λσ H Q=>ta σ H λx H1=>∃c,x=.bl c∧if c=true then tb σ H1 Q else Q (.bl false) H1
def tOrV(ta tb:TE):TE:=λσ H Q=>ta σ H λx H1=>∃c,x=.bl c∧if c=true then Q (.bl true) H1 else tb σ H1 Q
theorem pe_one{op}{t:TE}(h:PE X a t):PE X (.BoolOp op [a] pos) t:=λpq s σ H Q I hw=>BoolOp_one (h pq s σ H Q I hw)
theorem pe_and(ha:PE X a ta)(hb:PE X (.BoolOp .And (b::rest) pos) tb):PE X (.BoolOp .And (a::b::rest) pos) (tAndV ta tb):=by
 intro pq s σ H Q I h;refine BoolOp_and (thn (ha pq s σ H _ I h) λv s1 ⟨x,H1,I1,r1,q1⟩=>?_);obtain⟨c,rfl,q1⟩:=q1;cases r1;refine ZP ?_;cases c with
 |true=>exact hb pq s1 σ H1 Q I1 q1
 |false=>exact⟨.bl false,H1,I1,rfl,q1⟩
theorem pe_or(ha:PE X a ta)(hb:PE X (.BoolOp .Or (b::rest) pos) tb):PE X (.BoolOp .Or (a::b::rest) pos) (tOrV ta tb):=by
 intro pq s σ H Q I h;refine BoolOp_or (thn (ha pq s σ H _ I h) λv s1 ⟨x,H1,I1,r1,q1⟩=>?_);obtain⟨c,rfl,q1⟩:=q1;cases r1;refine ZP ?_;cases c with
 |false=>exact hb pq s1 σ H1 Q I1 q1
 |true=>exact⟨.bl true,H1,I1,rfl,q1⟩
def tIf(t:TT)(ta tb:TE):TE:=λσ H Q=>t σ H λc H1=>if c=true then ta σ H1 Q else tb σ H1 Q
theorem a8a'{c:Expr}(hc:PT X c tA)(ha:PE X a ta)(hb:PE X b tb):PE X (.IfExp c a b pos) (tIf tA ta tb):=by
 intro pq s σ H Q I h;refine wpAny_IfExp (thn (hc pq s σ H _ I h) λd s1 ⟨H1,I1,q1⟩=>?_);cases d with
 |true=>exact ha pq s1 σ H1 Q I1 q1
 |false=>exact hb pq s1 σ H1 Q I1 q1
end
def SqL(K:Fg)(H:Hp)(a:Addr)(xs:List V):Prop:=
 Rd H a (.lst xs)∨
  ∃(o:Obj) (its:Av) (n:Nat),K.lookup a=some o∧o.cls=.type "list"∧o.dict=none∧o.data=.seq its n∧its.size≤sizeLine∧Vals xs its.toList
def SqT(K:Fg)(H:Hp)(a:Addr)(xs:List V):Prop:=
 Rd H a (.tup xs)∨
  ∃(o:Obj) (its:Av) (n:Nat),K.lookup a=some o∧o.cls=.type "tuple"∧o.dict=none∧o.data=.seq its n∧its.size≤sizeLine∧Vals xs its.toList
def absV:Value→Option V
 | .none=>some .non
 | .bool b=>some (.bl b)
 | .int i _=>some (.int i)
 | .str x _=>some (.str x)
 | .bytes b _=>some (.byt b)
 | .float b _=>some (.flt b)
 | .ref a=>some (.ref a)
 | .type n=>some (.ty n)
 |_=>none
theorem RelV.abs{x:V}(r:RelV x u):absV u=some x:=by
 cases x with
 |non=>cases r;rfl
 |bl _=>cases r;rfl
 |int _=>obtain⟨t,rfl⟩:=r;rfl
 |str _=>obtain⟨t,rfl⟩:=r;rfl
 |byt _=>obtain⟨t,rfl⟩:=r;rfl
 |flt _=>obtain⟨t,rfl⟩:=r;rfl
 |ref _=>cases r;rfl
 |ty _=>cases r;rfl
theorem RelV.inj{x y:V}(r:RelV x u)(q:RelV y u):x=y:=ZL (r.abs.symm.trans q.abs)
theorem Vals.inj:∀{xs ys:List V} {us:Lv},Vals xs us→Vals ys us→xs=ys
 |_,_,_,.nil,.nil=>rfl
 |_,_,_,.cons r t,.cons r' t'=>by rw[r.inj r',Vals.inj t t']
section
variable {X:Cx}{σ:St}{H:Hp}{xs ys:List V}
theorem SqL.of(h:H a=some (.lst xs)):SqL K H a xs:=.inl (.inl h)
theorem SqT.of(h:H a=some (.tup xs)):SqT K H a xs:=.inl (.inl h)
theorem Inv.list(I:Inv X pq σ H s)(h:SqL X.K H a xs):∃its:Lv,Vals xs its∧PlainL s.heap a its.toArray∧xs.length≤sizeLine:=by
 rcases h with h| ⟨o,its,n,hk,hc,hd,hs,hz,r⟩
 ·obtain⟨z,its,n,r,e⟩:=h.ok I.hok;exact⟨its,r,⟨_,n,e,rfl,rfl,rfl⟩,z⟩
 ·refine⟨its.toList,r,⟨o,n,I.kIn a o hk,hc,hd,by simpa using hs⟩,?_⟩;have e:=r.length;simp only[Zu]at e;omega
theorem Inv.tuple(I:Inv X pq σ H s)(h:SqT X.K H a xs):∃its:Lv,Vals xs its∧IsTup s.heap a its.toArray∧xs.length≤sizeLine:=by
 rcases h with h| ⟨o,its,n,hk,hc,_,hs,hz,r⟩
 ·obtain⟨z,its,r,p,_⟩:=h.ok I.hok;exact⟨its,r,p,z⟩
 ·refine⟨its.toList,r,⟨o,I.kIn a o hk,hc,n,by simpa using hs⟩,?_⟩;have e:=r.length;simp only[Zu]at e;omega
theorem Inv.noD(I:Inv X pq σ H s)(h:SqT X.K H a xs):NoD s.heap a:=by
 rcases h with h| ⟨o,its,n,hk,hc,hdn,hs,hz,r⟩
 ·obtain⟨z,its,r,p,q⟩:=h.ok I.hok;exact q
 ·exact⟨o,I.kIn a o hk,hdn⟩
theorem Inv.list_inj(I:Inv X pq σ H s)(h:SqL X.K H a xs)(h':SqL X.K H a ys):xs=ys:=by
 obtain⟨its,r,⟨o,n,e,_,_,d⟩,_⟩:=I.list h;obtain⟨its',r',⟨o',n',e',_,_,d'⟩,_⟩:=I.list h';rw[e]at e';cases e';rw[d]at d';injection d' with d1 _
 have:its=its':=by simpa using congrArg Array.toList d1
 subst this;exact r.inj r'
theorem Inv.tuple_inj(I:Inv X pq σ H s)(h:SqT X.K H a xs)(h':SqT X.K H a ys):xs=ys:=by
 obtain⟨its,r,⟨o,e,_,n,d⟩,_⟩:=I.tuple h;obtain⟨its',r',⟨o',e',_,n',d'⟩,_⟩:=I.tuple h';rw[e]at e';cases e';rw[d]at d';injection d' with d1 _
 have:its=its':=by simpa using congrArg Array.toList d1
 subst this;exact r.inj r'
end
section
variable {X:Cx}{σ:St}{H:Hp}
end
section
variable {X:Cx}{rest:List Stmt}{t u:TS}{te:TE}{pos:Pos}
def tNext:TS:=λD σ H=>D.nx σ H
def tSeq(t u:TS):TS:=λD σ H=>t {D with nx:=u D} σ H
theorem a3V':PSs X [] tNext:=λ_ _ σ H _ I h=>wpAny_execs_nil ⟨σ,H,I,h⟩
theorem a0R'(h1:PS X st t)(h2:PSs X rest u):PSs X (st::rest) (tSeq t u):=by
 intro pq s σ H D I h;refine wpAny_execs_cons (thn (h1 pq s σ H {D with nx:=u D} I h) λf s1 q=>?_);cases f with
 |next=>obtain⟨σ',H',I',q⟩:=q;exact h2 pq s1 σ' H' D I' q
 |ret v=>exact q
 |brk=>exact q
 |cont=>exact q
def tBreak:TS:=λD σ H=>D.bk σ H
def tCont:TS:=λD σ H=>D.ct σ H
theorem ps_pass:PS X (.Pass pos) tNext:=λ_ _ σ H _ I h=>wpAny_Pass ⟨σ,H,I,h⟩
theorem a8b':PS X (.Break pos) tBreak:=λ_ _ σ H _ I h=>wpAny_Break ⟨σ,H,I,h⟩
theorem a4C':PS X (.Continue pos) tCont:=λ_ _ σ H _ I h=>wpAny_Continue ⟨σ,H,I,h⟩
theorem Inv.quiet{σ:St}{H:Hp}(I:Inv X pq σ H s):interactive X.env=false:=by simp[interactive,I.ok.kind]
def tDrop(te:TE):TS:=λD σ H=>te σ H λ_ H1=>D.nx σ H1
theorem ps_expr(he:PE X e te)(hs:swapsWith e none pos.line X.env=pure false:=by rfl):PS X (.Expr e pos) (tDrop te):=by intro pq s σ H D I h;exact wpAny_Expr_any (thn (he pq s σ H _ I h) λv s1 ⟨x,H1,I1,r1,q1⟩=>⟨σ,H1,I1,q1⟩) I.quiet hs
def tRet(te:TE):TS:=λD σ H=>te σ H D.rt
theorem a8c'(he:PE X e te):PS X (.Return (some e) pos) (tRet te):=by intro pq s σ H D I h;exact wpAny_Return_some (thn (he pq s σ H _ I h) λv s1 ⟨x,H1,I1,r1,q1⟩=>⟨x,σ,H1,I1,r1,q1⟩)
def tRetN:TS:=λD _ H=>D.rt .non H
theorem ps_retN:PS X (.Return none pos) tRetN:=λ_ _ σ H _ I h=>wpAny_Return_none ⟨.non,σ,H,I,rfl,h⟩
def tIfS(c:TT)(t u:TS):TS:=λD σ H=>c σ H λb H1=>if b=true then t D σ H1 else u D σ H1
theorem ps_if{c:Expr}{a b:List Stmt}{tc:TT}(hc:PT X c tc)(ha:PSs X a t)(hb:PSs X b u):PS X (.If c a b pos) (tIfS tc t u):=by
 intro pq s σ H D I h;refine wpAny_If (thn (hc pq s σ H _ I h) λd s1 ⟨H1,I1,q1⟩=>?_);cases d with
 |true=>exact ha pq s1 σ H1 D I1 q1
 |false=>exact hb pq s1 σ H1 D I1 q1
def tNever:TS:=λ_ _ _=>False
theorem a6B'{sts:List Stmt}:PSs X sts tNever:=λ_ _ _ _ _ _ h=>h.elim
end
abbrev TG:=V→St→Hp→(St→Hp→Prop)→Prop
abbrev TGs:=List V→St→Hp→(St→Hp→Prop)→Prop
def PG(X:Cx)(target:Expr)(t:TG):Prop:=
 ∀(pq:Lp) (s:Shared) (σ:St) (H:Hp) (v:V) (u:Value) (Q:St→Hp→Prop),Inv X pq σ H s→RelV v u→t v σ H Q→
  wpAny (model X.prog X.w) X.A (assign target X.env u) (λ_ s'=>∃σ' H',Inv X pq σ' H' s'∧Q σ' H') X.xe s
def PGs(X:Cx)(ts:Lx)(t:TGs):Prop:=
 ∀(pq:Lp) (s:Shared) (σ:St) (H:Hp) (vs:List V) (us:Lv) (Q:St→Hp→Prop),Inv X pq σ H s→Vals vs us→t vs σ H Q→
  wpAny (model X.prog X.w) X.A (assignInOrder ((assignEach ts X.env).map (·.2)) us) (λ_ s'=>∃σ' H',Inv X pq σ' H' s'∧Q σ' H') X.xe s
abbrev TSet:=V→V→V→Hp→(Hp→Prop)→Prop
def PSet(X:Cx)(t:TSet):Prop:=
 ∀(pq:Lp) (s:Shared) (σ:St) (H:Hp) (o i v:V) (ov iv u:Value) (Q:Hp→Prop),Inv X pq σ H s→RelV o ov→RelV i iv→RelV v u→t o i v H Q→
  wpAny (model X.prog X.w) X.A (setItem ov iv u) (λ_ s'=>∃H',Inv X pq σ H' s'∧Q H') X.xe s
section
variable {X:Cx}{pos:Pos}
def gName(i:Nat):TG:=λv σ H Q=>Q (σ.set i (some v)) H
theorem pg_name{i:Nat}{x:Str}(hN:X.N.Nodup)(hi:X.N[i]?=some x)(hx:Loc X.env.scope x)(hf:X.fn x=true∨X.env.scope.names.lookup x=some .local:=by first|exact .inl rfl|exact .inr rfl|assumption):PG X (.Name x pos) (gName i):=by intro pq s σ H v u Q I r h;exact wpAny_assign_Name (a3x' I hN hi hx r (λs' I'=>⟨_,H,I',h⟩) hf)
def gNil:TGs:=λvs σ H Q=>vs=[]∧Q σ H
def gCons(t:TG)(u:TGs):TGs:=λvs σ H Q=>∃v r,vs=v::r∧t v σ H λσ' H'=>u r σ' H' Q
theorem pgs_nil:PGs X [] gNil:=by intro pq s σ H vs us Q I r h;obtain⟨e,h⟩:=h;subst e;cases r;exact assignInOrder_nil ⟨σ,H,I,h⟩
theorem a8d'{t:TG}{u:TGs}(h1:PG X e t)(h2:PGs X es u)
  (hs:(assignEach (e::es) X.env).map (·.2)=assign e X.env::(assignEach es X.env).map (·.2):=by rfl):PGs X (e::es) (gCons t u):=by
 intro pq s σ H vs us Q I r h;obtain⟨v,vr,e1,h⟩:=h;subst e1;cases r with
 |cons r rr=>rw[hs];refine assignInOrder_cons (thn (h1 pq s σ H _ _ _ I r h) λ_ s1 ⟨σ1,H1,I1,q1⟩=>?_);exact h2 pq s1 σ1 H1 _ _ Q I1 rr q1
def gTup(K:Fg)(n:Nat)(t:TGs):TG:=λv σ H Q=>∃a xs,v=.ref a∧SqT K H a xs∧xs.length=n∧t xs σ H Q
theorem pg_tup{k:Nat}{t:TGs}(hc:X.calm=true)(h:PGs X es t)
  (hn:(assignEach es X.env).length=n:=by rfl) (hst:(assignEach es X.env).findIdx? (·.1)=none:=by rfl):PG X (.Tuple es k pos) (gTup X.K n t):=by
 intro pq s σ H v u Q I r hw;obtain⟨a,xs,e1,hq,hl,hw⟩:=hw;subst e1;cases r;obtain⟨its,rv,ht,hz⟩:=I.tuple hq;refine assign_Tuple_tuple (I.ok.hd hc) ht (by simp[hn,←hl,rv.length]) hst λh' hx=>?_;have I1:Inv X pq σ H {s with heap:=h'}:=I.kept (t':=s.toks) λb o e=>hx b o (ZK (Zk e)) e;exact h pq _ σ H xs _ Q I1 (by simpa using rv) hw
def gSub(to ti:TE)(t:TSet):TG:=λv σ H Q=>to σ H λo H1=>ti σ H1 λi H2=>t o i v H2 λH3=>Q σ H3
theorem pg_sub{o i:Expr}{to ti:TE}{t:TSet}(ho:PE X o to)(hi:PE X i ti)(hs:PSet X t)
  (ha:∀v,assign (.Subscript o i pos) X.env v=(do
   let ov ←holding [v] (eval o X.env)
   let iv ←holding [v,ov] (eval i X.env)
   standAt pos
   holding [v,ov,iv] (setItem ov iv v)
   release [v,ov,iv] []):=by intro _;rfl):PG X (.Subscript o i pos) (gSub to ti t):=by
 intro pq s σ H v u Q I r h;rw[ha];refine Za (wpAny_holding (thn (ho pq s σ H _ I h) λov s1 ⟨x,H1,I1,r1,q1⟩=>?_));refine Za (wpAny_holding (thn (hi pq s1 σ H1 _ I1 q1) λiv s2 ⟨y,H2,I2,r2,q2⟩=>?_));refine Za (wpAny_standAt (Za (wpAny_holding (thn (hs pq s2 σ H2 x y v ov iv u _ I2 r1 r2 r q2) λ_ s3 ⟨H3,I3,q3⟩=>?_))));exact wpAny_release ⟨σ,H3,I3,q3⟩
def tAsg(te:TE)(g:TG):TS:=λD σ H=>te σ H λx H1=>g x σ H1 D.nx
theorem ps_asg{te:TE}{g:TG}(he:PE X e te)(hg:PG X tg g)(hs:swapsWithSole [tg] e pos.line X.env=pure false:=by rfl)(hw:swappedStores [tg] e X.env=pure none:=by rfl)
  (h1:(assignEach [tg] X.env).map (·.2)=[assign tg X.env]:=by rfl):PS X (.Assign [tg] e pos) (tAsg te g):=by
 intro pq s σ H D I h;refine wpAny_Assign_stores (thn (he pq s σ H _ I h) λv s1 ⟨x,H1,I1,r1,q1⟩=>?_) hs hw;rw[h1];exact thn (hg pq s1 σ H1 x v _ I1 r1 q1) λ_ s2 q=>q
theorem ps_set{i:Nat}{x:Str}{te:TE}(hN:X.N.Nodup)(hi:X.N[i]?=some x)(hx:Loc X.env.scope x)(he:PE X e te)(hs:swapsWith e (some (.Name x pos')) pos.line X.env=pure false:=by rfl)(hf:X.fn x=true∨X.env.scope.names.lookup x=some .local:=by first|exact .inl rfl|exact .inr rfl|assumption):
  PS X (.Assign [.Name x pos'] e pos) (tAsg te (gName i)):=by
 intro pq s σ H D I h;refine wpAny_Assign_Name (thn (he pq s σ H _ I h) λv s1 ⟨y,H1,I1,r1,q1⟩=>?_) hs;exact a3x' I1 hN hi hx r1 (λs2 I2=>⟨_,H1,I2,q1⟩) hf
end
section
variable {X:Cx}{pos:Pos}
end
structure It where
 go:Nat→Hp→Prop
 yld:Nat→Hp→V→Hp→Prop
 stop:Nat→Hp→Prop
def FpOk(X:Cx)(pq:Lp)(H:Hp)(b:Addr):Prop:=
 H b=none∧b≠X.env.locals∧b∉X.fs∧(b∈X.ex∨X.s₀.heap.objs.size≤b)∧(∀x c,X.env.cells.lookup x=some c→c≠b)∧∀p∈X.pn++pq,p.1≠b
theorem Inv.fpOk{X:Cx}{σ:St}{H H':Hp}{b:Addr}(I:Inv X pq σ H s)(hb:s.heap.objs.size≤b)(hn:H' b=none):FpOk X pq H' b:=by
 refine⟨hn,Nat.ne_of_gt (Zv I.lt hb),I.nofs hb,.inr (ZE I.sz hb),λx c e z=>?_,λp hp z=>?_⟩
 ·obtain⟨v,q⟩:=I.cell x c e;exact absurd (Zv q.lt (by rw[z];exact hb)) (Nat.lt_irrefl _)
 ·exact absurd (Zv (Zk (I.pin p hp).1) (by rw[z];exact hb)) (Nat.lt_irrefl _)
structure Turn (P:Program)(w:World)(K:Fg)(tg:Expr)(J:It)(fp:La)(it:Addr)(tn:Nat→Heap→Prop):Prop where
 mem:it∈fp
 obj:∀i h,tn i h→∀b∈fp,∃o,h.get? b=some o∧∀v,o.data≠.cell v
 keep:∀i h h',tn i h→(∀b∈fp,∀o,h.get? b=some o→h'.get? b=some o)→tn i h'
 item:∀(X:Cx),X.prog=P→X.w=w→X.K=K→X.calm=true→∀(i:Nat) (pq:Lp) (s:Shared) (σ:St) (H:Hp) (E:Vs),Inv X pq σ H s→(∀b∈fp,FpOk X pq H b)→tn i s.heap→J.go i H→
  wpAny (model P w) X.A (pyNext (.ref it)) (λr s1=>∃u,r=some u∧
   wpAny (model P w) X.A (letOwnedTupleGo tg (.ref it) u) (λ_ s2=>∃x H',Inv X pq σ H' s2∧RelV x u∧J.yld i H x H'∧tn (i+1) s2.heap∧∀b∈fp,H' b=none) E s1) E s
 done:∀(X:Cx),X.prog=P→X.w=w→X.K=K→X.calm=true→∀(i:Nat) (pq:Lp) (s:Shared) (σ:St) (H:Hp) (E:Vs),Inv X pq σ H s→(∀b∈fp,FpOk X pq H b)→tn i s.heap→J.stop i H→
  wpAny (model P w) X.A (pyNext (.ref it)) (λr s1=>r=none∧Inv X pq σ H s1) E s
 self:∀(A:Around) (i:Nat) (s:Shared) (Q:Vs) (E:Vs),tn i s.heap→Q (.ref it) s→wpAny (model P w) A (pyIter (.ref it)) Q E s
abbrev TI:=St→Hp→(It→Hp→Prop)→Prop
def PIE(X:Cx)(pq:Lp)(σ:St)(tg:Expr)(R:It→Hp→Prop)(itv:Value)(s2:Shared):Prop:=
 ∃(it:Addr) (fp:La) (tn:Nat→Heap→Prop) (J:It) (H':Hp),itv=.ref it∧Inv X pq σ H' s2∧Turn X.prog X.w X.K tg J fp it tn∧tn 0 s2.heap∧(∀b∈fp,FpOk X pq H' b)∧R J H'
def PI(X:Cx)(tg iter:Expr)(wi:TI):Prop:=
 ∀(pq:Lp) (s:Shared) (σ:St) (H:Hp) (R:It→Hp→Prop),Inv X pq σ H s→wi σ H R→
  wpAny (model X.prog X.w) X.A (eval iter X.env) (λv s1=>wpAny (model X.prog X.w) X.A (pyIter v) (PIE X pq σ tg R) X.xe s1) X.xe s
theorem go_of{o:Obj}{n:String}{vs:Av}{Q:Unit→Shared→Prop}(ho:s.heap.get? it=some o)(hc:o.cls=.type n)(hd:o.data=.fields vs)
  (hn:["enumerate","zip","dict_itemiterator","dict_reverseitemiterator","odict_iterator","itertools.zip_longest","itertools.pairwise"].contains n=false) (hQ:Q () s):wpAny M A (letOwnedTupleGo tg (.ref it) u) Q E s:=by
 unfold letOwnedTupleGo
 cases tg<;>first
  |exact Zg hQ
  | (cases u<;>first
    |exact Zg hQ
    | (refine Za (wpAny_load ho ?_)
       rw[hc,hd];show wpAny M A (if(["enumerate","zip","dict_itemiterator","dict_reverseitemiterator","odict_iterator","itertools.zip_longest","itertools.pairwise"].contains n&&vs[0]?==some (rawInt _))=true then _ else _) Q E s;rw[if_neg (by intro h;rw[hn,Bool.false_and]at h;cases h)];exact Zg hQ))
def Itl(K:Fg)(a:Addr):It:=
 ⟨λi H=>∃xs x,SqL K H a xs∧xs[i]?=some x,λi H x H'=>H'=H∧∀xs,SqL K H a xs→xs[i]?=some x,λi H=>∃xs,SqL K H a xs∧xs.length≤i⟩
def Itt(K:Fg)(a:Addr):It:=
 ⟨λi H=>∃xs x,SqT K H a xs∧xs[i]?=some x,λi H x H'=>H'=H∧∀xs,SqT K H a xs→xs[i]?=some x,λi H=>∃xs,SqT K H a xs∧xs.length≤i⟩
def Itr(lo:Int)(n:Nat):It:=⟨λi _=>i<n,λi H x H'=>H'=H∧x=.int (lo+i),λi _=>n≤i⟩
theorem a6C'(a it:Addr):Turn P w K tg (Itl K a) [it] it (λi h=>h.IsListIter it a i) where
 mem:=by simp
 obj:=λi h st b hb=>by
  have e:b=it:=by simpa using hb
  subst e;obtain⟨o,e,c,d⟩:=st;exact⟨o,e,λv z=>by rw[d]at z;cases z⟩
 keep:=λi h h' st k=>st.at λo e=>k it (by simp) o e
 item:=by intro X hP hw hK hc i pq s σ H E I hf st hg;subst hP hw hK;obtain⟨xs,x,hq,hx⟩:=hg;obtain⟨its,rv,p,hz⟩:=I.list hq;obtain⟨u,hu,ru⟩:=rv.get hx;obtain⟨f0,f1,f2,f3,f4,f5⟩:=hf it (by simp);refine wpAny_pyNext_list_item st p.isList (x:=u) (by simpa using hu) λh' st' sb=>?_;have I1:Inv X pq σ H {s with heap:=h'}:=I.turned (t':=s.toks) (λb o hb e=>(sb.2 b hb).trans e) f0 f1 f3 f4 f5;obtain⟨o,e,c,d⟩:=id st';exact⟨u,rfl,go_of (s:={s with heap:=h'}) e c d (by decide) ⟨x,H,I1,ru,⟨rfl,λys hy=>by rw[I.list_inj hy hq];exact hx⟩,st',λb hb=>(hf b hb).1⟩⟩
 done:=by intro X hP hw hK hc i pq s σ H E I hf st hg;subst hP hw hK;obtain⟨xs,hq,hx⟩:=hg;obtain⟨its,rv,p,hz⟩:=I.list hq;obtain⟨f0,f1,f2,f3,f4,f5⟩:=hf it (by simp);have hl:=rv.length;exact wpAny_pyNext_list_end (I.ok.hd hc) st p.isList (by simp;omega) λh' eb=>⟨rfl,I.turned (t':=s.toks) (λb o hb e=>eb b o hb e) f0 f1 f3 f4 f5⟩
 self:=λ_ _ _ _ _ st h=>wpAny_pyIter_listiter st h
theorem a5c'(a it:Addr):Turn P w K tg (Itt K a) [it] it (λi h=>h.IsTupleIter it a i) where
 mem:=by simp
 obj:=λi h st b hb=>by
  have e:b=it:=by simpa using hb
  subst e;obtain⟨o,e,c,d⟩:=st;exact⟨o,e,λv z=>by rw[d]at z;cases z⟩
 keep:=λi h h' st k=>st.at λo e=>k it (by simp) o e
 item:=by intro X hP hw hK hc i pq s σ H E I hf st hg;subst hP hw hK;obtain⟨xs,x,hq,hx⟩:=hg;obtain⟨its,rv,p,hz⟩:=I.tuple hq;obtain⟨u,hu,ru⟩:=rv.get hx;obtain⟨f0,f1,f2,f3,f4,f5⟩:=hf it (by simp);refine wpAny_pyNext_tuple_item st (show s.heap.IsTuple a its.toArray from p) (x:=u) (by simpa using hu) λh' st' sb=>?_;have I1:Inv X pq σ H {s with heap:=h'}:=I.turned (t':=s.toks) (λb o hb e=>(sb.2 b hb).trans e) f0 f1 f3 f4 f5;obtain⟨o,e,c,d⟩:=id st';exact⟨u,rfl,go_of (s:={s with heap:=h'}) e c d (by decide) ⟨x,H,I1,ru,⟨rfl,λys hy=>by rw[I.tuple_inj hy hq];exact hx⟩,st',λb hb=>(hf b hb).1⟩⟩
 done:=by intro X hP hw hK hc i pq s σ H E I hf st hg;subst hP hw hK;obtain⟨xs,hq,hx⟩:=hg;obtain⟨its,rv,p,hz⟩:=I.tuple hq;obtain⟨f0,f1,f2,f3,f4,f5⟩:=hf it (by simp);have hl:=rv.length;exact wpAny_pyNext_tuple_end (I.ok.hd hc) st (show s.heap.IsTuple a its.toArray from p) (by simp;omega) λh' eb=>⟨rfl,I.turned (t':=s.toks) (λb o hb e=>eb b o hb e) f0 f1 f3 f4 f5⟩
 self:=λ_ _ _ _ _ st h=>wpAny_pyIter_tupleiter st h
theorem a5d'(it:Addr)(lo:Int)(n:Nat):Turn P w K tg (Itr lo n) [it] it (λi h=>IsRangeIter h it (lo+(i:Nat)*1) ((n:Int)-(i:Nat)) 1) where
 mem:=by simp
 obj:=λi h st b hb=>by
  have e:b=it:=by simpa using hb
  subst e;exact⟨_,st,λv z=>by have z':Data.fields _=Data.cell v:=z;cases z'⟩
 keep:=λi h h' st k=>k it (by simp) _ st
 item:=by intro X hP hw hK hc i pq s σ H E I hf st hg;subst hP hw hK;obtain⟨f0,f1,f2,f3,f4,f5⟩:=hf it (by simp);have W:=Walks.range (prog:=X.prog) (w:=X.w) (I.ok.hd hc) it lo 1 n;refine W.item i s _ _ hg st λv h' tk hv st' kk=>?_;obtain⟨t,rfl⟩:=hv;have I1:Inv X pq σ H {s with heap:=h',toks:=tk}:=I.turned (λb o hb e=>kk b o (by simpa using hb) e) f0 f1 f3 f4 f5;refine⟨_,rfl,go_of (s:={s with heap:=h',toks:=tk}) (n:="range_iterator") st' rfl rfl (by decide) ⟨.int (lo+i),H,I1,⟨t,?_⟩,⟨rfl,rfl⟩,st',λb hb=>(hf b hb).1⟩⟩;rw[Int.mul_one]
 done:=by intro X hP hw hK hc i pq s σ H E I hf st hg;subst hP hw hK;obtain⟨f0,f1,f2,f3,f4,f5⟩:=hf it (by simp);exact wpAny_pyNext_range_end (I.ok.hd hc) st (by have:n≤i:=hg;omega) λh' eb=>⟨rfl,I.turned (t':=s.toks) (λb o hb e=>eb b o hb e) f0 f1 f3 f4 f5⟩
 self:=λ_ _ _ _ _ st h=>wpAny_pyIter_rangeiter st h
section
variable {X:Cx}
theorem a5e'{σ:St}{H:Hp}{R:It→Hp→Prop}{lo hi:Int}{t u v:Tok}{tk:Nat}(I:Inv X pq σ H s)(h1: -(2^62)≤lo)(h2:lo<2^62)(h3: -(2^62)≤hi)(h4:hi<2^62)
  (q:R (Itr lo (hi-lo).toNat) H):wpAny (model X.prog X.w) X.A (pyIter (.ref s.heap.objs.size)) (PIE X pq σ tg R) E {s with heap:=s.heap.push {cls:=.type "range",data:=.fields #[.int lo t,.int hi u,.int 1 v]},toks:=tk}:=by
 refine wpAny_pyIter_range (IsRange.new ..) (small_one h1 h2 h3 h4) ?_;have I1:Inv X pq σ H {s with heap:=s.heap.push {cls:=.type "range",data:=.fields #[.int lo t,.int hi u,.int 1 v]},toks:=tk}:=I.kept λb o e=>Zd _ e
 refine⟨(s.heap.push {cls:=.type "range",data:=.fields #[.int lo t,.int hi u,.int 1 v]}).objs.size,[(s.heap.push {cls:=.type "range",data:=.fields #[.int lo t,.int hi u,.int 1 v]}).objs.size],_,_,H,rfl,
  I1.kept (t':=tk) λb o e=>Zd _ e,a5d' _ lo (hi-lo).toNat,?_,λb hb=>?_,q⟩
 ·have e1:lo+((0:Nat):Int)*1=lo:=by simp
  have e2:(((hi-lo).toNat:Nat):Int)-((0:Nat):Int)=Builtin.Range.rangeSize lo hi 1:=by rw[rangeSize_one];split<;>omega
  show IsRangeIter _ _ (lo+((0:Nat):Int)*1) ((((hi-lo).toNat:Nat):Int)-((0:Nat):Int)) 1;rw[e1,e2];exact Zn _ rfl
 ·have e:b=(s.heap.push {cls:=.type "range",data:=.fields #[.int lo t,.int hi u,.int 1 v]}).objs.size:=by simpa using hb
  subst e;exact I1.fpOk (Zi _) (I1.hok.fresh (Zi _))
def iRng1(ta:TA):TI:=λσ H R=>ta σ H λvs H1=>∃j:Int,vs=[.int j]∧-(2^62)≤j∧j<2^62∧R (Itr 0 j.toNat) H1
def iRng2(ta:TA):TI:=λσ H R=>ta σ H λvs H1=>∃i j:Int,vs=[.int i,.int j]∧(-(2^62)≤i∧i<2^62∧-(2^62)≤j∧j<2^62)∧R (Itr i (j-i).toNat) H1
theorem a6D'{a:Expr}{ta:TA}{p pos:Pos}(hg:Gl X "range")(hm:X.mg "range"=none)(ha:PA X [a] ta)(hs:starEach [a] X.env=[(false,eval a X.env)]:=by rfl):PI X tg (.Call (.Name "range" p) [a] [] pos) (iRng1 ta):=by
 intro pq s σ H R I h;refine Call_ (a4B' I hg hm boot_range (PyProof.Rows.callWith_type1 (thn (ha pos pq s σ H _ I h) λus s1 ⟨vs,H1,I1,r1,q1⟩=>?_) hs rfl));obtain⟨j,e,q1,q2,q⟩:=q1;subst e;cases r1 with
 |cons r rr=>cases rr;obtain⟨t,rfl⟩:=r;exact call_range_1 (a5e' I1 (by omega) (by omega) q1 q2 (by simpa using q))
theorem a6E'{a b:Expr}{ta:TA}{p pos:Pos}(hg:Gl X "range")(hm:X.mg "range"=none)(ha:PA X [a,b] ta)(hs:starEach [a,b] X.env=[(false,eval a X.env),(false,eval b X.env)]:=by rfl)(hs2:starEach [b] X.env=[(false,eval b X.env)]:=by rfl):
  PI X tg (.Call (.Name "range" p) [a,b] [] pos) (iRng2 ta):=by
 intro pq s σ H R I h;refine Call_ (a4B' I hg hm boot_range (PyProof.Rows.callWith_type1 (thn (ha pos pq s σ H _ I h) λus s1 ⟨vs,H1,I1,r1,q1⟩=>?_) (by rw[hs,hs2]) (by rw[hs2];rfl)));obtain⟨i,j,e,⟨q1,q2,q3,q4⟩,q⟩:=q1;subst e;cases r1 with
 |cons r rr=>
  cases rr with
  |cons r' rr=>cases rr;obtain⟨t,rfl⟩:=r;obtain⟨t',rfl⟩:=r';exact call_range_2 (a5e' I1 q1 q2 q3 q4 q)
def tFor(wi:TI)(g:TG)(tb:TS):TS:=λD σ H=>wi σ H λJ H1=>∃W:Nat→Nat→St→Hp→Prop,(∃m,W 0 m σ H1)∧∀i m σ H,W i m σ H→
 (J.stop i H∧D.nx σ H)∨(J.go i H∧∃N:St→Hp→Prop,(∀σ' H',N σ' H'→∃m',m'<m∧W (i+1) m' σ' H')∧∀x H',J.yld i H x H'→g x σ H' λσ2 H2=>tb {D with nx:=N,ct:=N,bk:=D.nx} σ2 H2)
def a6F'(fp:La)(h:Heap):Lp:=fp.filterMap λb=>(h.get? b).map λo=>(b,o)
theorem a1s'{b:Addr}{o:Obj}(hb:b∈fp)(e:h.get? b=some o):(b,o)∈a6F' fp h:=List.mem_filterMap.mpr ⟨b,hb,by rw[e];rfl⟩
theorem a6G'{p:Addr×Obj}(hp:p∈a6F' fp h):p.1∈fp∧h.get? p.1=some p.2:=by
 obtain⟨b,hb,e⟩:=List.mem_filterMap.mp hp;cases q:h.get? b with
 |none=>rw[q]at e;cases e
 |some o=>rw[q]at e;have e':(b,o)=p:=ZL e;subst e';exact⟨hb,q⟩
theorem Inv.pinned{σ:St}{H:Hp}(I:Inv X pq σ H s)(hf:∀b∈fp,FpOk X pq H b)(ho:∀b∈fp,∃o,s.heap.get? b=some o∧∀v,o.data≠.cell v):Inv X (pq++a6F' fp s.heap) σ H s:=
 I.pins_of λp hp=>(ZC.mp hp).elim (λz=>I.pin p (Zq _ z)) λz=>by obtain⟨hb,e⟩:=a6G' z;obtain⟨f0,f1,f2,_⟩:=hf p.1 hb;obtain⟨o,e',d⟩:=ho p.1 hb;rw[e]at e';cases e';exact⟨e,f0,f1,f2,d⟩
theorem Inv.unpinned{pl:Lp}{σ:St}{H:Hp}(I:Inv X (pq++pl) σ H s):Inv X pq σ H s:=I.pins_of λp hp=>I.pin p (Zq _ (ZG _ hp))
theorem ps_for{body:List Stmt}{wi:TI}{g:TG}{tb:TS}{pos:Pos}(hp:PassesOwn (model X.prog X.w) X.A X.env X.xe)(hc:X.calm=true)(hi:PI X tg iter wi)(hg:PG X tg g)(hb:PSs X body tb)
  (hs:∀x,foldedSetIterable iter X.env x=pure x:=by intro _;rfl):PS X (.For tg iter body [] pos) (tFor wi g tb):=by
 intro pq s σ H D I h;refine wpAny_For (thn (hi pq s σ H _ I h) λv s1 h1=>thn h1 λitv s2 h2=>?_) hs;obtain⟨it,fp,tn,J,H2,e,I2,T,st2,f2,W,⟨m0,w0⟩,turn⟩:=h2;subst e;have stat:∀{H':Hp},(∀b∈fp,H' b=none)→∀b∈fp,FpOk X pq H' b:=λhn b hb=>⟨hn b hb,(f2 b hb).2⟩;refine codeAny_forLoop_any (λn s'=>∃i σ' H',Inv X pq σ' H' s'∧tn i s'.heap∧(∀b∈fp,H' b=none)∧W i n σ' H') ?_ m0 ⟨0,σ,H2,I2,st2,λb hb=>(f2 b hb).1,w0⟩;rintro n s3 ⟨i,σ3,H3,I3,st3,fr3,w3⟩;rcases turn i n σ3 H3 w3 with⟨stop,qn⟩| ⟨go,N,hN,step⟩
 ·refine wpAny_passesOwn hp (thn (T.done X rfl rfl rfl hc i pq s3 σ3 H3 X.xe I3 (stat fr3) st3 stop) λr s4 ⟨hr,I4⟩=>?_);subst hr;exact wpAny_execs_nil ⟨σ3,H3,I4,qn⟩
 ·refine wpAny_passesOwn hp (thn (T.item X rfl rfl rfl hc i pq s3 σ3 H3 X.xe I3 (stat fr3) st3 go) λr s4 ⟨u,hr,h4⟩=>?_);subst hr;refine wpAny_passesOwn hp (thn h4 λ_ s5 ⟨x,H5,I5,r5,y5,st5,fr5⟩=>?_);have I5':=I5.pinned (stat fr5) (T.obj _ _ st5);refine wpAny_passesOwn hp (thn (hg _ s5 σ3 H5 x u _ I5' r5 (step x H5 y5)) λ_ s6 ⟨σ6,H6,I6,q6⟩=>?_);refine wpAny_passesOwn hp (thn (hb _ s6 σ6 H6 _ I6 q6) λf s7 q7=>?_)
  have again:∀{σ7:St} {H7:Hp},Inv X (pq++a6F' fp s5.heap) σ7 H7 s7→N σ7 H7→∃m,m<n∧∃i σ' H',Inv X pq σ' H' s7∧tn i s7.heap∧(∀b∈fp,H' b=none)∧W i m σ' H':=λ{σ7 H7} I7 n7=>by obtain⟨m',hm,w7⟩:=hN σ7 H7 n7;refine⟨m',hm,i+1,σ7,H7,I7.unpinned,T.keep _ _ _ st5 λb hb o e=>(I7.pin (b,o) (Zq _ (Zq _ (a1s' hb e)))).1,λb hb=>?_,w7⟩;obtain⟨o,e,d⟩:=T.obj _ _ st5 b hb;exact(I7.pin (b,o) (Zq _ (Zq _ (a1s' hb e)))).2.1
  cases f with
  |next=>obtain⟨σ7,H7,I7,n7⟩:=q7;exact again I7 n7
  |cont=>obtain⟨σ7,H7,I7,n7⟩:=q7;exact again I7 n7
  |brk=>obtain⟨σ7,H7,I7,q7⟩:=q7;exact⟨σ7,H7,I7.unpinned,q7⟩
  |ret v=>obtain⟨x7,σ7,H7,I7,r7,q7⟩:=q7;exact⟨x7,σ7,H7,I7.unpinned,r7,q7⟩
end
abbrev R2:=V→V→Hp→VK→Prop
def OpR(X:Cx)(f:Value→Value→Sem Value)(r:R2):Prop:=
 ∀(pq:Lp) (s:Shared) (σ:St) (H:Hp) (x y:V) (v u:Value) (Q:VK),Inv X pq σ H s→RelV x v→RelV y u→r x y H Q→
  wpAny (model X.prog X.w) X.A (f v u) (EP X pq σ Q) X.xe s
def UnR(X:Cx)(f:Value→Sem Value)(r:V→Hp→VK→Prop):Prop:=
 ∀(pq:Lp) (s:Shared) (σ:St) (H:Hp) (x:V) (v:Value) (Q:VK),Inv X pq σ H s→RelV x v→r x H Q→
  wpAny (model X.prog X.w) X.A (f v) (EP X pq σ Q) X.xe s
def CallR(X:Cx)(f:Value)(r:List V→Hp→VK→Prop):Prop:=
 ∀(pq:Lp) (s:Shared) (σ:St) (H:Hp) (xs:List V) (us:Lv) (Q:VK),Inv X pq σ H s→Vals xs us→r xs H Q→
  wpAny (model X.prog X.w) X.A (call f us) (EP X pq σ Q) X.xe s
def TruR(X:Cx)(r:V→Hp→(Bool→Hp→Prop)→Prop):Prop:=
 ∀(pq:Lp) (s:Shared) (σ:St) (H:Hp) (x:V) (v:Value) (Q:Bool→Hp→Prop),Inv X pq σ H s→RelV x v→r x H Q→
  wpAny (model X.prog X.w) X.A (truthy v) (TP X pq σ Q) X.xe s
def tOp(r:R2)(ta tb:TE):TE:=λσ H Q=>ta σ H λx H1=>tb σ H1 λy H2=>r x y H2 Q
def tUn(r:V→Hp→VK→Prop)(ta:TE):TE:=λσ H Q=>ta σ H λx H1=>r x H1 Q
def rI(C:Int→Int→Prop)(g:Int→Int→V):R2:=λx y H Q=>∃i j,x=.int i∧y=.int j∧C i j∧Q (g i j) H
def rI0(g:Int→Int→V):R2:=λx y H Q=>∃i j,x=.int i∧y=.int j∧Q (g i j) H
def rU(g:Int→V):V→Hp→VK→Prop:=λx H Q=>∃i,x=.int i∧Q (g i) H
section
variable {X:Cx}{a b c:Expr}{ta tb tc:TE}{pos:Pos}
theorem binT(ha:PE X a ta)(hb:PE X b tb){σ:St}{H:Hp}{R:V→V→Hp→Prop}(I:Inv X pq σ H s)
  (h:ta σ H λx H1=>tb σ H1 λy H2=>R x y H2)  {f:Value→Value→Sem Value}
  (hf:∀v u s2 x y H2,Inv X pq σ H2 s2→RelV x v→RelV y u→R x y H2→wpAny (model X.prog X.w) X.A (f v u) Q X.xe s2):
  wpAny (model X.prog X.w) X.A (eval a X.env) (λv s₁=>wpAny (model X.prog X.w) X.A (eval b X.env) (λu s₂=>wpAny (model X.prog X.w) X.A (f v u) Q X.xe s₂) X.xe s₁) X.xe s:=by
 refine thn (ha pq s σ H _ I h) λv s1 ⟨x,H1,I1,r1,q1⟩=>?_;refine thn (hb pq s1 σ H1 _ I1 q1) λu s2 ⟨y,H2,I2,r2,q2⟩=>?_;exact hf v u s2 x y H2 I2 r1 r2 q2
theorem pe_op{op:Operator}{r:R2}(ho:OpR X (binaryOp op) r)(ha:PE X a ta)(hb:PE X b tb):PE X (.BinOp a op b pos) (tOp r ta tb):=by intro pq s σ H Q I h;exact wpAny_BinOp (binT ha hb I h λv u s2 x y H2 I2 rx ry q=>ho pq s2 σ H2 x y v u Q I2 rx ry q)
theorem pe_un{op:UnaryOp}{r:V→Hp→VK→Prop}(ho:UnR X (unaryOp op) r)(ha:PE X a ta):PE X (.UnaryOp op a pos) (tUn r ta):=by intro pq s σ H Q I h;exact UnaryOp_ (thn (ha pq s σ H _ I h) λv s1 ⟨x,H1,I1,r1,q1⟩=>ho pq s1 σ H1 x v Q I1 r1 q1)
theorem opI{f:Value→Value→Sem Value}{C:Int→Int→Prop}{g:Int→Int→Int}
  (rule:∀(i j:Int) (t u:Tok) (s:Shared) (Q:Vs) (E:Vs),C i j→Q (.int (g i j) s.toks) {s with toks:=s.toks+1}→wpAny (model X.prog X.w) X.A (f (.int i t) (.int j u)) Q E s):
  OpR X f (rI C λi j=>.int (g i j)):=by
 intro pq s σ H x y v u Q I rx ry h;obtain⟨i,j,rfl,rfl,hc,q⟩:=h;obtain⟨t,rfl⟩:=rx;obtain⟨t',rfl⟩:=ry;exact rule i j t t' s _ _ hc ⟨.int (g i j),H,I.tok _,⟨_,rfl⟩,q⟩
theorem opI0{f:Value→Value→Sem Value}{g:Int→Int→Int}
  (rule:∀(i j:Int) (t u:Tok) (s:Shared) (Q:Vs) (E:Vs),Q (.int (g i j) s.toks) {s with toks:=s.toks+1}→wpAny (model X.prog X.w) X.A (f (.int i t) (.int j u)) Q E s):
  OpR X f (rI0 λi j=>.int (g i j)):=by
 intro pq s σ H x y v u Q I rx ry h;obtain⟨i,j,rfl,rfl,q⟩:=h;obtain⟨t,rfl⟩:=rx;obtain⟨t',rfl⟩:=ry;exact rule i j t t' s _ _ ⟨.int (g i j),H,I.tok _,⟨_,rfl⟩,q⟩
theorem opB0{f:Value→Value→Sem Value}{g:Int→Int→Bool}
  (rule:∀(i j:Int) (t u:Tok) (s:Shared) (Q:Vs) (E:Vs),Q (.bool (g i j)) s→wpAny (model X.prog X.w) X.A (f (.int i t) (.int j u)) Q E s):
  OpR X f (rI0 λi j=>.bl (g i j)):=by
 intro pq s σ H x y v u Q I rx ry h;obtain⟨i,j,rfl,rfl,q⟩:=h;obtain⟨t,rfl⟩:=rx;obtain⟨t',rfl⟩:=ry;exact rule i j t t' s _ _ ⟨.bl (g i j),H,I,rfl,q⟩
def CDiv(i j:Int):Prop:=0<j∧j<1073741824
def CPow(i j:Int):Prop:=0≤j∧j≤1000000∧i.natAbs<2^64
def CMul(i j:Int):Prop:=(-(2^64)<i∧i<2^64)∨(-(2^64)<j∧j<2^64)
theorem CMul.ok{i j:Int}(h:CMul i j):IntMulOk i j:=by
 rcases h with⟨h1,h2⟩| ⟨h1,h2⟩
 ·exact .of_left (intBits_le_64 h1 h2)
 ·exact .of_right (intBits_le_64 h1 h2)
theorem a5f'(k:Nat):(0:Int)≤2^k:=by rw[two_pow_cast];exact Int.natCast_nonneg _
theorem op_add:OpR X (binaryOp .Add) (rI0 λi j=>.int (i+j)):=opI0 λ_ _ _ _ _ _ _ q=>add_int q
theorem op_sub:OpR X (binaryOp .Sub) (rI0 λi j=>.int (i-j)):=opI0 λ_ _ _ _ _ _ _ q=>sub_int q
theorem op_mul:OpR X (binaryOp .Mult) (rI CMul λi j=>.int (i*j)):=opI λ_ _ _ _ _ _ _ hc q=>mul_int q hc.ok
theorem op_fdiv:OpR X (binaryOp .FloorDiv) (rI CDiv λi j=>.int (i/j)):=opI λi j _ _ _ _ _ hc q=>by have h1:(0:Int)<j:=hc.1;have h2:j<1073741824:=hc.2;exact floordiv_int (by omega) (by rw[Int.fdiv_eq_ediv_of_nonneg i (by omega)];exact q) (.inl (PyProof.noPylong_small (by omega)))
theorem op_mod:OpR X (binaryOp .Mod) (rI (λ_ j=>0<j) λi j=>.int (i%j)):=opI λi j _ _ _ _ _ hc q=>by have h1:(0:Int)<j:=hc;exact mod_int' (by omega) (by rw[Int.fmod_eq_emod_of_nonneg i (by omega)];exact q)
theorem op_pow:OpR X (binaryOp .Pow) (rI CPow λi j=>.int (i^j.toNat)):=opI λ_ _ _ _ _ _ _ hc q=>pow_int_small hc.1 hc.2.1 hc.2.2 q
theorem op_shr:OpR X (binaryOp .RShift) (rI (λ_ j=>0≤j) λi j=>.int (i/2^j.toNat)):=opI λi j _ _ _ _ _ hc q=>
 rshift_int hc (by rw[Int.fdiv_eq_ediv_of_nonneg i (a5f' _)];exact q)
theorem op_and:OpR X (binaryOp .BitAnd) (rI0 λi j=>.int (Builtin.bitAnd i j)):=opI0 λ_ _ _ _ _ _ _ q=>and_int q
theorem op_or:OpR X (binaryOp .BitOr) (rI0 λi j=>.int (Builtin.bitOr i j)):=opI0 λ_ _ _ _ _ _ _ q=>or_int q
theorem unI{f:Value→Sem Value}{g:Int→Int}
  (rule:∀(i:Int) (t:Tok) (s:Shared) (Q:Vs) (E:Vs),Q (.int (g i) s.toks) {s with toks:=s.toks+1}→wpAny (model X.prog X.w) X.A (f (.int i t)) Q E s):
  UnR X f (rU λi=>.int (g i)):=by
 intro pq s σ H x v Q I rx h;obtain⟨i,rfl,q⟩:=h;obtain⟨t,rfl⟩:=rx;exact rule i t s _ _ ⟨.int (g i),H,I.tok _,⟨_,rfl⟩,q⟩
theorem un_neg:UnR X (unaryOp .USub) (rU λi=>.int (-i)):=unI λ_ _ _ _ _ q=>neg_int q
end
def scal:V→V→Bool
 | .non,.non=>true| .non,.int _=>true| .int _,.non=>true| .non,.bl _=>true| .bl _,.non=>true| .non,.str _=>true| .str _,.non=>true
 | .int _,.int _=>true| .bl _,.bl _=>true| .str _,.str _=>true| .byt _,.byt _=>true
 | .int _,.str _=>true| .str _,.int _=>true| .bl _,.str _=>true| .str _,.bl _=>true
 |_,_=>false
def rNe:R2:=λx y H Q=>scal x y=true∧Q (.bl (!decide (x=y))) H
theorem dec_int{i j:Int}:decide (V.int i=V.int j)=(i==j):=by rw[Bool.eq_iff_iff];simp
theorem dec_bl{i j:Bool}:decide (V.bl i=V.bl j)=(i==j):=by rw[Bool.eq_iff_iff];simp
theorem dec_str{i j:Str}:decide (V.str i=V.str j)=(i==j):=by rw[Bool.eq_iff_iff];simp
theorem dec_byt{i j:Array UInt8}:decide (V.byt i=V.byt j)=(i.toList==j.toList):=by rw[Bool.eq_iff_iff];cases i;cases j;simp
section
variable {X:Cx}{a b c:Expr}{ta tb tc:TE}{pos:Pos}
theorem a0V'{σ:St}{H:Hp}{Q:VK}{k k':Bool}(I:Inv X pq σ H s)(q:Q (.bl k) H)(e:k=k'):EP X pq σ Q (.bool k') s:=by subst e;exact⟨.bl k,H,I,rfl,q⟩
theorem op_ne:OpR X (compareOp .NotEq) rNe:=by
 intro pq s σ H x y v u Q I rx ry h;obtain⟨hs,q⟩:=h;cases x with
 |non=>
  cases rx;cases y with
  |non=>cases ry;exact PySem.EqNone.ne_none_none (a0V' I q (by simp))
  |bl j=>cases ry;exact PySem.EqNone.ne_none_bool (a0V' I q (by simp))
  |int j=>obtain⟨t',rfl⟩:=ry;exact PySem.EqNone.ne_none_int (a0V' I q (by simp))
  |str j=>obtain⟨t',rfl⟩:=ry;exact PySem.EqNone.ne_none_str (a0V' I q (by simp))
  |_=>exact absurd (show false=true from hs) ZU
 |bl i=>
  cases rx;cases y with
  |non=>cases ry;exact PySem.EqNone.ne_bool_none (a0V' I q (by simp))
  |bl j=>cases ry;exact ne_bool (a0V' I q (congrArg not dec_bl))
  |str j=>obtain⟨t',rfl⟩:=ry;exact PySem.EqMixed.ne_bool_str (a0V' I q (by simp))
  |_=>exact absurd (show false=true from hs) ZU
 |int i=>
  obtain⟨t,rfl⟩:=rx;cases y with
  |non=>cases ry;exact PySem.EqNone.ne_int_none (a0V' I q (by simp))
  |int j=>obtain⟨t',rfl⟩:=ry;exact ne_int (a0V' I q (congrArg not dec_int))
  |str j=>obtain⟨t',rfl⟩:=ry;exact PySem.EqMixed.ne_int_str (a0V' I q (by simp))
  |_=>exact absurd (show false=true from hs) ZU
 |str i=>
  obtain⟨t,rfl⟩:=rx;cases y with
  |non=>cases ry;exact PySem.EqNone.ne_str_none (a0V' I q (by simp))
  |bl j=>cases ry;exact PySem.EqMixed.ne_str_bool (a0V' I q (by simp))
  |int j=>obtain⟨t',rfl⟩:=ry;exact PySem.EqMixed.ne_str_int (a0V' I q (by simp))
  |str j=>obtain⟨t',rfl⟩:=ry;exact ne_str (a0V' I q (congrArg not dec_str))
  |_=>exact absurd (show false=true from hs) ZU
 |byt i=>
  obtain⟨t,rfl⟩:=rx;cases y with
  |byt j=>obtain⟨t',rfl⟩:=ry;exact PySem.W.ne_bytes (a0V' I q (congrArg not dec_byt))
  |_=>exact absurd (show false=true from hs) ZU
 |_=>cases y<;>exact absurd (show false=true from hs) ZU
theorem op_le:OpR X (compareOp .LtE) (rI0 λi j=>.bl (decide (i≤j))):=opB0 λ_ _ _ _ _ _ _ q=>le_int q
theorem op_gt:OpR X (compareOp .Gt) (rI0 λi j=>.bl (decide (j<i))):=opB0 λ_ _ _ _ _ _ _ q=>gt_int q
theorem op_ge:OpR X (compareOp .GtE) (rI0 λi j=>.bl (decide (j≤i))):=opB0 λ_ _ _ _ _ _ _ q=>ge_int q
theorem op_isN:OpR X (compareOp .Is) (λx y H Q=>y=.non∧Q (.bl (decide (x=.non))) H):=by
 intro pq s σ H x y v u Q I rx ry h;obtain⟨rfl,q⟩:=h;cases ry;refine is_none_gen (a0V' I q ?_)
 cases x<;>first
  | (cases rx;rfl)
  | (obtain⟨t,rfl⟩:=rx;rfl)
theorem op_notN:OpR X (compareOp .IsNot) (λx y H Q=>y=.non∧Q (.bl (!decide (x=.non))) H):=by
 intro pq s σ H x y v u Q I rx ry h;obtain⟨rfl,q⟩:=h;cases ry;refine isnot_none_gen (a0V' I q ?_)
 cases x<;>first
  | (cases rx;rfl)
  | (obtain⟨t,rfl⟩:=rx;rfl)
theorem pe_cmpR{op:CmpOp}{r:R2}(ho:OpR X (compareOp op) r)(ha:PE X a ta)(hb:PE X b tb)(hm:behindInMarks op b=false):PE X (.Compare a [op] [b] pos) (tOp r ta tb):=by intro pq s σ H Q I h;exact wpAny_Compare1 (binT ha hb I h λv u s2 x y H2 I2 rx ry q=>ho pq s2 σ H2 x y v u Q I2 rx ry q) hm
def tTest(t:TE):TT:=λσ H Q=>t σ H λx H'=>∃k,x=.bl k∧Q k H'
theorem a7x'{op:CmpOp}{r:R2}(ho:OpR X (compareOp op) r)(ha:PE X a ta)(hb:PE X b tb)(hm:behindInMarks op b=false):PT X (.Compare a [op] [b] pos) (tTest (tOp r ta tb)):=by
 intro pq s σ H Q I h
 refine wpAny_isTrue_Compare1 (thn (ha pq s σ H _ I h) λv s1 ⟨x,H1,I1,r1,q1⟩=>thn (hb pq s1 σ H1 _ I1 q1) λu s2 ⟨y,H2,I2,r2,q2⟩=>
  thn (ho pq s2 σ H2 x y v u _ I2 r1 r2 q2) λc s3 ⟨z,H3,I3,r3,k,e,q3⟩=>?_) hm
 subst e;cases r3;exact ZP ⟨H3,I3,q3⟩
def tChain(r r':R2)(ta tb tc:TE):TE:=λσ H Q=>ta σ H λx H1=>tb σ H1 λy H2=>r x y H2 λz H3=>∃k,z=.bl k∧
 (if k=true then tc σ H3 λw' H4=>r' y w' H4 Q else Q (.bl false) H3)
theorem a8e'{op:CmpOp}{r r':R2}(ho:OpR X (compareOp op) r)(ho':OpR X (compareOp op') r')(ha:PE X a ta)(hb:PE X b tb)(hc:PE X c tc)
  (hm:lastMarks [op,op'] [b,c]=false:=by with_unfolding_all rfl):PE X (.Compare a [op,op'] [b,c] pos) (tChain r r' ta tb tc):=by
 intro pq s σ H Q I h
 refine Compare_chain (thn (ha pq s σ H _ I h) λv s1 ⟨x,H1,I1,r1,q1⟩=>chain_link (thn (hb pq s1 σ H1 _ I1 q1) λu s2 ⟨y,H2,I2,r2,q2⟩=>
  thn (ho pq s2 σ H2 x y v u _ I2 r1 r2 q2) λd s3 ⟨z,H3,I3,r3,k,e,q3⟩=>?_)) hm
 subst e;cases r3;refine ZP ?_;cases k with
 |false=>exact ite_ff ⟨.bl false,H3,I3,rfl,q3⟩
 |true=>exact ite_tt (chain_last (thn (hc pq s3 σ H3 _ I3 q3) λw' s4 ⟨z',H4,I4,r4,q4⟩=>ho' pq s4 σ H4 y z' u w' Q I4 r2 r4 q4))
theorem a8f'{op:CmpOp}{r r':R2}(ho:OpR X (compareOp op) r)(ho':OpR X (compareOp op') r')(ha:PE X a ta)(hb:PE X b tb)(hc:PE X c tc)
  (hm:lastMarks [op,op'] [b,c]=false:=by with_unfolding_all rfl):PT X (.Compare a [op,op'] [b,c] pos) (tTest (tChain r r' ta tb tc)):=by
 intro pq s σ H Q I h
 refine isTrue_chain (thn (ha pq s σ H _ I h) λv s1 ⟨x,H1,I1,r1,q1⟩=>test_link (thn (hb pq s1 σ H1 _ I1 q1) λu s2 ⟨y,H2,I2,r2,q2⟩=>
  thn (ho pq s2 σ H2 x y v u _ I2 r1 r2 q2) λd s3 ⟨z,H3,I3,r3,k,e,q3⟩=>?_)) hm
 subst e;cases r3;refine ZP ?_;cases k with
 |false=>obtain⟨k',e',q'⟩:=q3;cases e';exact ite_ff ⟨H3,I3,q'⟩
 |true=>refine ite_tt (test_last (thn (hc pq s3 σ H3 _ I3 q3) λw' s4 ⟨z',H4,I4,r4,q4⟩=>thn (ho' pq s4 σ H4 y z' u w' _ I4 r2 r4 q4) λd' s5 ⟨z2,H5,I5,r5,k2,e2,q5⟩=>?_));subst e2;cases r5;exact ZP ⟨H5,I5,q5⟩
def TruV(K:Fg)(x:V)(H:Hp)(k:Bool):Prop:=
 match x with
 | .non=>k=false
 | .bl b=>k=b
 | .int i=>k=(i !=0)
 | .str y=>y.length≤sizeLine∧k=((y.length:Int) !=0)
 | .byt y=>y.size≤sizeLine∧k=((y.size:Int) !=0)
 | .ref p=>(∃xs,SqL K H p xs∧k= !xs.isEmpty)∨(∃xs,SqT K H p xs∧k= !xs.isEmpty)∨∃kvs,H p=some (.dK kvs)∧k= !kvs.isEmpty
 |_=>False
theorem a5g'{κ:Type}{kvs:List (κ×V)}{vs:List (κ×Value)}(r:KV kvs vs):(!vs.isEmpty)= !kvs.isEmpty:=by cases r<;>rfl
theorem a2R'{xs:List V}(r:Vals xs its):(!its.toArray.isEmpty)= !xs.isEmpty:=by cases r<;>simp
theorem a4D':(sizeLine:Nat)<2^63:=by rw[sizeLine_eq];decide
theorem tru_ok:TruR X (λx H Q=>∃k,TruV X.K x H k∧Q k H):=by
 intro pq s σ H x v Q I rx h;obtain⟨k,e,q⟩:=h;have hl:=a4D';have hs:sizeLine=16777216:=sizeLine_eq;cases x with
 |non=>cases rx;have e':k=false:=e;subst e';exact truthy_none ⟨H,I,q⟩
 |bl b=>cases rx;have e':k=b:=e;subst e';exact ZP ⟨H,I,q⟩
 |int i=>obtain⟨t,rfl⟩:=rx;have e':k=(i !=0):=e;subst e';exact PySem.P.truthy_int ⟨H,I,q⟩
 |str y=>obtain⟨t,rfl⟩:=rx;obtain⟨hy,e'⟩:y.length≤sizeLine∧k=((y.length:Int) !=0):=e;subst e';exact PySem.P.truthy_str (by omega) ⟨H,I.tok _,q⟩
 |byt y=>obtain⟨t,rfl⟩:=rx;obtain⟨hy,e'⟩:y.size≤sizeLine∧k=((y.size:Int) !=0):=e;subst e';exact PySem.W.truthy_bytes (by omega) ⟨H,I.tok _,q⟩
 |ref p=>
  cases rx;have e':(∃xs,SqL X.K H p xs∧k= !xs.isEmpty)∨(∃xs,SqT X.K H p xs∧k= !xs.isEmpty)∨∃kvs,H p=some (.dK kvs)∧k= !kvs.isEmpty:=e;rcases e' with⟨xs,hx,e'⟩| ⟨xs,hx,e'⟩| ⟨kvs,hx,e'⟩
  ·subst e';obtain⟨its,r,pl,hz⟩:=I.list hx;have hlen:=r.length;exact wpAny_truthy_list pl.isList (by simp only[Zf];omega) ⟨H,I.tok _,by rw[a2R' r];exact q⟩
  ·subst e';obtain⟨its,r,pl,hz⟩:=I.tuple hx;have hlen:=r.length;exact truthy_tuple pl (by simp only[Zf];omega) ⟨H,I.tok _,by rw[a2R' r];exact q⟩
  ·subst e';obtain⟨hz,hS,vs,r,m⟩:kvs.length≤sizeLine∧(p==sysModules)=false∧∃vs,KV kvs vs∧s.heap.DictOf (a4Z' X.prog X.w) p vs:=I.hok p _ hx;have hlen:kvs.length=vs.length:=Paired.length r;exact wpAny_truthy_dict hS m (by omega) ⟨H,I.tok _,by rw[a5g' r];exact q⟩
 |_=>exact(show False from e).elim
theorem a8g'(ha:PE X a ta)(he:∀whole,isTrue a X.env whole=(do let v ←whole;standAt a.pos;holding [v] (truthy v))):
  PT X a (λσ H Q=>ta σ H λx H'=>∃k,TruV X.K x H' k∧Q k H'):=by
 intro pq s σ H Q I h;exact isTrue_plain (thn (ha pq s σ H _ I h) λv s1 ⟨x,H1,I1,r1,q1⟩=>tru_ok pq s1 σ H1 x v Q I1 r1 q1) (he _)
theorem a5h':OpR X (binaryOp .Add) (λx y H Q=>∃i j,x=.str i∧y=.str j∧i.length+j.length≤sizeLine∧Q (.str (i++j)) H):=by intro pq s σ H x y v u Q I rx ry h;obtain⟨i,j,rfl,rfl,hz,q⟩:=h;obtain⟨t,rfl⟩:=rx;obtain⟨t',rfl⟩:=ry;exact add_str (λt' tk=>⟨.str (i++j),H,I.tok _,⟨_,rfl⟩,q⟩) hz
theorem vals1{x:V}(r:Vals [x] us):∃u,us=[u]∧RelV x u:=by
 cases r with
 |cons r1 r2=>cases r2;exact⟨_,rfl,r1⟩
theorem a3W':CallR X (.type "int") (λxs H Q=>(∃i,xs=[.int i]∧Q (.int i) H)∨∃k,xs=[.bl k]∧Q (.int (if k then 1 else 0)) H):=by
 intro pq s σ H xs us Q I r h;rcases h with⟨i,rfl,q⟩| ⟨k,rfl,q⟩
 ·obtain⟨u,rfl,t,rfl⟩:=vals1 r;exact call_int_int ⟨.int i,H,I,⟨_,rfl⟩,q⟩
 ·obtain⟨u,rfl,r1⟩:=vals1 r;cases r1;exact call_int_bool ⟨.int (if k then 1 else 0),H,I.tok _,⟨_,rfl⟩,q⟩
end
section
variable {x:Addr}{mA:Mg}{v:Value}
end
section
variable {H H':Hp}{fs fs':List (Str×V)}
end
section
variable {X:Cx}{σ:St}{H:Hp}{fs:List (Str×V)}{f:Str}{v:V}
end
section
variable {X:Cx}{o value:Expr}{f:Str}{pos tpos:Pos}{ta tv:TE}
end
section
variable {X:Cx}{σ:St}{H:Hp}{c:Value}{b:Bool}
end
structure Room (k:Nat)(A:Around):Prop where
 hd:A.handled=none
 dp:A.depth+3*k+5<recursionLimit
 un:A.units+16*k+200<cLine
 gd:A.guards=some []
theorem Room.mono{j:Nat}(r:Room k A)(h:j≤k):Room j A:=⟨r.hd,by have:=r.dp;omega,by have:=r.un;omega,r.gd⟩
theorem Room.deeper(r:Room (k+1) A)(env:Env):Room k (A.deeper env):=
 ⟨r.hd,by have:=r.dp;show A.depth+1+3*k+5<_;omega,by have:=r.un;show A.units+3+16*k+200<_;omega,r.gd⟩
theorem Room.depth(r:Room k A):A.depth<recursionLimit:=by have:=r.dp;omega
theorem Room.units(r:Room k A):A.units+64<cLine:=by have:=r.un;omega
def tNil:TA:=λ_ H Q=>Q [] H
def tCons(ta:TE)(tr:TA):TA:=λσ H Q=>ta σ H λx H1=>tr σ H1 λxs H2=>Q (x::xs) H2
section
variable {X:Cx}{te:TE}{t:TA}{pos:Pos}
theorem a2S':PA X [] tNil:=λ_ _ _ _ H Q I h=>Calls.spliced_nil ⟨[],H,I,.nil,h⟩
theorem a1n'(ha:PE X e te)(hr:PA X es t)(hs:starEach (e::es) X.env=(false,eval e X.env)::starEach es X.env:=by rfl):PA X (e::es) (tCons te t):=by intro pos pq s σ H Q I h;rw[hs];show wpAny _ _ (spliced ((false,eval e X.env)::backTo pos (starEach es X.env))) _ _ s;refine Calls.spliced_cons (thn (ha pq s σ H _ I h) λu s1 ⟨x,H1,I1,r1,q1⟩=>?_);exact thn (hr pos pq s1 σ H1 _ I1 q1) λus s2 ⟨xs,H2,I2,r2,q2⟩=>⟨x::xs,H2,I2,.cons r1 r2,q2⟩
def tTup(t:TA):TE:=λσ H Q=>t σ H λxs H1=>xs.length≤sizeLine∧∀p,H1 p=none→Q (.ref p) (upd H1 p (.tup xs))
def tLst(t:TA):TE:=λσ H Q=>t σ H λxs H1=>xs.length≤sizeLine∧∀p,H1 p=none→Q (.ref p) (upd H1 p (.lst xs))
theorem pe_tup{x1}(h:PA X es t):PE X (.Tuple es x1 pos) (tTup t):=by intro pq s σ H Q I hq;refine wpAny_Tuple_spliced (thn (h pos pq s σ H _ I hq) λus s1 ⟨xs,H1,I1,r,z,q⟩=>⟨by rw[←r.length];exact z,?_⟩);have hf:H1 s1.heap.objs.size=none:=I1.hok.fresh (Zi _);refine⟨.ref s1.heap.objs.size,upd H1 s1.heap.objs.size (.tup xs),I1.laid (t':=s1.toks) (λb u e=>Zd _ e) (Zi _) ?_,rfl,q _ hf⟩;exact⟨z,us,r,⟨_,Zn _ rfl,rfl,_,rfl⟩,_,Zn _ rfl,rfl⟩
theorem a4E'(h:PA X es t):PE X (.List es pos) (tLst t):=by intro pq s σ H Q I hq;refine wpAny_List_spliced (thn (h pos pq s σ H _ I hq) λus s1 ⟨xs,H1,I1,r,z,q⟩=>⟨by rw[←r.length];exact z,?_⟩);have hf:H1 s1.heap.objs.size=none:=I1.hok.fresh (Zi _);refine⟨.ref s1.heap.objs.size,upd H1 s1.heap.objs.size (.lst xs),I1.laid (t':=s1.toks) (λb u e=>Zd _ e) (Zi _) ?_,rfl,q _ hf⟩;exact⟨z,us,0,r,Zn _ rfl⟩
end
abbrev Sp:=List V→Hp→VK→XK→Prop
abbrev CXT:=List Env→Hp→Shared→XK→Vs
structure Env0 (P:Program)(w:World)(K:Fg)(mg:Mg)(base:Heap)(A:Around)(outer:List Env)(s:Shared)(H:Hp):Prop where
 frames:A.frames=some outer
 mod:Mod K mg base
 bs:∀b o,base.get? b=some o→s.heap.get? b=some o∧H b=none
 bsz:base.objs.size≤s.heap.objs.size
 funs:s.heap.FunFrames base outer
 frf:∀b∈frs outer,H b=none
 hok:HOk P w H s.heap
 bare:AllBare s.gens
def CE(outer:List Env)(P:Program)(w:World)(H:Hp)(s:Shared)(Q:VK)(u:Value)(s':Shared):Prop:=
 ∃v H',s'.os=s.os∧AllBare s'.gens∧Un (frs outer) [] H H' s.heap s'.heap∧HOk P w H' s'.heap∧RelV v u∧Q v H'
def CR(CX:CXT)(outer:List Env)(P:Program)(w:World)(H:Hp)(s:Shared)(Q:VK)(E:XK)(r:Result)(s':Shared):Prop:=
 match r with
 | .ok (.ret u)=>CE outer P w H s Q u s'
 | .ok _=>False
 | .error e=>CX outer H s E e s'
structure FnOk (P:Program)(w:World)(K:Fg)(mg:Mg)(base:Heap)(CX:CXT)(k:Nat)(f:Addr)(fd:FuncData)(ps:Ls)(sp:Sp):Prop where
 len:∀vs H Q E,sp vs H Q E→vs.length=ps.length
 run:∀(A:Around) (outer:List Env) (s:Shared) (H:Hp) (args:Args) (us:Lv) (vs:List V) (Q:VK) (E:XK),Room k A→Env0 P w K mg base A outer s H→BindsTo s fd args (ps.zip us)→Vals vs us→sp vs H Q E→
  codeAny (model P w) A (.call (.ref f) args) (CR CX outer P w H s Q E) s
theorem FnOk.mono{CX:CXT}{j:Nat}{fd:FuncData}{sp:Sp}(F:FnOk P w K mg base CX j f fd ps sp)(h:j≤k):
  FnOk P w K mg base CX k f fd ps sp:=⟨F.len,λA outer s H args us vs Q E hr=>F.run A outer s H args us vs Q E (hr.mono h)⟩
theorem FnOk.imp{CX:CXT}{fd:FuncData}{sp sp':Sp}(F:FnOk P w K mg base CX k f fd ps sp)
  (h:∀vs H Q E,sp' vs H Q E→sp vs H Q E):FnOk P w K mg base CX k f fd ps sp':=
 ⟨λvs H Q E q=>F.len vs H Q E (h _ _ _ _ q),λA outer s H args us vs Q E hr he hb hv hs=>F.run A outer s H args us vs Q E hr he hb hv (h _ _ _ _ hs)⟩
section
variable {X:Cx}{σ:St}{H:Hp}
theorem Inv.env0(I:Inv X pq σ H s):Env0 X.prog X.w X.K X.mg X.base X.A X.stack s H:=
 ⟨I.ok.frames,I.ok.mod,I.bs,ZE I.ok.bsz I.sz,I.stack,I.stkFree,I.hok,I.bare⟩
theorem Inv.after{Q:VK}(I:Inv X pq σ H s)(h:CE X.stack X.prog X.w H s Q u s'):EP X pq σ Q u s':=by obtain⟨v,H',os,bare,un,hok,r,q⟩:=h;obtain⟨hh,g,d,t,os'⟩:=s';obtain rfl:os'=s.os:=os;exact⟨v,H',I.call (h':=hh) (g':=g) (d':=d) (t':=t) (ch:=[]) un hok bare (λb z=>absurd z (by simp)),r,q⟩
end
def tCall(sp:Sp)(dvs:List V)(E:XK)(t:TA):TE:=λσ H Q=>t σ H λvs H1=>sp (vs++dvs) H1 Q E
def Binds(K:Fg)(fd:FuncData)(ps:Ls)(ds:Lv):Prop:=
 ∀(s:Shared) (us:Lv),K.In s.heap→(us++ds).length=ps.length→BindsTo s fd ⟨us,[]⟩ (ps.zip (us++ds))
theorem Binds.all{fd:FuncData}(h:∀us:Lv,us.length=ps.length→bindArgs fd ⟨us,[]⟩=pure (ps.zip us)):Binds K fd ps []:=λs us _ hl=>by rw[List.append_nil]at hl⊢;exact .of_eq (h us hl)
def a5i'(CX:CXT)(X:Cx)(E:XK):Prop:=∀(pq:Lp) (σ:St) (H:Hp) (s:Shared) (e:Value) (s':Shared),Inv X pq σ H s→CX X.stack H s E e s'→X.xe e s'
section
variable {X:Cx}{CX:CXT}{fd:FuncData}{sp:Sp}{dvs:List V}{ds:Lv}{E:XK}{x m:Str}{p pos:Pos}{o:Expr}{ta:TE}{t:TA}
theorem run_fn{σ:St}{H:Hp}{Q:VK}{vs:List V}(F:FnOk X.prog X.w X.K X.mg X.base CX k f fd ps sp)(hr:Room k X.A)(hb:Binds X.K fd ps ds)(hd:Vals dvs ds)(hx:a5i' CX X E)
  (I:Inv X pq σ H s) (r:Vals vs us) (h:sp (vs++dvs) H Q E):wpAny (model X.prog X.w) X.A (call (.ref f) us) (EP X pq σ Q) X.xe s:=by
 have r2:Vals (vs++dvs) (us++ds):=r.append hd;have hl:(us++ds).length=ps.length:=by rw[←r2.length];exact F.len _ _ _ _ h
 refine wpAny_call (codeAny_mono (F.run X.A X.stack s H ⟨us,[]⟩ (us++ds) (vs++dvs) Q E hr I.env0 (hb s us I.kIn hl) r2 h) λr s' hq=>?_);cases r with
 |error e=>exact hx pq σ H s e s' I hq
 |ok fl=>
  cases fl with
  |ret u=>exact I.after hq
  |next=>exact False.elim hq
  |brk=>exact False.elim hq
  |cont=>exact False.elim hq
theorem pe_call(F:FnOk X.prog X.w X.K X.mg X.base CX k f fd ps sp)(hr:Room k X.A)(hg:Gl X x)(hm:X.mg x=some (.ref f))(hk:PySem.W.keepIn X.K (.ref f)=true)(hb:Binds X.K fd ps ds)(hd:Vals dvs ds)(hx:a5i' CX X E)
  (ha:PA X (e::es) t) (hdb:(x==("__debug__":Str))=false:=by decide) (he:starEach (e::es) X.env=(false,eval e X.env)::starEach es X.env:=by rfl) (hpl:(backTo pos (starEach es X.env)).any (·.1)=false:=by rfl):
  PE X (.Call (.Name x p) (e::es) [] pos) (tCall sp dvs E t):=by
 intro pq s σ H Q I h;refine wpAny_Call_Name_kw (a2p' I hg hm ?_ hdb);refine PySem.W.callWith_K (h₀:=X.base) I.ok.mod.kin hk (thn (ha pos pq s σ H _ I h) λus s1 ⟨vs,H1,I1,r,q⟩=>⟨I1.kIn,?_⟩) he hpl;exact run_fn F hr hb hd hx I1 r q
end
section
variable {X:Cx}{CX:CXT}{fd:FuncData}{ks:Ls}{sp:Sp}{E:XK}{x m:Str}{p pos kpos:Pos}{o:Expr}{kws:List Keyword}{te ta:TE}{t tk:TA}{nm:Option Str}
variable {g:Lv→Lv→Lv}{gV:List V→List V→List V}
end
structure FnScope (N P:Ls)(sc:Scope):Prop where
 kind:sc.kind=.function
 co:sc.isCoroutine=false
 gen:sc.isGenerator=false
 nd:N.Nodup
 pre:N.take P.length=P
 par:∀x∈P,sc.names.lookup x=some .local∨sc.names.lookup x=some .cell
 nofree:∀y∈sc.names,y.2≠.free
theorem a3X'{kindOf:Str→Option NameKind}{x:Str}:∀{binds:List (Str×Value)} {m:Mg},(∀v,(x,v)∉binds)→bindL kindOf binds m x=m x
 | [],_,_=>rfl
 | (n,v)::r,m,h=>by
  unfold bindL;rw[a3X' λw hw=>h w (Zb _ hw)];split
  ·have:x≠n:=by rintro rfl;exact h v Zc
   simp[this]
  ·rfl
theorem a3Y'{kindOf:Str→Option NameKind}{x:Str}:∀{binds:List (Str×Value)} {m:Mg},(∀v,(x,v)∉binds)→bindC kindOf binds m x=m x
 | [],_,_=>rfl
 | (n,v)::r,m,h=>by
  unfold bindC;rw[a3Y' λw hw=>h w (Zb _ hw)];split
  ·rfl
  ·have:x≠n:=by rintro rfl;exact h v Zc
   simp[this]
theorem a3Z'{kindOf:Str→Option NameKind}{x:Str}{v:Value}:∀{P:Ls} {vs:Lv} {i:Nat} {m:Mg},P.Nodup→P[i]?=some x→vs[i]?=some v→kindOf x=some .local→
  bindL kindOf (P.zip vs) m x=some v
 | [],_,_,_,_,h,_,_=>by simp at h
 |_::_,[],_,_,_,_,h,_=>by simp at h
 |p::P,w::vs,0,m,nd,h1,h2,hk=>by simp at h1 h2;subst h1;subst h2;show bindL kindOf ((p,w)::P.zip vs) m p=_;unfold bindL;rw[a3X' λv hv=>(List.nodup_cons.mp nd).1 (List.of_mem_zip hv).1,if_pos hk];simp
 |p::P,w::vs,i+1,m,nd,h1,h2,hk=>by show bindL kindOf ((p,w)::P.zip vs) m x=_;unfold bindL;exact a3Z' (i:=i) (List.nodup_cons.mp nd).2 (by simpa using h1) (by simpa using h2) hk
theorem a4a'{kindOf:Str→Option NameKind}{x:Str}{v:Value}:∀{P:Ls} {vs:Lv} {i:Nat} {m:Mg},P.Nodup→P[i]?=some x→vs[i]?=some v→kindOf x≠some .local→
  bindC kindOf (P.zip vs) m x=some v
 | [],_,_,_,_,h,_,_=>by simp at h
 |_::_,[],_,_,_,_,h,_=>by simp at h
 |p::P,w::vs,0,m,nd,h1,h2,hk=>by simp at h1 h2;subst h1;subst h2;show bindC kindOf ((p,w)::P.zip vs) m p=_;unfold bindC;rw[a3Y' λv hv=>(List.nodup_cons.mp nd).1 (List.of_mem_zip hv).1,if_neg hk];simp
 |p::P,w::vs,i+1,m,nd,h1,h2,hk=>by show bindC kindOf ((p,w)::P.zip vs) m x=_;unfold bindC;exact a4a' (i:=i) (List.nodup_cons.mp nd).2 (by simpa using h1) (by simpa using h2) hk
def start(N:Ls)(vs:List V):St:=vs.map some++List.replicate (N.length-vs.length) none
def cxOf(CX:CXT)(P:Program)(w:World)(K:Fg)(mg:Mg)(base:Heap)(N:Ls)(qual:Str)(scope:Scope)(f:Addr)(cd:Value)(A:Around)(outer:List Env)(s:Shared)(H:Hp)(E:XK):Cx where
 prog:=P
 w:=w
 K:=K
 mg:=mg
 base:=base
 A:=A.deeper (envOfC qual scope s.heap.objs.size f cd)
 N:=N
 s₀:=s
 H₀:=H
 env:=envOfC qual scope s.heap.objs.size f cd
 outer:=outer
 stack:=envOfC qual scope s.heap.objs.size f cd::outer
 ex:=[]
 calm:=true
 fn:=λ_=>true
 pn:=[]
 xe:=λe s'=>wpAny (model P w) (A.deeper (envOfC qual scope s.heap.objs.size f cd)) (leaving (envOfC qual scope s.heap.objs.size f cd) e) (λ_ s''=>CX outer H s E e s'') (λe' s''=>CX outer H s E e' s'') s'
theorem a5j'{sc:Scope}{x:Str}(h:sc.names.lookup x=some .cell):∃c,(cellsFrom n sc.names []).lookup x=some c:=by have q:=PySem.W.cellsFrom_some sc.names n [] (.inl h);exact Option.isSome_iff_exists.mp q
theorem a4b'{CX:CXT}{s1:Shared}{H:Hp}{E:XK}{vs:List V}
  (S:FnScope N ps scope) (hd:A.handled=none) (e0:Env0 P w K mg base A outer s H) (hl:vs.length=ps.length) (r:Vals vs us)
  (x:InCallC s s.heap.objs.size (bindL (envOfC qual scope s.heap.objs.size f cd).kindOf (ps.zip us) λ_=>none) (cellsFrom (s.heap.objs.size+1) scope.names []) (bindC (envOfC qual scope s.heap.objs.size f cd).kindOf (ps.zip us) λ_=>none) s1):
  Inv (cxOf CX P w K mg base N qual scope f cd A outer s H E) [] (start N vs) H s1:=by
 have hpl:ps.length≤N.length:=by have:=congrArg List.length S.pre;rw[ZN]at this;omega
 obtain⟨h1,tk,rfl,hk⟩:=x.done;have noA:∀b:Addr,b∉(cxOf CX P w K mg base N qual scope f cd A outer s H E).ex:=λb z=>absurd (show b∈([]:La)from z) (by simp)
 refine⟨⟨e0.mod,S.kind,rfl,rfl,Zi _,λy z c h1 h2=>?_,λy hy=>?_,λy c _ h=>?_,λ_=>hd,Around.frames_deeper e0.frames,.inr ⟨rfl,rfl⟩,λb z=>absurd z (noA b),e0.bs,e0.bsz,λb _ _=>noA b,λb z=>absurd z (noA b),e0.funs,e0.frf⟩,
  rfl,e0.bare,Un.kept hk,⟨_,x.toInCall.ns,λi y v h1 h2 h3=>?_⟩,λy c h=>⟨_,x.cell y c h⟩,e0.hok.fresh (Zi _),λy c h=>?_,λp hp=>absurd (show p∈([]:Lp)from hp) (by simp),e0.hok.kept hk,?_⟩
 ·exact name_of_addr x.apart (Zx h1) (Zx h2)
 ·have hy:scope.names.lookup y=some .cell∨scope.names.lookup y=some .free:=hy;rcases hy with hy|hy
  ·exact a5j' hy
  ·exact absurd rfl (S.nofree _ (Zx hy))
 ·exact Nat.le_of_lt (x.above y c (Zx h))
 ·have hi:i<vs.length:=by
   unfold start at h2;by_cases hi:i<vs.length
   ·exact hi
   ·rw[Zr (by simpa using hi)]at h2;rw[List.getElem?_replicate]at h2;split at h2<;>cases h2
  have ha:vs[i]?=some v:=by
   unfold start at h2;rw[Zm (by simpa using hi),ZQ]at h2;cases e:vs[i]? with
   |none=>rw[e]at h2;cases h2
   |some a=>rw[e]at h2;cases h2;rfl
  obtain⟨u,hu,rv⟩:=r.get ha;have hp:ps[i]?=some y:=by rw[←S.pre,List.getElem?_take_of_lt (by omega)];exact h1
  have ndP:ps.Nodup:=by rw[←S.pre];exact S.nd.sublist (List.take_sublist _ _)
  refine⟨u,rv,?_⟩;rcases S.par y (Zw hp)with k|k
  ·exact .inl ⟨k,a3Z' ndP hp hu k⟩
  ·obtain⟨c,e⟩:=a5j' (n:=s.heap.objs.size+1) k;refine .inr ⟨.inl k,c,e,?_⟩;have q:=x.cell y c e;rw[a4a' ndP hp hu (by show scope.names.lookup y≠_;rw[k];decide)]at q;exact q
 ·exact e0.hok.fresh (Nat.le_of_lt (x.above y c (Zx h)))
 ·unfold start;show _=N.length;rw[ZI,List.length_map,List.length_replicate];omega
theorem fn_of{CX:CXT}{params:Arguments}{body:List Stmt}{dV kV:Value}{an:Option Addr}
    {sp:Sp} (lk:K.lookup f=some ⟨oc,od,.func (PySem.W.fnOf name qual params body scope dV kV doc pm an cdv ct),osl⟩) (hcd:PySem.W.codeIn K cdv qual=true) (S:FnScope N ps scope)
  (len:∀vs H Q E,sp vs H Q E→vs.length=ps.length)
  (hbody:∀(A:Around) (outer:List Env) (s:Shared) (H:Hp) (vs:List V) (Q:VK) (E:XK),Room k (A.deeper (envOfC qual scope s.heap.objs.size f cdv))→sp vs H Q E→
   ∃t,PSs (cxOf CX P w K mg base N qual scope f cdv A outer s H E) body t∧t {nx:=λ_ H'=>Q .non H',rt:=Q} (start N vs) H):
  FnOk P w K mg base CX (k+1) f (PySem.W.fnOf name qual params body scope dV kV doc pm an cdv ct) ps sp:=by
 refine⟨len,λA outer s H args us vs Q E hr e0 hb r hsp=>?_⟩;have hl:=len _ _ _ _ hsp;have KX:K.In s.heap:=e0.mod.kin.keeps λb o e=>(e0.bs b o e).1;have lim:s.heap.NoLimit:=e0.mod.nolimit.keeps λb o e=>(e0.bs b o e).1
 have hkind:∀y∈ps.zip us,scope.names.lookup y.1=some .local∨(scope.names.lookup y.1=some .cell∧((cellsFrom (s.heap.objs.size+1) scope.names []).lookup y.1).isSome=true):=λ⟨n,v⟩ hy=>by
  rcases S.par n (List.of_mem_zip hy).1 with q|q
  ·exact .inl q
  ·exact .inr ⟨q,PySem.W.cellsFrom_some _ _ _ (.inl q)⟩
 refine codeAny_call_function hr.depth (KX _ _ lk) rfl S.co S.gen rfl (PySem.W.codeRec_of KX hcd) (hb _ _ _ _ ?_);refine wpAny_newFunctionEnv_cells S.kind hkind λenv he s1 x=>?_;subst he;refine⟨lim.keeps x.toInCall.keep,codeAny_func ?_⟩;obtain⟨t,ht,hq⟩:=hbody A outer s H vs Q E (hr.deeper _) hsp;have I:Inv (cxOf CX P w K mg base N qual scope f cdv A outer s H E) [] (start N vs) H s1:=a4b' S hr.hd e0 hl r x;refine ZV (ht [] s1 (start N vs) H _ I hq) (λfl s' hs=>?_) λe s' hs=>hs
 have fin:∀{σ':St} {H':Hp} {v:V} {u:Value},Inv (cxOf CX P w K mg base N qual scope f cdv A outer s H E) [] σ' H' s'→RelV v u→Q v H'→CE outer P w H s Q u s':=
  λ{σ' H' v u} J rv q=>⟨v,H',J.os,J.bare,J.base,J.hok,rv,q⟩
 cases fl with
 |ret u=>obtain⟨v,σ',H',J,rv,q⟩:=hs;exact fin J rv q
 |next=>obtain⟨σ',H',J,q⟩:=hs;exact fin (v:=V.non) (u:=Value.none) J rfl q
 |brk=>obtain⟨_,_,_,q⟩:=hs;exact False.elim q
 |cont=>obtain⟨_,_,_,q⟩:=hs;exact False.elim q
section
variable {X:Cx}{x:Str}{p pos:Pos}{t:TA}{id:String}{r:List V→Hp→VK→Prop}
def tCB(r:List V→Hp→VK→Prop)(t:TA):TE:=λσ H Q=>t σ H λvs H1=>r vs H1 Q
theorem a3y'(hc:CallR X (.builtin id) r)(hg:Gl X x)(hm:X.mg x=none)(hv:bootBuiltins x=some (.builtin id))(ha:PA X (e::es) t)(hn:x≠"__name__":=by decide)(hdb:(x==("__debug__":Str))=false:=by decide)
  (he:starEach (e::es) X.env=(false,eval e X.env)::starEach es X.env:=by rfl) (hpl:(backTo pos (starEach es X.env)).any (·.1)=false:=by rfl):PE X (.Call (.Name x p) (e::es) [] pos) (tCB r t):=by
 intro pq s σ H Q I h;refine wpAny_Call_Name_kw (a4B' I hg hm hv ?_ hn hdb);exact PyProof.Rows.callWith_builtin1 (thn (ha pos pq s σ H _ I h) λus s1 ⟨vs,H1,I1,r1,q1⟩=>hc pq s1 σ H1 vs us Q I1 r1 q1) he hpl
theorem a2C'(hc:CallR X (.type T) r)(hg:Gl X x)(hm:X.mg x=none)(hv:bootBuiltins x=some (.type T))(ha:PA X (e::es) t)(hn:x≠"__name__":=by decide)(hdb:(x==("__debug__":Str))=false:=by decide)
  (he:starEach (e::es) X.env=(false,eval e X.env)::starEach es X.env:=by rfl) (hpl:(backTo pos (starEach es X.env)).any (·.1)=false:=by rfl):PE X (.Call (.Name x p) (e::es) [] pos) (tCB r t):=by
 intro pq s σ H Q I h;refine wpAny_Call_Name_kw (a4B' I hg hm hv ?_ hn hdb);exact PyProof.Rows.callWith_type1 (thn (ha pos pq s σ H _ I h) λus s1 ⟨vs,H1,I1,r1,q1⟩=>hc pq s1 σ H1 vs us Q I1 r1 q1) he hpl
end
end L2
namespace HT
section
open PySem.SeqAt
open PySem.AutoSeq1 (wpAny_loadPart')
open PySem.MeetsSeq PySem.MeetsSeq2 PySem.MeetsSeq3
end
theorem cat_tup{t b:Addr}{vs ws:Lv}(ht:IsTup s.heap t vs.toArray)(hb:IsTup s.heap b ws.toArray)(hv:vs≠[])
  (h1:ws=[]→Q (.ref t) s) (h2:ws≠[]→Q (.ref s.heap.objs.size) {s with heap:=s.heap.push {cls:=.type "tuple",data:=.seq (vs++ws).toArray}})
  (hsz:vs.length+ws.length≤sizeLine):wpAny (model prog w) A (binaryOp .Add (.ref t) (.ref b)) Q E s:=by
 obtain⟨⟨cls,dd,data,sl⟩,ho,hc,n,hd⟩:=id ht;obtain⟨⟨cls2,dd2,data2,sl2⟩,ho2,hc2,n2,hd2⟩:=id hb;simp only at hc hd hc2 hd2;subst hc hd hc2 hd2;have e:vs.toArray++ws.toArray=(vs++ws).toArray:=by simp
 by_cases hw:ws=[]
 ·exact concat_meets ⟨_,ho,rfl⟩ ⟨_,ho2,rfl⟩ noFill_tuple_add seq_tuple_add PySem.F.slot_tuple_add PySem.F.entry_tuple_add (PySem.F.args_tuple_add_2 _ _)
   (tuple_addW1 t b vs.toArray ws.toArray n n2 dd dd2 sl sl2 (by simpa using hv) (by simp[hw])) ⟨ho,ho2,h1 hw⟩
 ·refine concat_meets ⟨_,ho,rfl⟩ ⟨_,ho2,rfl⟩ noFill_tuple_add seq_tuple_add PySem.F.slot_tuple_add PySem.F.entry_tuple_add (PySem.F.args_tuple_add_2 _ _)
   (tuple_addW2 t b vs.toArray ws.toArray n n2 dd dd2 sl sl2 (by simpa using hv) (by simpa using hw) (by rw[Zf,Zf];exact hsz)) ⟨ho,ho2,?_⟩
  rw[e];exact h2 hw
def sIx(n d:Nat):Option Int→Nat
 |none=>d
 |some v=>if v<0 then(v+(n:Int)).toNat else min v.toNat n
theorem sIx_le(n d:Nat)(hd:d≤n)(o:Option Int):sIx n d o≤n:=by
 cases o with
 |none=>exact hd
 |some v=>
  show(if v<0 then(v+(n:Int)).toNat else min v.toNat n)≤n;by_cases hv:v<0
  ·rw[if_pos hv];omega
  ·rw[if_neg hv];exact Nat.min_le_right _ _
theorem a7y'(v:Int)(n d:Nat):(if v<0 then max (v+(n:Int)) 0 else min v (n:Int))=((sIx n d (some v):Nat):Int):=by
 show(if v<0 then max (v+(n:Int)) 0 else min v (n:Int))=(((if v<0 then(v+(n:Int)).toNat else min v.toNat n):Nat):Int);by_cases hv:v<0
 ·simp only[if_pos hv];omega
 ·simp only[if_neg hv];omega
theorem a5k'(lo hi:Option Int)(n:Nat):Builtin.Slice.sliceAdjust lo hi 1 (n:Int)=(((sIx n 0 lo:Nat):Int),((sIx n n hi:Nat):Int)):=by
 have h1:¬((1:Int)<0):=by omega
 unfold Builtin.Slice.sliceAdjust;simp only[h1,if_false];refine Prod.ext ?_ ?_
 ·cases lo with
  |none=>rfl
  |some v=>exact a7y' v n 0
 ·cases hi with
  |none=>rfl
  |some v=>exact a7y' v n n
theorem a5l'(i j:Nat):Builtin.Slice.slicePlaces (i:Int) (j:Int) 1=j-i:=by
 unfold Builtin.Slice.slicePlaces;have h1:(1:Int)>0:=by omega
 simp only[h1,if_true,Int.ediv_one];split<;>omega
theorem a2T'{v:Value}{o:Option Int}{Q:Option Int→Shared→Prop}(p:IsPart v o)(h:Q o s):wpAny (model prog w) A (Builtin.Slice.slicePartIndex v) Q E s:=by
 cases p with
 |none=>exact slicePart_none h
 |int i t=>exact slicePart_int h
theorem a0W'{lo:Option Int}{Q:Int×Int×Nat→Shared→Prop}(hs:s.heap.IsSliceOf sl vl vu .none)(pl:IsPart vl lo)(pu:IsPart vu hi)
  (h:Q (((sIx n 0 lo:Nat):Int),1,sIx n n hi-sIx n 0 lo) s):wpAny (model prog w) A (Builtin.Slice.sliceApplied (.ref sl) (pure (n:Int))) Q E s:=by
 obtain⟨os,hos,hcs,hds⟩:=id hs;unfold Builtin.Slice.sliceApplied Builtin.Slice.sliceFields;refine Za (Za (ZX hos hds (x:=vl) rfl (Za (ZX hos hds (x:=vu) rfl (Za (ZX hos hds (x:=.none) rfl (Zg ?_)))))));refine Za (slicePart_none ?_);show wpAny _ _ (if((1:Int)==0)=true then _ else _) _ _ s;rw[if_neg (by decide)];refine Za (a2T' pl (Za (a2T' pu (Za (Zg ?_)))));show wpAny _ _ (match Builtin.Slice.sliceAdjust lo hi 1 (n:Int)with| (lo,hi)=>pure (lo,(1:Int),Builtin.Slice.slicePlaces lo hi 1)) _ _ s;rw[a5k' lo hi n];show wpAny _ _ (pure (((sIx n 0 lo:Nat):Int),(1:Int),Builtin.Slice.slicePlaces ((sIx n 0 lo:Nat):Int) ((sIx n n hi:Nat):Int) 1)) _ _ s;rw[a5l'];exact Zg h
theorem a8h'(xs:Av)(i k:Nat):((List.range k).filterMap λ(m:Nat)=>xs[((i:Int)+(m:Int)*1).toNat]?).toArray=((xs.toList.drop i).take k).toArray:=by
 have e:(λ(m:Nat)=>xs[((i:Int)+(m:Int)*1).toNat]?)=λm=>xs[i+m]? :=by
  funext m;have:((i:Int)+(m:Int)*1).toNat=i+m:=by omega
  rw[this]
 rw[e];have:=pick_run xs i k;rw[List.filterMap_map]at this;have e2:((λx=>xs[x]?)∘λx=>i+x)=λm=>xs[i+m]? :=rfl;rw[e2]at this;rw[this]
theorem a1M'{t:Addr}{lo:Option Int}(ht:IsTup s.heap t items)(hs:s.heap.IsSliceOf sl vl vu .none)(pl:IsPart vl lo)(pu:IsPart vu hi)
  (hw:¬(sIx items.size 0 lo=0∧sIx items.size items.size hi=items.size))
  (h:Q (.ref s.heap.objs.size) {s with heap:=s.heap.push {cls:=.type "tuple",data:=.seq ((items.toList.drop (sIx items.size 0 lo)).take (sIx items.size items.size hi-sIx items.size 0 lo)).toArray}})
  (hsz:items.size≤sizeLine):wpAny (model prog w) A (getItem (.ref t) (.ref sl)) Q E s:=by
 have htake:sizeOk (.seq ((items.toList.drop (sIx items.size 0 lo)).take (sIx items.size items.size hi-sIx items.size 0 lo)).toArray):=by show((items.toList.drop (sIx items.size 0 lo)).take (sIx items.size items.size hi-sIx items.size 0 lo)).toArray.size≤sizeLine;rw[Zf,ZN,List.length_drop,Zu];omega
 have hj:sIx items.size items.size hi≤items.size:=sIx_le _ _ (Zi _) hi;obtain⟨os,hos,hcs,hds⟩:=id hs;have hTs:s.TypeIs (.ref sl) "slice":=⟨os,hos,hcs⟩;unfold getItem
 try with_reducible refine wpAny_holding ?_
 first|refine Za (Zg ?_)|skip
 refine Za (wpAny_sequenceKey ht.typeIs (by decide) ?_)
 refine Za (wpAny_callSpecial?_slot (name:=Str.ofString "__getitem__") ht.typeIs PyProof.Rows.slot_tuple_getitem
  (wpAny_call_entry PyProof.Rows.slot_tuple_getitem ht.typeIs entry_tuple_getitem ?_ (args_tuple_getitem _ _)))
 show wpAny _ _ (Builtin.Tuple.tupleItemsOf (.ref t)>>=_) _ _ s;refine Za (tupleItemsOf_ ht ?_);refine Za (wpAny_typeOf hTs ?_);rw[if_pos (by decide)];refine Za (a0W' hs pl pu ?_);have hno:¬((((sIx items.size 0 lo:Nat):Int)==0&&(1:Int)==1&&(sIx items.size items.size hi-sIx items.size 0 lo)==items.size)=true):=by intro q;rw[ZA,ZA]at q;have q1:((sIx items.size 0 lo:Nat):Int)=0:=ZT q.1.1;have q2:sIx items.size items.size hi-sIx items.size 0 lo=items.size:=ZT q.2;exact hw ⟨by omega,by omega⟩
 show wpAny _ _ (if(((sIx items.size 0 lo:Nat):Int)==0&&(1:Int)==1&&(sIx items.size items.size hi-sIx items.size 0 lo)==items.size)=true then _ else _) _ _ s;rw[if_neg hno,a8h']
 first
  |exact Za (m:=Builtin.Tuple.tupleExact _) (wpAny_newObj_type (Zg ⟨_,rfl,Zg h⟩) htake)
  |exact Za (m:=Builtin.Tuple.tupleExact _) (wpAny_newObj_type (Za (Zg (Zg ⟨_,rfl,Zg h⟩))) htake)
  |exact Za (Za (m:=Builtin.Tuple.tupleExact _) (wpAny_newObj_type (Zg (Zg ⟨_,rfl,Zg h⟩)) htake))
  |exact Za (Za (m:=Builtin.Tuple.tupleExact _) (wpAny_newObj_type (Zg ⟨_,rfl,Zg h⟩) htake))
end HT
namespace L2
abbrev TO:=St→Hp→(Option Int→Hp→Prop)→Prop
def PO(X:Cx)(e:Option Expr)(t:TO):Prop:=
 ∀(pq:Lp) (s:Shared) (σ:St) (H:Hp) (Q:Option Int→Hp→Prop),Inv X pq σ H s→t σ H Q→
  wpAny (model X.prog X.w) X.A (evalPart e X.env) (λu s'=>∃o H',Inv X pq σ H' s'∧IsPart u o∧Q o H') X.xe s
def tNoPart:TO:=λ_ H Q=>Q none H
def tPart(t:TE):TO:=λσ H Q=>t σ H λx H1=>∃i,x=.int i∧Q (some i) H1
section
variable {X:Cx}{te:TE}{lo hi:Option Expr}{tl th:TO}{pos:Pos}
theorem po_none:PO X none tNoPart:=by intro pq s σ H Q I h;rw[evalPart_none];exact Zg ⟨none,H,I,.none,h⟩
theorem po_some(h:PE X e te):PO X (some e) (tPart te):=by intro pq s σ H Q I hw;rw[evalPart_some];refine thn (h pq s σ H _ I hw) λu s1 ⟨x,H1,I1,r1,q1⟩=>?_;obtain⟨i,rfl,q⟩:=q1;obtain⟨t,rfl⟩:=r1;exact⟨some i,H1,I1,.int i t,q⟩
def SlR(X:Cx)(r:V→Option Int→Option Int→Hp→VK→Prop):Prop:=
 ∀(pq:Lp) (s:Shared) (σ:St) (H:Hp) (x:V) (v vl vu:Value) (lo hi:Option Int) (sl:Addr) (Q:VK),Inv X pq σ H s→RelV x v→s.heap.IsSliceOf sl vl vu .none→IsPart vl lo→IsPart vu hi→r x lo hi H Q→
  ∃T id,typeLookup (.type T) "__getitem__"=pure (some (.builtin id))∧s.TypeIs v T∧wpAny (model X.prog X.w) X.A (getItem v (.ref sl)) (EP X pq σ Q) X.xe s
def tSl(r:V→Option Int→Option Int→Hp→VK→Prop)(te:TE)(tl th:TO):TE:=λσ H Q=>te σ H λx H1=>tl σ H1 λl H2=>th σ H2 λu H3=>r x l u H3 Q
theorem a8i'{r:V→Option Int→Option Int→Hp→VK→Prop}(hr:SlR X r)(he:PE X e te)(hl:PO X lo tl)(hu:PO X hi th):PE X (.Subscript e (.Slice lo hi none p2) pos) (tSl r te tl th):=by intro pq s σ H Q I h;refine Subscript_ (thn (he pq s σ H _ I h) λv s1 ⟨x,H1,I1,r1,q1⟩=>?_);refine wpAny_Slice (thn (hl pq s1 σ H1 _ I1 q1) λvl s2 ⟨l,H2,I2,pl,q2⟩=>thn (hu pq s2 σ H2 _ I2 q2) λvu s3 ⟨u,H3,I3,pu,q3⟩=>?_);rw[evalPart_none];refine Zg ?_;have I4:Inv X pq σ H3 {s3 with heap:=s3.heap.push {cls:=.type "slice",data:=.fields #[vl,vu,.none]}}:=I3.kept (t':=s3.toks) λb ob q=>Zd _ q;obtain⟨T,id,hT,ht,hg⟩:=hr pq {s3 with heap:=s3.heap.push {cls:=.type "slice",data:=.fields #[vl,vu,.none]}} σ H3 x v vl vu l u s3.heap.objs.size Q I4 r1 (Heap.IsSliceOf.new ..) pl pu q3;show wpAny (model X.prog X.w) X.A (subscriptTail e (.Slice lo hi none p2) v (.ref s3.heap.objs.size)) (EP X pq σ Q) X.xe {s3 with heap:=s3.heap.push {cls:=.type "slice",data:=.fields #[vl,vu,.none]}};exact tail_any (ops:=[.ref s3.heap.objs.size,v]) ht hT hg (by with_unfolding_all rfl)
def cutV(xs:List V)(lo hi:Option Int):List V:=(xs.drop (HT.sIx xs.length 0 lo)).take (HT.sIx xs.length xs.length hi-HT.sIx xs.length 0 lo)
theorem a2q'(xs:List V)(lo hi:Option Int):(cutV xs lo hi).length≤xs.length:=by unfold cutV;rw[ZN,List.length_drop];omega
def rSlT(K:Fg):V→Option Int→Option Int→Hp→VK→Prop:=λx lo hi H Q=>∃a xs,x=.ref a∧SqT K H a xs∧
 ¬(HT.sIx xs.length 0 lo=0∧HT.sIx xs.length xs.length hi=xs.length)∧∀p,H p=none→Q (.ref p) (upd H p (.tup (cutV xs lo hi)))
theorem sl_tup:SlR X (rSlT X.K):=by
 intro pq s σ H x v vl vu lo hi sl Q I rx hs pl pu h;obtain⟨a,xs,rfl,hx,hw,q⟩:=h;cases rx;obtain⟨its,r,ht,hz⟩:=I.tuple hx;have hlen:its.toArray.size=xs.length:=by rw[Zf];exact r.length.symm
 refine⟨"tuple",_,PyProof.Rows.slot_tuple_getitem.lookup,ht.typeIs,?_⟩;refine HT.a1M' ht hs pl pu (by rw[hlen];exact hw) ?_ (by rw[hlen];exact hz);rw[hlen];refine⟨.ref s.heap.objs.size,_,I.laid (t':=s.toks) (o:=.tup (cutV xs lo hi)) (λb ob q=>Zd _ q) (Zi _) ?_,rfl,q _ (I.hok.fresh (Zi _))⟩;exact⟨ZE (a2q' xs lo hi) hz,_,(r.drop (HT.sIx xs.length 0 lo)).take (HT.sIx xs.length xs.length hi-HT.sIx xs.length 0 lo),IsTup.new _ _,NoD.new _ _⟩
def rCatT(K:Fg):R2:=λx y H Q=>∃a b xs ys,x=.ref a∧y=.ref b∧SqT K H a xs∧SqT K H b ys∧xs≠[]∧xs.length+ys.length≤sizeLine∧
 (ys=[]→Q (.ref a) H)∧(ys≠[]→∀p,H p=none→Q (.ref p) (upd H p (.tup (xs++ys))))
theorem Vals.nil_iff{xs:List V}(r:Vals xs us):us=[]↔xs=[]:=by
 cases r with
 |nil=>simp
 |cons _ _=>simp
theorem op_catT:OpR X (binaryOp .Add) (rCatT X.K):=by intro pq s σ H x y v u Q I rx ry h;obtain⟨a,b,xs,ys,rfl,rfl,ha,hb,hx,hz,q1,q2⟩:=h;cases rx;cases ry;obtain⟨its,r1,p1,_⟩:=I.tuple ha;obtain⟨its2,r2,p2,_⟩:=I.tuple hb;refine HT.cat_tup p1 p2 (λz=>hx (r1.nil_iff.mp z)) (λz=>⟨.ref a,H,I,rfl,q1 (r2.nil_iff.mp z)⟩) (λz=>?_) (by rw[←r1.length,←r2.length];exact hz);refine⟨.ref s.heap.objs.size,_,I.laid (t':=s.toks) (o:=.tup (xs++ys)) (λb ob q=>Zd _ q) (Zi _) ?_,rfl,q2 (λw=>z (r2.nil_iff.mpr w)) _ (I.hok.fresh (Zi _))⟩;exact⟨by rw[ZI];exact hz,_,r1.append r2,IsTup.new _ _,NoD.new _ _⟩
end
def ixN(n:Nat)(i:Int):Option Nat:=if 0≤i then(if i<n then some i.toNat else none)else if-(n:Int)≤i then some (i+n).toNat else none
def atI{α:Type}(xs:List α)(i:Int):Option α:=(ixN xs.length i).bind λj=>xs[j]?
theorem a7z'{i:Int}{j:Nat}(h:ixN n i=some j):seqIndex? i n=some j∧j<n∧-(n:Int)≤i∧i<n:=by
 unfold ixN at h;by_cases h0:0≤i
 ·rw[if_pos h0]at h;by_cases h1:i<n
  ·rw[if_pos h1]at h;have e:i.toNat=j:=ZL h;exact⟨by rw[seqIndex_of h0 h1,e],by omega,by omega,h1⟩
  ·rw[if_neg h1]at h;cases h
 ·rw[if_neg h0]at h;by_cases h1: -(n:Int)≤i
  ·rw[if_pos h1]at h;have e:(i+n).toNat=j:=ZL h;exact⟨by rw[seqIndex_neg (by omega) h1,e],by omega,h1,by omega⟩
  ·rw[if_neg h1]at h;cases h
theorem a7A'{xs:List α}{i:Int}{v:α}(h:atI xs i=some v):∃j,seqIndex? i xs.length=some j∧xs[j]?=some v∧j<xs.length∧-(xs.length:Int)≤i∧i<xs.length:=by
 unfold atI at h;cases e:ixN xs.length i with
 |none=>rw[e]at h;cases h
 |some j=>rw[e]at h;obtain⟨h1,h2,h3,h4⟩:=a7z' e;exact⟨j,h1,h,h2,h3,h4⟩
def a7B'(b:Expr):Prop:=∀o i,subscripted b false o i=operate [o,i] (getItem o i)
def IxR(X:Cx)(r:R2):Prop:=
 ∀(value slice:Expr) (pq:Lp) (s:Shared) (σ:St) (H:Hp) (x y:V) (v u:Value) (Q:VK),Inv X pq σ H s→RelV x v→RelV y u→r x y H Q→
  subscripted slice false v u=operate [v,u] (getItem v u)→wpAny (model X.prog X.w) X.A (subscriptTail value slice v u) (EP X pq σ Q) X.xe s
def MtR(X:Cx)(id:String)(r:V→List V→Hp→VK→Prop):Prop:=
 ∀(pq:Lp) (s:Shared) (σ:St) (H:Hp) (x:V) (xs:List V) (v:Value) (us:Lv) (Q:VK),Inv X pq σ H s→RelV x v→Vals xs us→r x xs H Q→
  wpAny (model X.prog X.w) X.A (call (.builtin id) (v::us)) (EP X pq σ Q) X.xe s
section
variable {X:Cx}{a b:Expr}{ta tb:TE}{pos:Pos}
theorem pe_ix{r:R2}(hr:IxR X r)(ha:PE X a ta)(hb:PE X b tb)(hs:a7B' b):PE X (.Subscript a b pos) (tOp r ta tb):=by intro pq s σ H Q I h;exact Subscript_ (binT ha hb I h λv u s2 x y H2 I2 rx ry q=>hr a b pq s2 σ H2 x y v u Q I2 rx ry q (hs _ _))
def rIxL(K:Fg):R2:=λx y H Q=>∃p xs i v,x=.ref p∧y=.int i∧SqL K H p xs∧atI xs i=some v∧Q v H
def rIxT(K:Fg):R2:=λx y H Q=>∃p xs i v,x=.ref p∧y=.int i∧SqT K H p xs∧atI xs i=some v∧Q v H
theorem a5m':IxR X (rIxL X.K):=by
 intro value slice pq s σ H x y v u Q I rx ry h hs;obtain⟨p,xs,i,z,rfl,rfl,hq,he,q⟩:=h;cases rx;obtain⟨t,rfl⟩:=ry;obtain⟨its,r,pl,hz⟩:=I.list hq;obtain⟨j,h1,h2,h3,h4,h5⟩:=a7A' he;obtain⟨w,ew,rw'⟩:=r.get h2;have hl:=r.length;have hn:=a4D';have fin:EP X pq σ Q w s:=⟨z,H,I,rw',q⟩;by_cases h0:0≤i
 ·have hj:i.toNat=j:=by
   rw[seqIndex_of h0 h5]at h1;exact ZL h1
  exact item_listR pl.isList h0 (by omega) (by rw[hj];simpa using ew) fin hs
 ·have hj:(i+(its.toArray.size:Int)).toNat=j:=by
   rw[seqIndex_neg (by omega) h4]at h1;rw[Zf,←hl];exact ZL h1
  exact subscriptTail_builtinR (x:=w) pl.isList.typeIs slot_list_getitem.lookup
   (wpAny_getItem_list_neg (Q:=λr s'=>r=w∧EP X pq σ Q r s') pl.isList (by omega) (by rw[Zf]<;>omega) (by omega) (by rw[hj];simpa using ew) ⟨rfl,fin⟩) hs
theorem ix_tup:IxR X (rIxT X.K):=by
 intro value slice pq s σ H x y v u Q I rx ry h hs;obtain⟨p,xs,i,z,rfl,rfl,hq,he,q⟩:=h;cases rx;obtain⟨t,rfl⟩:=ry;obtain⟨its,r,pl,hz⟩:=I.tuple hq;obtain⟨j,h1,h2,h3,h4,h5⟩:=a7A' he;obtain⟨w,ew,rw'⟩:=r.get h2;have hl:=r.length;have hn:=a4D';have fin:EP X pq σ Q w s:=⟨z,H,I,rw',q⟩
 exact subscriptTail_builtinR (x:=w) pl.typeIs slot_tuple_getitem.lookup
  (getItem_tuple (j:=j) (Q:=λr s'=>r=w∧EP X pq σ Q r s') pl (by omega) (by omega) (by rw[Zf,←hl];exact h1) (by simpa using ew) ⟨rfl,fin⟩) hs
theorem a5n'(its:Lv)(n j:Nat)(u:Value):Obj.mapSeq (·.setIfInBounds j u) {cls:=.type "list",data:=.seq its.toArray n}={cls:=.type "list",data:=.seq (its.set j u).toArray n}:=by simp[Obj.mapSeq]
theorem Inv.lst{σ:St}{H:Hp}{p:Addr}{xs:List V}(I:Inv X pq σ H s)(h:H p=some (.lst xs)):
  ∃(its:Lv) (n:Nat),Vals xs its∧s.heap.get? p=some {cls:=.type "list",data:=.seq its.toArray n}∧xs.length≤sizeLine:=by
 obtain⟨z,its,n,r,e⟩:=I.hok p _ h;exact⟨its,n,r,e,z⟩
theorem Inv.lstUpd{σ:St}{H:Hp}{p:Addr}{xs ys:List V}{its its':Lv}{n n':Nat}{f:Obj→Obj}(I:Inv X pq σ H s)(h:H p=some (.lst xs))
  (ho:s.heap.get? p=some {cls:=.type "list",data:=.seq its.toArray n}) (hf:f {cls:=.type "list",data:=.seq its.toArray n}={cls:=.type "list",data:=.seq its'.toArray n'}) (r:Vals ys its') (hz:ys.length≤sizeLine) (t:Nat):
  Inv X pq σ (upd H p (.lst ys)) {s with heap:=s.heap.update p f,toks:=t}:=by
 have e:(s.heap.update p f).get? p=some {cls:=.type "list",data:=.seq its'.toArray n'}:=by rw[Heap.get?_update_self f ho (by rw[hf]<;>rfl),hf]
 refine I.write (x:=p) (e:=p) (by rw[h];trivial) (.inl rfl) (λb u hb q=>(Heap.get?_update_other _ _ (Ne.symm hb)).trans q) ⟨_,e⟩ ?_;exact⟨hz,its',n',r,e⟩
def rSetL:V→V→V→Hp→(Hp→Prop)→Prop:=λo i v H Q=>∃p xs k j,o=.ref p∧i=.int k∧H p=some (.lst xs)∧ixN xs.length k=some j∧Q (upd H p (.lst (xs.set j v)))
theorem a8j':PSet X rSetL:=by
 intro pq s σ H o i v ov iv u Q I ro ri rv h;obtain⟨p,xs,k,j,rfl,rfl,hp,hj,q⟩:=h;cases ro;obtain⟨t,rfl⟩:=ri;obtain⟨its,n,r,ho,hz⟩:=I.lst hp;obtain⟨h1,h2,h3,h4⟩:=a7z' hj;have hl:=r.length;have hn:=a4D'
 have I':Inv X pq σ (upd H p (.lst (xs.set j v))) {s with heap:=s.heap.update p (Obj.mapSeq (·.setIfInBounds j u))}:=
  I.lstUpd hp ho (a5n' its n j u) (r.set rv j) (by rw[List.length_set];exact hz) s.toks
 by_cases h0:0≤k
 ·have hk:k.toNat=j:=by
   rw[seqIndex_of h0 h4]at h1;exact ZL h1
  exact PySem.W.ki_setAt ho h0 (by omega) (by rw[Zf,←hl];exact h4) (by rw[hk];exact⟨_,I',q⟩)
 ·have hk:(k+(its.toArray.size:Int)).toNat=j:=by
   rw[seqIndex_neg (by omega) h3]at h1;rw[Zf,←hl];exact ZL h1
  exact PySem.W.ki_setBack ho (by omega) (by rw[Zf,←hl];exact h3) (by omega) (by rw[hk];exact⟨_,I',q⟩)
theorem a3z'(lo hi:Option Int)(n:Nat):(sliceBounds lo hi none n).1=((HT.sIx n 0 lo:Nat):Int)∧(sliceBounds lo hi none n).2.1=((HT.sIx n n hi:Nat):Int)∧(sliceBounds lo hi none n).2.2=1:=by
 refine⟨?_,?_,rfl⟩
 ·cases lo with
  |none=>simp[sliceBounds,HT.sIx]
  |some i=>
   simp only[sliceBounds,HT.sIx,Option.getD_none,show(1:Int)>0 by decide,if_true];by_cases h:i<0
   ·simp only[h,if_true]<;>omega
   ·simp only[h,if_false]<;>omega
 ·cases hi with
  |none=>simp[sliceBounds,HT.sIx]
  |some i=>
   simp only[sliceBounds,HT.sIx,Option.getD_none,show(1:Int)>0 by decide,if_true];by_cases h:i<0
   ·simp only[h,if_true]<;>omega
   ·simp only[h,if_false]<;>omega
theorem a2U'(its:Lv)(lo hi:Option Int):slicePick its.toArray lo hi none=((its.drop (HT.sIx its.length 0 lo)).take (HT.sIx its.length its.length hi-HT.sIx its.length 0 lo)).toArray:=by obtain⟨h1,h2,h3⟩:=a3z' lo hi its.toArray.size;unfold slicePick;rw[h1,h2,h3];simp only[sliceRange_one,pick_run,Zf]<;>rfl
def rSlL(K:Fg):V→Option Int→Option Int→Hp→VK→Prop:=λx lo hi H Q=>∃a xs,x=.ref a∧SqL K H a xs∧∀p,H p=none→Q (.ref p) (upd H p (.lst (cutV xs lo hi)))
theorem sl_list:SlR X (rSlL X.K):=by intro pq s σ H x v vl vu lo hi sl Q I rx hs pl pu h;obtain⟨a,xs,rfl,hx,q⟩:=h;cases rx;obtain⟨its,r,ht,hz⟩:=I.list hx;have hlen:=r.length;refine⟨"list",_,slot_list_getitem.lookup,ht.isList.typeIs,?_⟩;refine wpAny_getItem_list_slice ht.isList hs pl pu .none (by simp) ?_ (by rw[Zf]<;>omega);rw[a2U',←hlen];refine⟨.ref s.heap.objs.size,_,I.laid (t':=s.toks) (o:=.lst (cutV xs lo hi)) (λb ob q=>Zd _ q) (Zi _) ?_,rfl,q _ (I.hok.fresh (Zi _))⟩;exact⟨ZE (a2q' xs lo hi) hz,_,0,(r.drop (HT.sIx xs.length 0 lo)).take (HT.sIx xs.length xs.length hi-HT.sIx xs.length 0 lo),Zn _ rfl⟩
theorem a3A':CallR X (.builtin "len") (λxs H Q=>∃p ys,xs=[.ref p]∧(SqL X.K H p ys∨SqT X.K H p ys)∧Q (.int ys.length) H):=by
 intro pq s σ H xs us Q I r h;obtain⟨p,ys,rfl,hq,q⟩:=h;obtain⟨u,rfl,rx⟩:=vals1 r;cases rx;have hn:=a4D';rcases hq with hq|hq
 ·obtain⟨its,r',pl,hz⟩:=I.list hq;have hlen:=r'.length;exact Calls.call_len_list pl.isList (by simp only[Zf]<;>omega) ⟨.int ys.length,H,I.tok _,⟨s.toks+1,by rw[Zf,hlen]⟩,q⟩
 ·obtain⟨its,r',pl,hz⟩:=I.tuple hq;have hlen:=r'.length;exact len_tuple pl (by simp only[Zf]<;>omega) ⟨.int ys.length,H,I.tok _,⟨s.toks+1,by rw[Zf,hlen]⟩,q⟩
theorem a3B':CallR X (.builtin "len") (λxs H Q=>∃z,xs=[.str z]∧z.length≤sizeLine∧Q (.int z.length) H):=by intro pq s σ H xs us Q I r h;obtain⟨z,rfl,hz,q⟩:=h;obtain⟨u,rfl,t,rfl⟩:=vals1 r;have hn:=a4D';exact len_str (by omega) ⟨.int z.length,H,I.tok _,⟨_,rfl⟩,q⟩
theorem a1H':CallR X (.type "tuple") (λxs H Q=>∃p ys,xs=[.ref p]∧((SqL X.K H p ys∧∀l,H l=none→Q (.ref l) (upd H l (.tup ys)))∨(SqT X.K H p ys∧Q (.ref p) H))):=by
 intro pq s σ H xs us Q I r h;obtain⟨p,ys,rfl,h⟩:=h;obtain⟨u,rfl,rx⟩:=vals1 r;cases rx;rcases h with⟨hq,q⟩| ⟨hq,q⟩
 ·obtain⟨its,r',pl,hz⟩:=I.list hq;have hlen:=r'.length;refine call_tuple_list pl.isList (λh' kp=>?_) (by simp only[Zf]<;>omega);have I1:Inv X pq σ H {s with heap:=h'}:=I.kept (t':=s.toks) kp
  have I2:Inv X pq σ (upd H h'.objs.size (.tup ys)) {s with heap:=h'.push {cls:=.type "tuple",data:=.seq its.toArray}}:=
   I1.laid (t':=s.toks) (λb o e=>Zd _ e) (Zi _) (show ObjOk X.prog X.w _ _ _ (.tup ys)from⟨hz,its,r',IsTup.new _ _,NoD.new _ _⟩)
  exact⟨.ref h'.objs.size,_,I2,rfl,q _ (I1.hok.fresh (Zi _))⟩
 ·obtain⟨its,r',pl,hz⟩:=I.tuple hq;exact call_tuple_same pl ⟨.ref p,H,I,rfl,q⟩
def tyV(K:Fg)(T:String)(x:V)(H:Hp):Prop:=match x with
 | .str _=>T="str"
 | .int _=>T="int"
 | .ref p=>(T="list"∧∃xs,SqL K H p xs)∨(T="tuple"∧∃o,K.lookup p=some o∧o.cls=.type "tuple"∧o.dict=none)∨
   (T="dict"∧((∃kvs,H p=some (.dK kvs))∨∃kvs,H p=some (.dT kvs)))∨(T="set"∧∃S n,H p=some (.set S n))
 |_=>False
theorem tyV_is{σ:St}{H:Hp}{x:V}{v:Value}(I:Inv X pq σ H s)(r:RelV x v)(ty:tyV X.K T x H):
  s.TypeIs v T∧∀a,v=.ref a→∃ob,s.heap.get? a=some ob∧ob.dict=none:=by
 cases x with
 |str z=>obtain⟨t,rfl⟩:=r;cases(show T="str" from ty);exact⟨typeIs_str s z t,λ_ e=>nomatch e⟩
 |int i=>obtain⟨t,rfl⟩:=r;cases(show T="int" from ty);exact⟨typeIs_int s i t,λ_ e=>nomatch e⟩
 |ref p=>
  cases r;rcases ty with⟨rfl,xs,hq⟩| ⟨rfl,o,hk,hc,hd⟩| ⟨rfl,hk⟩| ⟨rfl,S,n,hk⟩
  ·obtain⟨its,_,pl,_⟩:=I.list hq;refine⟨pl.isList.typeIs,λa e=>?_⟩;cases e;obtain⟨o,n,e,c,hd,_⟩:=pl;exact⟨o,e,hd⟩
  ·refine⟨⟨o,I.kIn p o hk,hc⟩,λa e=>?_⟩;cases e;exact⟨o,I.kIn _ o hk,hd⟩
  ·have z:∃o,s.heap.get? p=some o∧o.ExactDict:=by
    rcases hk with⟨kvs,hk⟩| ⟨kvs,hk⟩
    ·obtain⟨_,_,_,_,o,_,_,e,ex,_⟩:=I.hok p _ hk;exact⟨o,e,ex⟩
    ·obtain⟨_,_,_,_,o,_,_,e,ex,_⟩:=I.hok p _ hk;exact⟨o,e,ex⟩
   obtain⟨o,e,ex⟩:=z;refine⟨⟨o,e,ex.1⟩,λa e2=>?_⟩;cases e2;exact⟨o,e,ex.2.1⟩
  ·obtain⟨o,_,_,_,e,ex,_⟩:=I.hok p _ hk;refine⟨⟨o,e,ex.1⟩,λa e2=>?_⟩;cases e2;exact⟨o,e,ex.2.1⟩
 |_=>exact False.elim ty
def tBM0(K:Fg)(T:String)(r:V→List V→Hp→VK→Prop)(to:TE):TE:=λσ H Q=>to σ H λx H1=>tyV K T x H1∧r x [] H1 Q
def tBM(K:Fg)(T:String)(r:V→List V→Hp→VK→Prop)(to:TE)(t:TA):TE:=λσ H Q=>to σ H λx H1=>tyV K T x H1∧t σ H1 λxs H2=>r x xs H2 Q
variable {o:Expr}{to:TE}{t:TA}{id:String}{r:V→List V→Hp→VK→Prop}
theorem pe_bm0(pa:PlainAttrs T)(slot:Slot T name id)(hty:typeOf (.builtin id)=pure (.type "method_descriptor"))(hm:MtR X id r)(ho:PE X o to)
  (hbase:attributeBase o name X.env (eval o X.env)=eval o X.env:=by rfl) (hline:(apos.endLine==cpos.line)=true:=by rfl):PE X (.Call (.Attribute o name apos) [] [] cpos) (tBM0 X.K T r to):=by
 intro pq s σ H Q I h;refine wpAny_Call_method0_late hbase hline (thn (ho pq s σ H _ I h) λv s1 ⟨x,H1,I1,r1,ty,q1⟩=>?_);obtain⟨h1,h2⟩:=tyV_is I1 r1 ty;exact⟨T,id,pa,slot,hty,h1,h2,Calls.callWith_builtin rfl (PySem.evalArgs_none (hm pq s1 σ H1 x [] v [] Q I1 r1 .nil q1))⟩
theorem pe_bm(pa:PlainAttrs T)(slot:Slot T name id)(hty:typeOf (.builtin id)=pure (.type "method_descriptor"))(hm:MtR X id r)(ho:PE X o to)(ha:PA X (e::es) t)
  (hbase:attributeBase o name X.env (eval o X.env)=eval o X.env:=by rfl)
  (hfew:((backTo cpos (starEach (e::es) X.env)).all (λx=> !x.1)&&(backToKw cpos (keywordEach [] X.env)).all (λx=>x.1.isSome)
   &&decide ((e::es).length+([]:List Keyword).length+(if([]:List Keyword).isEmpty then 0 else 1)<30))=true:=by rfl)
  (hline:(apos.endLine==cpos.line)=true:=by rfl) (hs:starEach (e::es) X.env=(false,eval e X.env)::starEach es X.env:=by rfl) (hplain:(backTo cpos (starEach es X.env)).any (·.1)=false:=by rfl):
  PE X (.Call (.Attribute o name apos) (e::es) [] cpos) (tBM X.K T r to t):=by
 intro pq s σ H Q I h;refine wpAny_Call_method_late hbase hfew hline rfl (thn (ho pq s σ H _ I h) λv s1 ⟨x,H1,I1,r1,ty,q1⟩=>?_);obtain⟨h1,h2⟩:=tyV_is I1 r1 ty;refine⟨T,id,pa,slot,hty,h1,h2,?_⟩;have hA:=ha cpos pq s1 σ H1 _ I1 q1;rw[hs]at hA⊢;refine Calls.callWith_builtin (by show(false||(backTo cpos (starEach es X.env)).any (·.1))=false;rw[hplain]<;>rfl) (Calls.evalArgs_plain ?_);exact thn hA λus s2 ⟨vs,H2,I2,r2,q2⟩=>hm pq s2 σ H2 x vs v us Q I2 r1 r2 q2
end
def MtM(X:Cx)(id:String)(r:V→List V→Hp→VK→Prop):Prop:=
 ∀(pq:Lp) (s:Shared) (σ:St) (H:Hp) (x:V) (xs:List V) (v:Value) (us:Lv) (Q:VK),Inv X pq σ H s→RelV x v→Vals xs us→r x xs H Q→
  wpAny (model X.prog X.w) X.A (call (.builtin id) (v::us)) (EP X pq σ Q) X.xe s
theorem Vals.un{x:V}{xs:List V}(h:Vals (x::xs) us):∃u r,us=u::r∧RelV x u∧Vals xs r:=by
 cases h with
 |cons r t=>exact⟨_,_,rfl,r,t⟩
theorem Vals.nul(h:Vals [] us):us=[]:=by cases h;rfl
theorem Vals.one{x:V}(h:Vals [x] us):∃u,us=[u]∧RelV x u:=by obtain⟨u,r,rfl,h1,h2⟩:=h.un;cases h2.nul;exact⟨u,rfl,h1⟩
theorem Vals.two{x y:V}(h:Vals [x,y] us):∃u v,us=[u,v]∧RelV x u∧RelV y v:=by obtain⟨u,r,rfl,h1,h2⟩:=h.un;obtain⟨v,rfl,h3⟩:=h2.one;exact⟨u,v,rfl,h1,h3⟩
theorem Vals.zero:∀{us:Lv},Vals [] us→us=[]
 |_,.nil=>rfl
theorem Vals.rep{xs:List V}(h:Vals xs us):∀k:Nat,Vals (List.replicate k xs).flatten (List.replicate k us).flatten
 |0=>.nil
 |k+1=>by rw[List.replicate_succ,List.replicate_succ,List.flatten_cons,List.flatten_cons];exact Vals.append h (Vals.rep h k)
theorem a4c'(its:Lv):∀(k:Nat) (acc:Lv),
  List.foldl (λx1 x2=>x1++x2) acc.toArray (List.replicate k its.toArray)=(acc++(List.replicate k its).flatten).toArray
 |0,acc=>by simp
 |k+1,acc=>by
  have e:acc.toArray++its.toArray=(acc++its).toArray:=by simp
  have e2:(acc++its)++(List.replicate k its).flatten=acc++(List.replicate (k+1) its).flatten:=by rw[List.replicate_succ,List.flatten_cons,Zs]
  rw[←e2,←a4c' its k (acc++its),←e,List.replicate_succ,List.foldl_cons]
section
variable {X:Cx}{σ:St}{H:Hp}{l b:Addr}{xs ys zs:List V}
theorem Inv.lset{its its':Lv}{n:Nat}{f:Av→Av}{t':Nat}(I:Inv X pq σ H s)(hH:H l=some (.lst xs))
  (e:s.heap.get? l=some {cls:=.type "list",data:=.seq its.toArray n}) (hf:f its.toArray=its'.toArray) (hv:Vals ys its') (hz:ys.length≤sizeLine):
  Inv X pq σ (upd H l (.lst ys)) {s with heap:=s.heap.update l (Obj.mapSeq f),toks:=t'}:=by
 have q:=PySem.IsL.update e f;rw[hf]at q;refine I.write (x:=l) (e:=l) (by rw[hH];exact trivial) (.inl rfl) (λb' u hb hu=>(Heap.get?_update_other s.heap (Obj.mapSeq f) (Ne.symm hb)).trans hu) ⟨_,q⟩ ?_;exact⟨hz,its',_,hv,q⟩
theorem Inv.lnew{t':Nat}(I:Inv X pq σ H s)(hv:Vals ys its)(hz:ys.length≤sizeLine):
  Inv X pq σ (upd H s.heap.objs.size (.lst ys)) {s with heap:=s.heap.push {cls:=.type "list",data:=.seq its.toArray},toks:=t'}:=
 I.laid (λ_ _ q=>Zd _ q) (Zi _) ⟨hz,its,0,hv,Zn _ rfl⟩
theorem Inv.fresh(I:Inv X pq σ H s):H s.heap.objs.size=none:=I.hok.fresh (Zi _)
theorem Inv.lstM(I:Inv X pq σ H s)(hH:H l=some (.lst xs)):xs.length≤sizeLine∧∃(its:Lv) (n:Nat),Vals xs its∧xs.length=its.length∧s.heap.get? l=some {cls:=.type "list",data:=.seq its.toArray n}:=by obtain⟨z,its,n,r,e⟩:=I.hok l _ hH;exact⟨z,its,n,r,r.length,e⟩
theorem a8k'(h:n≤sizeLine):Builtin.List.listTooLong n=false:=by unfold Builtin.List.listTooLong;exact Zy (by omega)
end
section
variable {X:Cx}
def rAppend:V→List V→Hp→VK→Prop:=λx vs H Q=>∃l xs y,x=.ref l∧vs=[y]∧H l=some (.lst xs)∧xs.length<sizeLine∧Q .non (upd H l (.lst (xs++[y])))
theorem a4d':MtM X "list.append" rAppend:=by intro pq s σ H x vs v us Q I rx rv h;obtain⟨l,xs,y,rfl,rfl,hH,hz,q⟩:=h;cases rx;obtain⟨u,rfl,ru⟩:=rv.one;obtain⟨z,its,n,r,hl,e⟩:=I.lstM hH;refine call_meets F.slot_list_append ⟨_,e,rfl⟩ F.entry_list_append (F.args_list_append_2 _ _) (PySem.list_append l its.toArray n u (by rw[Zf];omega)) ⟨e,?_⟩;refine⟨.non,_,I.lset (its':=its++[u]) hH e (by simp) (r.append (.cons ru .nil)) ?_,rfl,q⟩;rw[ZI,List.length_singleton];omega
def rCat:R2:=λx y H Q=>∃l b xs zs,x=.ref l∧y=.ref b∧H l=some (.lst xs)∧H b=some (.lst zs)∧xs.length+zs.length≤sizeLine∧∀p,H p=none→Q (.ref p) (upd H p (.lst (xs++zs)))
theorem a8l':OpR X (binaryOp .Add) rCat:=by
 intro pq s σ H x y v u Q I rx ry h;obtain⟨l,b,xs,zs,rfl,rfl,hH,hB,hz,q⟩:=h;cases rx;cases ry;obtain⟨z,its,n,r,hl,e⟩:=I.lstM hH;obtain⟨z2,its2,n2,r2,hl2,e2⟩:=I.lstM hB;refine PySem.P.add_list e e2 ?_ (by rw[Zf,Zf];omega);have ea:its.toArray++its2.toArray=(its++its2).toArray:=by simp
 rw[ea];exact⟨.ref _,_,I.lnew (t':=s.toks) (r.append r2) (by rw[ZI];omega),rfl,q _ I.fresh⟩
def rRep:R2:=λx y H Q=>∃l k xs,x=.ref l∧y=.int k∧H l=some (.lst xs)∧-(2^63)≤k∧k<2^63∧xs.length*k.toNat≤sizeLine∧
 ∀p,H p=none→Q (.ref p) (upd H p (.lst (List.replicate k.toNat xs).flatten))
theorem len_rep(xs:List α)(k:Nat):(List.replicate k xs).flatten.length=k*xs.length:=by
 induction k with
 |zero=>simp
 |succ k ih=>rw[List.replicate_succ,List.flatten_cons,ZI,ih,Nat.succ_mul,Nat.add_comm]
theorem op_rep:OpR X (binaryOp .Mult) rRep:=by
 intro pq s σ H x y v u Q I rx ry h;obtain⟨l,k,xs,rfl,rfl,hH,h1,h2,hz,q⟩:=h;cases rx;obtain⟨t,rfl⟩:=ry;obtain⟨z,its,n,r,hl,e⟩:=I.lstM hH;have hlen:its.toArray.size*k.toNat≤sizeLine:=by rw[Zf,←hl];exact hz
 have hcap:¬its.toArray.size*k.toNat>(2^63-1)/8:=by
  have:(sizeLine:Nat)≤(2^63-1)/8:=by decide
  omega
 have hfit:¬(!Builtin.List.listFitsIndex k)=true:=by rw[fitsIndex_both h1 h2];exact ZU
 have hlong:¬Builtin.List.listTooLong (its.toArray.size*k.toNat)=true:=by rw[a8k' hlen];exact ZU
 have hnew:List.foldl (λx1 x2=>x1++x2) #[] (List.replicate (if its.toArray.isEmpty=true then 0 else k.toNat) its.toArray)=(List.replicate k.toNat its).flatten.toArray:=by
  have f0:∀m:Nat,List.foldl (λx1 x2=>x1++x2) #[] (List.replicate m its.toArray)=(List.replicate m its).flatten.toArray:=λm=>by have:=a4c' its m [];rw[List.nil_append]at this;exact this
  rw[f0];cases its with
  |nil=>simp
  |cons a r'=>rw[if_neg (by simp)]
 refine wpAny_binaryOp_repeat_ref (T:="list") (U:="int") (by decide) ⟨_,e,rfl⟩ (λs'=>typeIs_int s' k t) noFill_list_mul F.fills_int_mul F.slot_int_rmul repeat_list F.slot_int_index.lookup
  (call_meets F.slot_int_rmul (typeIs_int s k t) F.entry_int_rmul (F.args_int_rmul_2 _ _) (int___rmul___int_list k t l its.toArray n)
   ⟨e,rfl,⟨_,e,rfl⟩,call_meets F.slot_list_mul ⟨_,e,rfl⟩ F.entry_list_mul (F.args_list_mul_2 _ _) (AutoListH.list___mul___list_int_3 l its.toArray n k t hfit hcap hlong) ⟨e,?_⟩⟩)
 rw[hnew];exact⟨.ref _,_,I.lnew (t':=s.toks) (r.rep k.toNat) (by rw[len_rep,Nat.mul_comm];exact hz),rfl,q _ I.fresh⟩
end
set_option maxRecDepth 100000 in
section
variable {X:Cx}
end
end L2
namespace Att
open PySem PySem.W PySem.Calls PyProof.Rows
theorem a2h'{P:Params}:∀(ns:Li) (vs:Lv),WellAll P h vs (ns.map WData.int)→IntsAre vs ns:=by
 intro ns
 induction ns with
 |nil=>intro vs w;rw[List.map_nil]at w;cases w;exact .nil
 |cons n ns ih=>
  intro vs w;rw[List.map_cons]at w;cases w with
  |cons a b=>cases a;exact .cons _ _ (ih _ b)
theorem a6H'{l:OpenLaw}(hn:l.most=some n){P:Params}{args:List WData}{vals:Lv}
  (hpre:l.row.toRowW.claim.pre args=true) (hwl:WellAll P h vals args):
  ∃a vs ns,vals=[Value.ref a]∧args=[WData.list (ns.map WData.int)]∧h.get? a=some {cls:=.type "list",data:=.seq vs.toArray}∧IntsAre vs ns∧ns.length≤n:=by
 have hsh:WShape.hasAll [] args [.list .int]=true:=(pre_splitW hpre).1;have hc:l.pre.holds [] {args:=args}=true:=(pre_splitW hpre).2;obtain⟨d,r,rfl,h1,h2⟩:=hasAllW_cons hsh;obtain rfl:=hasAllW_nil h2;obtain⟨xs,rfl,h3⟩:=hasW_list h1;obtain⟨ns,rfl⟩:=items_int h3
 have hlen:ns.length≤n:=by
  unfold OpenLaw.pre at hc;have h4:(WTm.not (.lt (.lit (.int (n:Int))) (.len (.arg 0)))).holds [] {args:=[.list (ns.map .int)]}=true:=by have h4:=(holds_andW hc).1;rw[hn]at h4;exact h4
  have h5:=condW_of h4 (w_not (w_lt w_lit (w_len_list (w_arg rfl))));rw[List.length_map]at h5;refine Nat.le_of_not_lt λq=>?_;have q':(n:Int)<((ns.length:Nat):Int):=by omega
  first
   | (rw[ZS q']at h5;exact absurd h5 (by decide))
   | (simp at h5;omega)
 cases hwl with
 |cons w1 w2=>
  cases w2;cases w1 with
  |list ho hall=>exact⟨_,_,ns,rfl,rfl,ho,a2h' ns _ hall,hlen⟩
theorem a6I'(l:OpenLaw)(args:List WData):l.row.toRowW.claim.post args (.bool true) args=true:=
 postW_of (r:=l.row.toRowW) (X:=(true==true))
  (show WShape.has [] (.bool true) .bool=true by first|rfl|decide|simp[WShape.has,WShape.arms,WShape.armsAll])
  (show(WTm.eq .res (.lit (.bool true))).value [] {args:=args,res:=some (.bool true),after:=args}=some (.bool (true==true))from w_eq_bool (w_res rfl) w_lit) rfl
theorem a4F'{l:OpenLaw}{d:DefRec}
  (hn:l.most=some n) (hdf:d.params.defaults=[])
  (call:∀(w:World) (s₀ s₁:Shared) (mg mb:Mg) (fa:Addr) (o:Obj) (pm cd doc:Value) (a:Addr) (vs:Lv) (ns:Li),
   Ground q loose [] XP w s₀ mg mb s₁.heap→YP w s₁.heap→
   s₁.heap.get? fa=some o→o.data=.func (docDef d.name d.params d.body d.scope pm cd doc)→s₁.heap.CodeRec cd d.name→mg d.name=some (.ref fa)→
   s₁.heap.get? a=some {cls:=.type "list",data:=.seq vs.toArray}→IntsAre vs ns→ns.length≤n→s₁.gens= #[]→
   codeAny (model l.prog w) callerA (.call (.ref fa) ⟨[.ref a],[]⟩) (λr s'=>r=.ok (.ret (.bool true))∧OldK s₁.heap s'.heap∧s'.os=s₁.os∧AllBare s'.gens) s₁):
  WalkO q loose XP YP l.row.toRowW d [] (λf vs=>PySem.call f vs):=by
 intro w s₀ s₁ mg mb G Y fa o pm cd doc dV kV ho hd hcd hD hmg hg args vals as hpre hlay hrd hwl hlo;obtain rfl:dV=.none:=Dflts.none hD hdf;obtain rfl:kV=.none:=Dflts.noKw hD;obtain⟨a,vs,ns,rfl,rfl,hobj,hints,hlen⟩:=a6H' hn hpre hwl;refine enter_call (codeAny_mono (call w s₀ s₁ mg mb fa o pm cd doc a vs ns G Y ho (fd_plain hd) hcd hmg hobj hints hlen hg) λr s' hq=>?_);obtain⟨rfl,h2,h3,h4⟩:=hq;exact⟨.inl ⟨.bool true,.bool true,[],rfl,λ_=>rfl,.bool true,a6I' l _,λ_=>⟨List.Pairwise.nil,λ_ hm=>(nomatch hm)⟩⟩,h2,h3,h4⟩
section
variable {K:Frag}
end
end Att
namespace L2
theorem a4e':∀{vs:Lv} {ns:Li},IntsAre vs ns→Vals (ns.map V.int) vs
 |_,_,.nil=>.nil
 |_,_,.cons n t h=>.cons ⟨t,rfl⟩ (a4e' h)
def Only(H:Hp):Prop:=∀b,H b=none∨∃o xs,H b=some (.frz o (.lst xs))
theorem a8m'{P:Program}{w:World}{mb:Mg}{CX:CXT}{k:Nat}{fa:Addr}{fd:FuncData}{x:Str}{sp:Sp}{s₁:Shared}{vs:Lv}{ns:Li}
  (KX:K.In s₁.heap) (hns:s₁.heap.Ns mainGlobals mg) (hb:s₁.heap.Ns builtinsNs mb) (hbb:∀x:Str,x≠"__name__"→mb x=bootBuiltins x) (hlim:s₁.heap.NoLimit) (hg:s₁.gens= #[])
  (ha:s₁.heap.get? a=some {cls:=.type "list",data:=.seq vs.toArray}) (hi:IntsAre vs ns) (hl:ns.length≤sizeLine) (hr:Room k callerA)
  (F:∀base:Heap,K.In base→base.Ns mainGlobals mg→FnOk P w K mg base CX k fa fd [x] sp) (hbind:∀(s:Shared) (u:Value),BindsTo s fd ⟨[u],[]⟩ [(x,u)])
  (hsp:∀H:Hp,Only H→SqL K H a (ns.map V.int)→sp [.ref a] H (λv _=>v=.bl true) λ_ _ _=>False)
  (hCX:∀H e s',CX [] H s₁ (λ_ _ _=>False) e s'→False):
  codeAny (model P w) callerA (.call (.ref fa) ⟨[.ref a],[]⟩) (λr s'=>r=.ok (.ret (.bool true))∧OldK s₁.heap s'.heap∧s'.os=s₁.os∧AllBare s'.gens) s₁:=by
 have rv:=a4e' hi;have lenV:=hi.length
 have core:∀H:Hp,Only H→SqL K H a (ns.map V.int)→HOk P w H s₁.heap→(∀b,H b≠none→b=a)→(H a≠none→K.lookup a=none)→
   codeAny (model P w) callerA (.call (.ref fa) ⟨[.ref a],[]⟩) (λr s'=>r=.ok (.ret (.bool true))∧OldK s₁.heap s'.heap∧s'.os=s₁.os∧AllBare s'.gens) s₁:=by
  intro H hO hS hok hA hK;have base_of:∀{b:Addr} {o:Obj},s₁.heap.get? b=some o→H b=none→(hidT s₁.heap H).get? b=some o:=λe n=>a7Y' e n
  have noA:∀{b:Addr} {o:Obj} {es:Array DictEntry} {ep:Nat},s₁.heap.get? b=some o→o.data=.dict es ep→H b=none:=λ{b o es ep} e d=>by
   cases q:H b with
   |none=>rfl
   |some u=>have e':b=a:=hA b (by rw[q];simp);subst e';rw[ha]at e;cases e;have d':Data.seq vs.toArray _=Data.dict es ep:=d;cases d'
  have nsK:∀{b:Addr} {m:Mg},s₁.heap.Ns b m→(hidT s₁.heap H).Ns b m:=λ{b m} ⟨o,es,ep,e,d,r⟩=>⟨o,es,ep,base_of e (noA e d),d,r⟩
  have hKb:K.In (hidT s₁.heap H):=λb o e=>base_of (KX b o e) (by
   cases q:H b with
   |none=>rfl
   |some u=>have e':b=a:=hA b (by rw[q];simp);subst e';rw[hK (by rw[q];simp)]at e;cases e)
  have hM:Mod K mg (hidT s₁.heap H):=⟨hKb,nsK hns,⟨mb,nsK hb,hbb⟩,let⟨mc,h1,h2⟩:=hlim;⟨mc,nsK h1,h2⟩⟩;have e0:Env0 P w K mg (hidT s₁.heap H) callerA [] s₁ H:=⟨rfl,hM,λb o e=>of_hidT e,Nat.le_of_eq (a6z' _ _),trivial,λb hb=>absurd (show b∈([]:La)from hb) (by simp),hok,.of_eq hg⟩;refine codeAny_mono ((F _ hKb (nsK hns)).run callerA [] s₁ H ⟨[.ref a],[]⟩ [.ref a] [.ref a] _ _ hr e0 (hbind s₁ (.ref a)) (.cons rfl .nil) (hsp H hO hS)) λr s' h=>?_;cases r with
  |error e=>exact(hCX H e s' h).elim
  |ok fl=>
   cases fl with
   |next=>exact False.elim h
   |brk=>exact False.elim h
   |cont=>exact False.elim h
   |ret u=>
    obtain⟨v,H',os,bare,un,hok',r',q⟩:=h;have q':v=.bl true:=q;subst q';obtain rfl:u=Value.bool true:=r';refine⟨rfl,OldK.of_keep λb o e=>?_,os,bare⟩;cases q:H b with
    |none=>exact un.keep b o e q (by intro z;exact absurd (show b∈([]:La)from z) (by simp)) (by simp)
    |some u=>
     rcases hO b with z| ⟨ob,xs,z⟩
     ·rw[q]at z;cases z
     ·have z2:=un.frzs b ob _ z;obtain⟨e1,_⟩:=hok b _ z;obtain⟨e2,_⟩:=hok' b _ z2;rw[e]at e1;cases e1;exact e2
 cases hk:K.lookup a with
 |some o=>have e:=KX a o hk;rw[ha]at e;cases e;refine core (λ_=>none) (λ_=>.inl rfl) (.inr ⟨_,vs.toArray,_,hk,rfl,rfl,rfl,by rw[Zf,lenV];exact hl,by simpa using rv⟩) (λb u z=>by have z':(none:Option HO)=some u:=z;cases z') (λb z=>absurd rfl z) λz=>absurd rfl z
 |none=>
  refine core (λb=>if b=a then some (.frz {cls:=.type "list",data:=.seq vs.toArray} (.lst (ns.map V.int)))else none) (λb=>?_) (.inl (.inr ⟨{cls:=.type "list",data:=.seq vs.toArray},if_pos rfl⟩)) (λb u z=>?_) (λb z=>?_) λ_=>hk
  ·by_cases hb:b=a
   ·exact .inr ⟨_,_,if_pos hb⟩
   ·exact .inl (if_neg hb)
  ·by_cases hb:b=a
   ·have z':=(if_pos hb).symm.trans z;cases z';subst hb;exact⟨ha,by rw[List.length_map];exact hl,vs,_,rv,ha⟩
   ·have z':=(if_neg hb).symm.trans z;cases z'
  ·by_cases hb:b=a
   ·exact hb
   ·exact absurd (if_neg hb) z
theorem walk_of{l:PySem.W.OpenLaw}{d:DefRec}{K:Params→Fg}{CX:World→CXT}{sp:World→Sp}{x:Str}
  (hn:l.most=some n) (hn2:n≤sizeLine) (hdf:d.params.defaults=[]) (hr:Room k callerA)
  (hY:∀(w:World) (h:Heap),YP w h→(K w.params).In h)
  (F:∀(w:World) (mg:Mg) (fa:Addr) (h:Heap),(K w.params).In h→h.Ns mainGlobals mg→mg d.name=some (.ref fa)→
   ∃fd:FuncData,(∀(s:Shared) (u:Value),BindsTo s fd ⟨[u],[]⟩ [(x,u)])∧
    ∀base:Heap,(K w.params).In base→base.Ns mainGlobals mg→FnOk l.prog w (K w.params) mg base (CX w) k fa fd [x] (sp w))
  (hsp:∀(w:World) (H:Hp) (a:Addr) (ns:Li),ns.length≤n→Only H→SqL (K w.params) H a (ns.map V.int)→sp w [.ref a] H (λv _=>v=.bl true) λ_ _ _=>False)
  (hCX:∀(w:World) (H:Hp) (s:Shared) (e:Value) (s':Shared),CX w [] H s (λ_ _ _=>False) e s'→False):
  PySem.W.WalkO q loose XP YP l.row.toRowW d [] (λf vs=>PySem.call f vs):=by
 refine Att.a4F' hn hdf λw s₀ s₁ mg mb fa o pm cd doc a vs ns G Y ho hd hcd hmg hobj hints hlen hg=>?_;have KX:=hY w _ Y;obtain⟨fd,hb,hF⟩:=F w mg fa _ KX G.T.g hmg;exact a8m' KX G.T.g G.T.b G.T.builtins G.T.nolimit hg hobj hints (ZE hlen hn2) hr hF hb (λH hO hS=>hsp w H a ns hlen hO hS) λH e s'=>hCX w H s₁ e s'
def a1W'(s:Stmt):Arguments:=match s with
 | .FunctionDef _ a _ _ _ _ _ _ _ _=>a
 |_=>{posonlyargs:=[],args:=[],vararg:=none,kwonlyargs:=[],kw_defaults:=[],kwarg:=none,defaults:=[]}
def a0o'(s:Stmt):List Stmt:=match s with
 | .FunctionDef _ _ b _ _ _ _ _ _ _=>b
 |_=>[]
def a0d'(s:Stmt):Scope:=match s with
 | .FunctionDef _ _ _ _ _ _ sc _ _ _=>sc
 |_=>{kind:=.function,names:=[],isGenerator:=false,isCoroutine:=false}
abbrev CX0:CXT:=λ_ _ _ _ _ _=>False
abbrev E0:XK:=λ_ _ _=>False
structure Fun (K:Fg)(x qual:Str)(st:Stmt)(f:Addr)(fd:FuncData):Prop where
 ex:∃(oc:Value) (od:Option Addr) (kV doc pm:Value) (an:Option Addr) (cdv ct:Value) (osl:Array (Ov)),
  fd=PySem.W.fnOf x qual (a1W' st) (a0o' st) (a0d' st) .none kV doc pm an cdv ct∧K.lookup f=some ⟨oc,od,.func fd,osl⟩∧PySem.W.codeIn K cdv qual=true
 kp:PySem.W.keepIn K (.ref f)=true
theorem Fun.binds{x:Str}{fd:FuncData}(F:Fun K x qual st f fd)
  (h:∀(kV doc pm:Value) (an:Option Addr) (cdv ct:Value) (us:Lv),us.length=ps.length→bindArgs (PySem.W.fnOf x qual (a1W' st) (a0o' st) (a0d' st) .none kV doc pm an cdv ct) ⟨us,[]⟩=pure (ps.zip us)):Binds K fd ps []:=by
 obtain⟨oc,od,kV,doc,pm,an,cdv,ct,osl,rfl,lk,hcd⟩:=F.ex;exact .all (h kV doc pm an cdv ct)
theorem fun_mk{x:Str}{an:Option Addr}{kV:Value}(l:K.lookup f=some ⟨oc,od,.func (PySem.W.fnOf x qual (a1W' st) (a0o' st) (a0d' st) .none kV doc pm an cdv ct),osl⟩)
  (c:PySem.W.codeIn K cdv qual=true) (k:PySem.W.keepIn K (.ref f)=true):Fun K x qual st f (PySem.W.fnOf x qual (a1W' st) (a0o' st) (a0d' st) .none kV doc pm an cdv ct):=⟨⟨oc,od,kV,doc,pm,an,cdv,ct,osl,rfl,l,c⟩,k⟩
section
variable {X:Cx}
end
end L2
variable {xs ys:List L2.V}{H H' H1 H0 Hx:L2.Hp}{o:L2.HO}{X:L2.Cx}{σ σ':L2.St}{v v':L2.V}{ta te to:L2.TE}{tb:L2.St→L2.Hp→(L2.St→L2.Hp→Prop)→Prop}{g:L2.TG}{wi:L2.TI}{r:L2.V→List L2.V→L2.Hp→L2.VK→Prop}{CX:L2.CXT}{sp:L2.Sp}{J:L2.It}{cs:L2.St→L2.St}{B:La→L2.Hp→Prop}
namespace Py
theorem ex43{C:Prop}{a b c d:Sort _}{p q r:a→b→c→d→Prop}(h:∃x y z w,p x y z w∧q x y z w∧r x y z w)(k:∀x y z w,p x y z w→q x y z w→r x y z w→C):C:=by obtain⟨x,y,z,w,h1,h2,h3⟩:=h;exact k x y z w h1 h2 h3
theorem ex93{C:Prop}{a b c d e f g h i:Sort _}{p q r:a→b→c→d→e→f→g→h→i→Prop}(z:∃x1 x2 x3 x4 x5 x6 x7 x8 x9,p x1 x2 x3 x4 x5 x6 x7 x8 x9∧q x1 x2 x3 x4 x5 x6 x7 x8 x9∧r x1 x2 x3 x4 x5 x6 x7 x8 x9)(k:∀x1 x2 x3 x4 x5 x6 x7 x8 x9,p x1 x2 x3 x4 x5 x6 x7 x8 x9→q x1 x2 x3 x4 x5 x6 x7 x8 x9→r x1 x2 x3 x4 x5 x6 x7 x8 x9→C):C:=by obtain⟨x1,x2,x3,x4,x5,x6,x7,x8,x9,h1,h2,h3⟩:=z;exact k x1 x2 x3 x4 x5 x6 x7 x8 x9 h1 h2 h3
theorem ex34{C:Prop}{a b c:Sort _}{p q r t:a→b→c→Prop}(h:∃x y z,p x y z∧q x y z∧r x y z∧t x y z)(k:∀x y z,p x y z→q x y z→r x y z→t x y z→C):C:=by obtain⟨x,y,z,h1,h2,h3,h4⟩:=h;exact k x y z h1 h2 h3 h4
inductive D where
 |non|bl (b:Bool)|int (i:Int)|str (x:Str)
 |tup (xs:List D)|lst (xs:List D)|ref (n:Nat)|scr (xs:List D)
 |fn (x:Str)|dct|ty (n:String)
 deriving Inhabited
abbrev Store:=List (List D)
structure GS where
 mg:Mg
 F:La
def Frz(K:Fg)(H:Hp)(a:Addr)(vs:List V):Prop:=(∃o,H a=some (.frz o (.lst vs)))∨
 ∃(o:Obj) (its:Av) (n:Nat),K.lookup a=some o∧o.cls=.type "list"∧o.dict=none∧o.data=.seq its n∧its.size≤sizeLine∧Vals vs its.toList
theorem Frz.sq{vs:List V}(h:Frz K H a vs):SqL K H a vs:=by
 rcases h with⟨o,h⟩|h
 ·exact .inl (.inr ⟨o,h⟩)
 ·exact .inr h
section
variable (K:Fg)(mg:GS)(μ:La)(H:Hp)
mutual
def Rep:D→V→Prop
 | .non,v=>v=.non
 | .bl b,v=>v=.bl b
 | .int i,v=>v=.int i
 | .str x,v=>v=.str x
 | .tup ds,v=>∃a vs,v=.ref a∧SqT K H a vs∧RepL ds vs
 | .lst ds,v=>∃a vs,v=.ref a∧H a=some (.lst vs)∧(a∉μ∧a∉mg.F)∧RepL ds vs
 | .scr ds,v=>∃a vs,v=.ref a∧Frz K H a vs∧RepL ds vs
 | .ref n,v=>∃a,v=.ref a∧μ[n]?=some a
 | .fn x,v=>∃a,v=.ref a∧mg.mg x=some (.ref a)
 | .dct,v=>∃a,v=.ref a∧H a=some (.dK [])
 | .ty n,v=>v=.ty n
def RepL:List D→List V→Prop
 | [],vs=>vs=[]
 |d::ds,vs=>∃w ws,vs=w::ws∧Rep d w∧RepL ds ws
end
end
structure SOk (K:Fg)(mg:GS)(μ:La)(S:Store)(H:Hp):Prop where
 live:∀a∈mg.F,∃o,H a=some o
 len:μ.length=S.length
 nd:μ.Nodup
 at_:∀(n:Nat) (a:Addr) (ds:List D),μ[n]?=some a→S[n]?=some ds→∃vs,H a=some (.lst vs)∧RepL K mg μ H ds vs
structure Ext (μ:La)(H:Hp)(μ':La)(H':Hp):Prop where
 pre:∃r,μ'=μ++r
 keep:∀a o,H a=some o→((∀xs,o≠.lst xs)∨a∉μ)→H' a=some o
 there:∀a o,H a=some o→∃o',H' a=some o'
 fresh:∀a∈μ',a∈μ∨H a=none
section
variable {mg:GS}{μ'':La}{H'':Hp}
theorem Ext.refl:Ext μ H μ H:=⟨⟨[],by simp⟩,λ_ _ h _=>h,λ_ o h=>⟨o,h⟩,λ_ h=>.inl h⟩
theorem Ext.trans(a:Ext μ H μ' H')(b:Ext μ' H' μ'' H''):Ext μ H μ'' H'':=by
 obtain⟨r,e⟩:=a.pre;obtain⟨r',e'⟩:=b.pre;refine⟨⟨r++r',by rw[e',e,Zs]⟩,λx o h c=>?_,λx o h=>?_,λx h=>?_⟩
 ·have h1:=a.keep x o h c;refine b.keep x o h1 ?_;rcases c with c|c
  ·exact .inl c
  ·refine .inr λz=>?_;rcases a.fresh x z with z|z
   ·exact c z
   ·rw[h]at z;cases z
 ·obtain⟨o1,h1⟩:=a.there x o h;exact b.there x o1 h1
 ·rcases b.fresh x h with h|h
  ·exact a.fresh x h
  ·refine .inr ?_;cases e:H x with
   |none=>rfl
   |some o=>obtain⟨o1,h1⟩:=a.there x o e;rw[h1]at h;cases h
theorem Ext.sqT{vs:List V}(x:Ext μ H μ' H')(h:SqT K H a vs):SqT K H' a vs:=by
 rcases h with(h| ⟨o,h⟩)|h
 ·exact .inl (.inl (x.keep _ _ h (.inl λ_ z=>by cases z)))
 ·exact .inl (.inr ⟨o,x.keep _ _ h (.inl λ_ z=>by cases z)⟩)
 ·exact .inr h
theorem Ext.frz{vs:List V}(x:Ext μ H μ' H')(h:Frz K H a vs):Frz K H' a vs:=by
 rcases h with⟨o,h⟩|h
 ·exact .inl ⟨o,x.keep _ _ h (.inl λ_ z=>by cases z)⟩
 ·exact .inr h
theorem Ext.lst{vs:List V}(x:Ext μ H μ' H')(h:H a=some (.lst vs))(ha:a∉μ):H' a=some (.lst vs)∧a∉μ':=by
 refine⟨x.keep _ _ h (.inr ha),λz=>?_⟩;rcases x.fresh a z with z|z
 ·exact ha z
 ·rw[h]at z;cases z
theorem Ext.get(x:Ext μ H μ' H')(h:μ[n]?=some a):μ'[n]?=some a:=by obtain⟨r,rfl⟩:=x.pre;rw[Zm (Ze.mp h).1];exact h
mutual
theorem Rep.mono(x:Ext μ H μ' H'):∀(d:D) (v:V),Rep K mg μ H d v→Rep K mg μ' H' d v
 | .non,_,h=>h
 | .bl _,_,h=>h
 | .int _,_,h=>h
 | .str _,_,h=>h
 | .tup ds,v,h=>by unfold Rep at h⊢;obtain⟨a,vs,e,q,r⟩:=h;exact⟨a,vs,e,x.sqT q,RepL.mono x ds vs r⟩
 | .lst ds,v,h=>by unfold Rep at h⊢;obtain⟨a,vs,e,q,n,r⟩:=h;exact⟨a,vs,e,(x.lst q n.1).1,⟨(x.lst q n.1).2,n.2⟩,RepL.mono x ds vs r⟩
 | .scr ds,v,h=>by unfold Rep at h⊢;obtain⟨a,vs,e,q,r⟩:=h;exact⟨a,vs,e,x.frz q,RepL.mono x ds vs r⟩
 | .ref n,v,h=>by unfold Rep at h⊢;obtain⟨a,e,q⟩:=h;exact⟨a,e,x.get q⟩
 | .fn y,v,h=>h
 | .ty y,v,h=>h
 | .dct,v,h=>by unfold Rep at h⊢;obtain⟨a,e,q⟩:=h;exact⟨a,e,x.keep _ _ q (.inl λ_ z=>by cases z)⟩
theorem RepL.mono(x:Ext μ H μ' H'):∀(ds:List D) (vs:List V),RepL K mg μ H ds vs→RepL K mg μ' H' ds vs
 | [],vs,h=>h
 |d::ds,vs,h=>by unfold RepL at h⊢;obtain⟨w,ws,e,r,q⟩:=h;exact⟨w,ws,e,Rep.mono x d w r,RepL.mono x ds ws q⟩
end
theorem RepL.length:∀{ds:List D} {vs:List V},RepL K mg μ H ds vs→ds.length=vs.length
 | [],vs,h=>by unfold RepL at h;subst h;rfl
 |d::ds,vs,h=>by unfold RepL at h;obtain⟨w,ws,rfl,r,q⟩:=h;simp[RepL.length q]
theorem RepL.get:∀{ds:List D} {vs:List V} {i:Nat} {d:D},RepL K mg μ H ds vs→ds[i]?=some d→∃v,vs[i]?=some v∧Rep K mg μ H d v
 | [],vs,i,d,h,e=>by simp at e
 |c::ds,vs,i,d,h,e=>by
  unfold RepL at h;obtain⟨w,ws,rfl,r,q⟩:=h;cases i with
  |zero=>simp at e;subst e;exact⟨w,rfl,r⟩
  |succ i=>simpa using RepL.get q (by simpa using e)
theorem RepL.of:∀{ds:List D} {vs:List V},ds.length=vs.length→(∀(i:Nat) d v,ds[i]?=some d→vs[i]?=some v→Rep K mg μ H d v)→RepL K mg μ H ds vs
 | [],[],_,_=>by unfold RepL;rfl
 | [],_::_,h,_=>by simp at h
 |_::_,[],h,_=>by simp at h
 |d::ds,v::vs,h,k=>by unfold RepL;exact⟨v,vs,rfl,k 0 d v rfl rfl,RepL.of (by simpa using h) λi d' v' h1 h2=>k (i+1) d' v' (by simpa using h1) (by simpa using h2)⟩
theorem RepL.nil:RepL K mg μ H [] []:=by unfold RepL;rfl
theorem RepL.cons{d:D}{ds:List D}{vs:List V}(h:Rep K mg μ H d v)(t:RepL K mg μ H ds vs):RepL K mg μ H (d::ds) (v::vs):=by unfold RepL;exact⟨v,vs,rfl,h,t⟩
theorem RepL.uncons{d:D}{ds:List D}{vs:List V}(h:RepL K mg μ H (d::ds) vs):∃v ws,vs=v::ws∧Rep K mg μ H d v∧RepL K mg μ H ds ws:=by unfold RepL at h;exact h
theorem RepL.append:∀{ds es:List D} {vs ws:List V},RepL K mg μ H ds vs→RepL K mg μ H es ws→RepL K mg μ H (ds++es) (vs++ws)
 | [],es,vs,ws,h,k=>by unfold RepL at h;subst h;exact k
 |d::ds,es,vs,ws,h,k=>by obtain⟨v,us,rfl,r,q⟩:=h.uncons;exact .cons r (RepL.append q k)
theorem RepL.take:∀{ds:List D} {vs:List V} (n:Nat),RepL K mg μ H ds vs→RepL K mg μ H (ds.take n) (vs.take n)
 | [],vs,n,h=>by unfold RepL at h;subst h;simpa using RepL.nil
 |d::ds,vs,0,h=>by simpa using RepL.nil
 |d::ds,vs,n+1,h=>by obtain⟨v,us,rfl,r,q⟩:=h.uncons;exact .cons r (RepL.take n q)
theorem RepL.drop:∀{ds:List D} {vs:List V} (n:Nat),RepL K mg μ H ds vs→RepL K mg μ H (ds.drop n) (vs.drop n)
 | [],vs,n,h=>by unfold RepL at h;subst h;simpa using RepL.nil
 |d::ds,vs,0,h=>h
 |d::ds,vs,n+1,h=>by obtain⟨v,us,rfl,r,q⟩:=h.uncons;exact RepL.drop n q
theorem RepL.set:∀{ds:List D} {vs:List V} (i:Nat) {d:D} {v:V},RepL K mg μ H ds vs→Rep K mg μ H d v→RepL K mg μ H (ds.set i d) (vs.set i v)
 | [],vs,i,_,_,h,_=>by unfold RepL at h;subst h;simpa using RepL.nil
 |d::ds,vs,0,_,_,h,k=>by obtain⟨v,us,rfl,r,q⟩:=h.uncons;exact .cons k q
 |d::ds,vs,i+1,_,_,h,k=>by obtain⟨v,us,rfl,r,q⟩:=h.uncons;exact .cons r (RepL.set i q k)
theorem Ext.laid{p:Addr}(hp:H p=none):Ext μ H μ (upd H p o):=
 ⟨⟨[],by simp⟩,λa u h _=>by rw[a0e' (a0c' h hp)];exact h,λa u h=>⟨u,by rw[a0e' (a0c' h hp)];exact h⟩,λ_ h=>.inl h⟩
theorem SOk.notin{S:Store}{p:Addr}(s:SOk K mg μ S H)(hp:H p=none):p∉μ:=λz=>by
 obtain⟨n,hn,e⟩:=ZW.mp z;have e1:μ[n]?=some p:=by rw[Zh hn,e]
 have e2:S[n]?=some (S[n]'(by rw[←s.len];exact hn)):=Zh _;obtain⟨vs,h,_⟩:=s.at_ n p _ e1 e2;rw[hp]at h;cases h
theorem SOk.notF{S:Store}{p:Addr}(s:SOk K mg μ S H)(hp:H p=none):p∉mg.F:=λz=>by obtain⟨o,h⟩:=s.live p z;rw[hp]at h;cases h
theorem SOk.laid{S:Store}{p:Addr}(s:SOk K mg μ S H)(hp:H p=none):SOk K mg μ S (upd H p o):=by refine⟨λa h=>(Ext.laid (μ:=μ) hp).there a _ (s.live a h).choose_spec,s.len,s.nd,λn a ds h1 h2=>?_⟩;obtain⟨vs,h,r⟩:=s.at_ n a ds h1 h2;exact⟨vs,by rw[a0e' (a0c' h hp)];exact h,RepL.mono (Ext.laid hp) _ _ r⟩
theorem Ext.boxed{p:Addr}(hp:H p=none):Ext μ H (μ++[p]) (upd H p o):=
 ⟨⟨[p],rfl⟩,λa u h _=>by rw[a0e' (a0c' h hp)];exact h,λa u h=>⟨u,by rw[a0e' (a0c' h hp)];exact h⟩,λa h=>by
  rcases ZC.mp h with h|h
  ·exact .inl h
  ·have:a=p:=by simpa using h
   subst this;exact .inr hp⟩
theorem SOk.boxed{S:Store}{p:Addr}{ds:List D}{vs:List V}(s:SOk K mg μ S H)(hp:H p=none)(r:RepL K mg μ H ds vs):
  SOk K mg (μ++[p]) (S++[ds]) (upd H p (.lst vs)):=by
 have np:=s.notin hp;refine⟨λa h=>(Ext.laid (μ:=μ) hp).there a _ (s.live a h).choose_spec,by simp[s.len],?_,λn a es h1 h2=>?_⟩
 ·rw[List.nodup_append]
  exact⟨s.nd,by simp,λa ha b hb=>by
   have:b=p:=by simpa using hb
   subst this;intro z;subst z;exact np ha⟩
 ·by_cases hn:n<μ.length
  ·rw[Zm hn]at h1;rw[Zm (by rw[←s.len];exact hn)]at h2;obtain⟨ws,h,q⟩:=s.at_ n a es h1 h2;exact⟨ws,by rw[a0e' (a0c' h hp)];exact h,RepL.mono (Ext.boxed hp) _ _ q⟩
  ·have hl:=s.len;have e1:n=μ.length:=by have:=(Ze.mp h1).1;simp at this;omega
   subst e1;rw[Zr (Zi _)]at h1;rw[Zr (by omega)]at h2;simp[hl]at h1 h2;subst h1;subst h2;exact⟨vs,a0h',RepL.mono (Ext.boxed hp) _ _ r⟩
theorem Ext.wrote(ha:a∈μ)(h:H a=some (.lst xs)):Ext μ H μ (upd H a (.lst ys)):=by
 refine⟨⟨[],by simp⟩,λb o e c=>?_,λb o e=>?_,λ_ h=>.inl h⟩
 ·have:b≠a:=by
   rintro rfl;rw[h]at e;cases e;rcases c with c|c
   ·exact c _ rfl
   ·exact c ha
  rw[a0e' this];exact e
 ·by_cases z:b=a
  ·subst z;exact⟨_,a0h'⟩
  ·exact⟨o,by rw[a0e' z];exact e⟩
theorem SOk.wrote{S:Store}{ds:List D}{vs:List V}(s:SOk K mg μ S H)(hn:μ[n]?=some a)(h:H a=some (.lst xs))(r:RepL K mg μ H ds vs):
  SOk K mg μ (S.set n ds) (upd H a (.lst vs)):=by
 have ha:a∈μ:=Zw hn;have hl:=s.len;have hnl:n<S.length:=by have:=(Ze.mp hn).1;omega
 refine⟨λb hb=>(Ext.wrote (μ:=μ) (ys:=vs) ha h).there b _ (s.live b hb).choose_spec,by simp[hl],s.nd,λm b es h1 h2=>?_⟩;by_cases e:m=n
 ·subst e;rw[hn]at h1;cases h1;rw[ZM hnl]at h2;cases h2;exact⟨vs,a0h',RepL.mono (Ext.wrote ha h) _ _ r⟩
 ·rw[List.getElem?_set_ne (Ne.symm e)]at h2;obtain⟨ws,q,r'⟩:=s.at_ m b es h1 h2;have:b≠a:=by rintro rfl;exact e (L2_nodup s.nd h1 hn)
  exact⟨ws,by rw[a0e' this];exact q,RepL.mono (Ext.wrote ha h) _ _ r'⟩
where
 L2_nodup {l:La} (nd:l.Nodup) {i j:Nat} {x:Addr} (a:l[i]?=some x) (b:l[j]?=some x):i=j:=by obtain⟨h1,e1⟩:=Ze.mp a;obtain⟨h2,e2⟩:=Ze.mp b;exact(List.getElem_inj nd).mp (e1.trans e2.symm)
end
end Py
variable {ds:List Py.D}{d:Py.D}{S S1 S':Py.Store}{Γ:Str→Option Py.D}
namespace Py
open PySem.Sem (wp)
open PySem.Builtin
end Py
namespace Py
structure Exc where
 cls:Str
 fs:List D
inductive Res (α:Type) where
 |ok (a:α) (S:Store)
 |err (x:Exc) (S:Store)
 |fail
abbrev big:Nat:=16777216
theorem a5o':sizeLine=big:=sizeLine_eq
def Want(K:Fg)(mg:GS)(μ:La)(H:Hp)(Q:VK):Res D→Prop
 | .ok d S'=>∀μ' H' v,Ext μ H μ' H'→SOk K mg μ' S' H'→Rep K mg μ' H' d v→Q v H'
 |_=>False
section
variable {mg:GS}{Q:VK}
theorem Want.now(w:Want K mg μ H Q (.ok d S))(s:SOk K mg μ S H)(r:Rep K mg μ H d v):Q v H:=w μ H v .refl s r
theorem Want.tup{vs:List V}(w:Want K mg μ H Q (.ok (.tup ds) S))(s:SOk K mg μ S H)(r:RepL K mg μ H ds vs)(p:Addr)(hp:H p=none):Q (.ref p) (upd H p (.tup vs)):=
 w μ _ _ (.laid hp) (s.laid hp) (by unfold Rep;exact⟨p,vs,rfl,SqT.of a0h',RepL.mono (.laid hp) _ _ r⟩)
theorem Want.lst{vs:List V}(w:Want K mg μ H Q (.ok (.lst ds) S))(s:SOk K mg μ S H)(r:RepL K mg μ H ds vs)(p:Addr)(hp:H p=none):Q (.ref p) (upd H p (.lst vs)):=
 w μ _ _ (.laid hp) (s.laid hp) (by unfold Rep;exact⟨p,vs,rfl,a0h',⟨s.notin hp,s.notF hp⟩,RepL.mono (.laid hp) _ _ r⟩)
theorem Want.box{vs:List V}(w:Want K mg μ H Q (.ok (.ref S.length) (S++[ds])))(s:SOk K mg μ S H)(r:RepL K mg μ H ds vs)(p:Addr)(hp:H p=none):Q (.ref p) (upd H p (.lst vs)):=
 w (μ++[p]) _ _ (.boxed hp) (s.boxed hp r) (by unfold Rep;exact⟨p,rfl,by rw[Zr (by rw[s.len];exact Zi _),s.len];simp⟩)
theorem Want.wrote{vs:List V}(w:Want K mg μ H Q (.ok d (S.set n ds)))(s:SOk K mg μ S H)(hn:μ[n]?=some a)(h:H a=some (.lst xs))(r:RepL K mg μ H ds vs)
  (rd:Rep K mg μ H d v):Q v (upd H a (.lst vs)):=
 w μ _ _ (.wrote (Zw hn) h) (s.wrote hn h r) (Rep.mono (.wrote (Zw hn) h) _ _ rd)
def a2D'(S:Store):D→Option (List D)
 | .lst xs=>some xs
 | .ref n=>S[n]?
 |_=>none
def seqOf(S:Store):D→Option (List D)
 | .lst xs=>some xs
 | .ref n=>S[n]?
 | .tup xs=>some xs
 | .scr xs=>some xs
 |_=>none
theorem a0C'{xs:List D}(s:SOk K mg μ S H)(r:Rep K mg μ H d v)(e:a2D' S d=some xs):∃a vs,v=.ref a∧H a=some (.lst vs)∧RepL K mg μ H xs vs:=by
 cases d with
 |lst ys=>unfold a2D' at e;cases e;unfold Rep at r;obtain⟨a,vs,e,h,_,q⟩:=r;exact⟨a,vs,e,h,q⟩
 |ref n=>unfold a2D' at e;unfold Rep at r;obtain⟨a,e1,h⟩:=r;obtain⟨vs,h1,q⟩:=s.at_ n a xs h e;exact⟨a,vs,e1,h1,q⟩
 |_=>cases e
theorem a2V'{xs:List D}(s:SOk K mg μ S H)(r:Rep K mg μ H d v)(e:seqOf S d=some xs):∃a vs,v=.ref a∧(SqL K H a vs∨SqT K H a vs)∧RepL K mg μ H xs vs:=by
 cases d with
 |lst ys=>obtain⟨a,vs,e1,h,q⟩:=a0C' s r (show a2D' S (.lst ys)=some xs from e);exact⟨a,vs,e1,.inl (.of h),q⟩
 |ref n=>obtain⟨a,vs,e1,h,q⟩:=a0C' s r (show a2D' S (.ref n)=some xs from e);exact⟨a,vs,e1,.inl (.of h),q⟩
 |tup ys=>unfold seqOf at e;cases e;unfold Rep at r;obtain⟨a,vs,e,h,q⟩:=r;exact⟨a,vs,e,.inr h,q⟩
 |scr ys=>unfold seqOf at e;cases e;unfold Rep at r;obtain⟨a,vs,e,h,q⟩:=r;exact⟨a,vs,e,.inl h.sq,q⟩
 |_=>cases e
theorem a0a'{i:Int}(r:Rep K mg μ H (.int i) v):v=.int i:=by unfold Rep at r;exact r
theorem a2W'{i:Bool}(r:Rep K mg μ H (.bl i) v):v=.bl i:=by unfold Rep at r;exact r
theorem a1I'{i:Str}(r:Rep K mg μ H (.str i) v):v=.str i:=by unfold Rep at r;exact r
theorem a1X'(r:Rep K mg μ H .non v):v=.non:=by unfold Rep at r;exact r
theorem a0m'(r:Rep K mg μ H (.tup ds) v):∃a vs,v=.ref a∧SqT K H a vs∧RepL K mg μ H ds vs:=by unfold Rep at r;exact r
theorem a0H'{i:Int}:Rep K mg μ H (.int i) (.int i):=by unfold Rep;rfl
theorem repBl{i:Bool}:Rep K mg μ H (.bl i) (.bl i):=by unfold Rep;rfl
theorem a6J'{i:Str}:Rep K mg μ H (.str i) (.str i):=by unfold Rep;rfl
theorem a6K':Rep K mg μ H .non .non:=by unfold Rep;rfl
end
def rD(K:Fg)(mg:Mg)(g:D→D→Store→Res D):R2:=λx y H Q=>∃F μ S d e,SOk K ⟨mg,F⟩ μ S H∧Rep K ⟨mg,F⟩ μ H d x∧Rep K ⟨mg,F⟩ μ H e y∧Want K ⟨mg,F⟩ μ H Q (g d e S)
def addD(d e:D)(S:Store):Res D:=match d,e with
 | .int i,.int j=>.ok (.int (i+j)) S
 | .str x,.str y=>if x.length+y.length≤big then .ok (.str (x++y)) S else .fail
 | .tup a,.tup b=>if a.length+b.length≤big then .ok (.tup (a++b)) S else .fail
 |d,e=>match a2D' S d,a2D' S e with
  |some a,some b=>if a.length+b.length≤big then .ok (.lst (a++b)) S else .fail
  |_,_=>.fail
def subD(d e:D)(S:Store):Res D:=match d,e with
 | .int i,.int j=>.ok (.int (i-j)) S
 |_,_=>.fail
def mulD(d e:D)(S:Store):Res D:=match d,e with
 | .int i,.int j=>if(-(2^64)<i∧i<2^64)∨(-(2^64)<j∧j<2^64)then .ok (.int (i*j)) S else if Builtin.Int.intBits i≤100000∧Builtin.Int.intBits j≤100000 then .ok (.int (i*j)) S else .fail
 | .lst a,.int k=>if-(2^63)≤k∧k<2^63∧a.length*k.toNat≤big then .ok (.lst (List.replicate k.toNat a).flatten) S else .fail
 |_,_=>.fail
theorem a8n':OpR X (binaryOp .FloorDiv) (rI (λ_ j=>0<j∧j<2^100) λi j=>.int (i/j)):=opI λi j _ _ _ _ _ hc q=>by
 have h1:(0:Int)<j:=hc.1;have h2:j<2^100:=hc.2;refine floordiv_int (by omega) (by rw[Int.fdiv_eq_ediv_of_nonneg i (by omega)];exact q) (.inl (PyProof.noPylong_of_log2 ?_));have h3:j.natAbs<2^100:=by omega
 exact Nat.lt_trans ((Nat.log2_lt (by omega)).mpr h3) (by decide)
def fdivD(d e:D)(S:Store):Res D:=match d,e with
 | .int i,.int j=>if 0<j∧j<1073741824 then .ok (.int (i/j)) S else if 0<j∧j<2^100 then .ok (.int (i/j)) S else .fail
 |_,_=>.fail
def modD(d e:D)(S:Store):Res D:=match d,e with
 | .int i,.int j=>if 0<j then .ok (.int (i%j)) S else .fail
 |_,_=>.fail
def powD(d e:D)(S:Store):Res D:=match d,e with
 | .int i,.int j=>if 0≤j∧j≤1000000∧i.natAbs<2^64 then .ok (.int (i^j.toNat)) S else .fail
 |_,_=>.fail
def shrD(d e:D)(S:Store):Res D:=match d,e with
 | .int i,.int j=>if 0≤j then .ok (.int (i/2^j.toNat)) S else .fail
 |_,_=>.fail
def andD(d e:D)(S:Store):Res D:=match d,e with
 | .int i,.int j=>.ok (.int (Builtin.bitAnd i j)) S
 |_,_=>.fail
def orD(d e:D)(S:Store):Res D:=match d,e with
 | .int i,.int j=>.ok (.int (Builtin.bitOr i j)) S
 |_,_=>.fail
def opD:Operator→D→D→Store→Res D
 | .Add=>addD| .Sub=>subD| .Mult=>mulD| .FloorDiv=>fdivD| .Mod=>modD| .Pow=>powD| .RShift=>shrD| .LShift=>λ_ _ _=>.fail | .BitAnd=>andD| .BitOr=>orD
 |_=>λ_ _ _=>.fail
theorem a8o'{t b:Addr}{ws:Lv}(ht:IsTup s.heap t #[])(hb:IsTup s.heap b ws.toArray)
  (h1:Q (.ref b) s):wpAny (model prog w) A (binaryOp .Add (.ref t) (.ref b)) Q E s:=by
 obtain⟨⟨cls,dd,data,sl⟩,ho,hc,n,hd⟩:=id ht;obtain⟨⟨cls2,dd2,data2,sl2⟩,ho2,hc2,n2,hd2⟩:=id hb;simp only at hc hd hc2 hd2;subst hc hd hc2 hd2
 exact concat_meets ⟨_,ho,rfl⟩ ⟨_,ho2,rfl⟩ noFill_tuple_add seq_tuple_add PySem.F.slot_tuple_add PySem.F.entry_tuple_add (PySem.F.args_tuple_add_2 _ _)
   (tuple_addW0 t b #[] ws.toArray n n2 dd dd2 sl sl2 rfl) ⟨ho,ho2,h1⟩
theorem a8p':OpR X (binaryOp .Add) (λx y H Q=>∃a b ys,x=.ref a∧y=.ref b∧SqT X.K H a []∧SqT X.K H b ys∧Q (.ref b) H):=by intro pq s σ H x y v u Q I rx ry h;obtain⟨a,b,ys,rfl,rfl,ha,hb,q⟩:=h;cases rx;cases ry;obtain⟨its,r,pa,_⟩:=I.tuple ha;obtain⟨its2,r2,pb,_⟩:=I.tuple hb;have e:=r.zero;subst e;exact a8o' pa pb ⟨.ref b,H,I,rfl,q⟩
theorem op_mulG:OpR X (binaryOp .Mult) (rI (λi j=>Builtin.Int.intBits i≤100000∧Builtin.Int.intBits j≤100000) λi j=>.int (i*j)):=opI λ_ _ _ _ _ _ _ hc q=>PyProof.Rows.mul_int q (PySem.IntMulOk.of_le hc.1 hc.2 (by decide))
theorem op_D(op:Operator):OpR X (binaryOp op) (rD X.K X.mg (opD op)):=by
 intro pq s σ H x y v u Q I rx ry h;obtain⟨F,μ,S,d,e,sk,rd,re,w⟩:=h;have hb:=a5o';cases op with
 |Add=>
  replace w:Want X.K ⟨X.mg,F⟩ μ H Q (addD d e S):=w;unfold addD at w;split at w
  ·have:=a0a' rd;have:=a0a' re;subst x y
   exact op_add pq s σ H _ _ v u Q I rx ry ⟨_,_,rfl,rfl,w.now sk a0H'⟩
  ·have:=a1I' rd;have:=a1I' re;subst x y
   split at w
   ·exact a5h' pq s σ H _ _ v u Q I rx ry ⟨_,_,rfl,rfl,by omega,w.now sk a6J'⟩
   ·exact w.elim
  ·split at w
   ·obtain⟨a,vs,rfl,ha,qa⟩:=a0m' rd;obtain⟨b,ws,rfl,hb',qb⟩:=a0m' re;have l1:=qa.length;have l2:=qb.length;cases vs with
    |nil=>refine a8p' pq s σ H _ _ v u Q I rx ry ⟨a,b,ws,rfl,rfl,ha,hb',?_⟩;rename_i as bs _;have:as=[]:=Zt (by simpa using l1);subst this;exact w.now sk re
    |cons v0 vs=>
     refine op_catT pq s σ H _ _ v u Q I rx ry ⟨a,b,v0::vs,ws,rfl,rfl,ha,hb',by simp,by omega,?_,?_⟩
     ·intro hw;subst hw;rename_i as bs _;have:bs=[]:=Zt (by simpa using l2);subst this;rw[List.append_nil]at w;exact w.now sk rd
     ·intro _ p hp;exact w.tup sk (qa.append qb) p hp
   ·exact w.elim
  ·split at w
   ·rename_i as bs e1 e2;split at w
    ·obtain⟨a,vs,rfl,ha,qa⟩:=a0C' sk rd e1;obtain⟨b,ws,rfl,hb',qb⟩:=a0C' sk re e2;have l1:=qa.length;have l2:=qb.length;exact a8l' pq s σ H _ _ v u Q I rx ry ⟨a,b,vs,ws,rfl,rfl,ha,hb',by omega,λp hp=>w.lst sk (qa.append qb) p hp⟩
    ·exact w.elim
   ·exact w.elim
 |Sub=>
  replace w:Want X.K ⟨X.mg,F⟩ μ H Q (subD d e S):=w;unfold subD at w;split at w
  ·have:=a0a' rd;have:=a0a' re;subst x y
   exact op_sub pq s σ H _ _ v u Q I rx ry ⟨_,_,rfl,rfl,w.now sk a0H'⟩
  ·exact w.elim
 |Mult=>
  replace w:Want X.K ⟨X.mg,F⟩ μ H Q (mulD d e S):=w;unfold mulD at w;split at w
  ·have:=a0a' rd;have:=a0a' re;subst x y
   split at w
   ·rename_i hc;exact op_mul pq s σ H _ _ v u Q I rx ry ⟨_,_,rfl,rfl,hc,w.now sk a0H'⟩
   ·split at w
    ·rename_i hc;exact op_mulG pq s σ H _ _ v u Q I rx ry ⟨_,_,rfl,rfl,hc,w.now sk a0H'⟩
    ·exact w.elim
  ·split at w
   ·rename_i as k hc;obtain⟨a,vs,rfl,ha,qa⟩:=a0C' sk rd rfl;have:=a0a' re;subst y;have l1:=qa.length;refine op_rep pq s σ H _ _ v u Q I rx ry ⟨a,k,vs,rfl,rfl,ha,hc.1,hc.2.1,by rw[←l1];omega,λp hp=>w.lst sk ?_ p hp⟩;generalize k.toNat=m;clear hc w
    induction m with
    |zero=>simpa using RepL.nil
    |succ m ih=>rw[List.replicate_succ,List.replicate_succ,List.flatten_cons,List.flatten_cons];exact qa.append ih
   ·exact w.elim
  ·exact w.elim
 |FloorDiv=>
  replace w:Want X.K ⟨X.mg,F⟩ μ H Q (fdivD d e S):=w;unfold fdivD at w;split at w
  ·have:=a0a' rd;have:=a0a' re;subst x y
   split at w
   ·rename_i hc;exact op_fdiv pq s σ H _ _ v u Q I rx ry ⟨_,_,rfl,rfl,hc,w.now sk a0H'⟩
   ·split at w
    ·rename_i hc;exact a8n' pq s σ H _ _ v u Q I rx ry ⟨_,_,rfl,rfl,hc,w.now sk a0H'⟩
    ·exact w.elim
  ·exact w.elim
 |Mod=>
  replace w:Want X.K ⟨X.mg,F⟩ μ H Q (modD d e S):=w;unfold modD at w;split at w
  ·have:=a0a' rd;have:=a0a' re;subst x y
   split at w
   ·rename_i hc;exact op_mod pq s σ H _ _ v u Q I rx ry ⟨_,_,rfl,rfl,hc,w.now sk a0H'⟩
   ·exact w.elim
  ·exact w.elim
 |Pow=>
  replace w:Want X.K ⟨X.mg,F⟩ μ H Q (powD d e S):=w;unfold powD at w;split at w
  ·have:=a0a' rd;have:=a0a' re;subst x y
   split at w
   ·rename_i hc;exact op_pow pq s σ H _ _ v u Q I rx ry ⟨_,_,rfl,rfl,hc,w.now sk a0H'⟩
   ·exact w.elim
  ·exact w.elim
 |RShift=>
  replace w:Want X.K ⟨X.mg,F⟩ μ H Q (shrD d e S):=w;unfold shrD at w;split at w
  ·have:=a0a' rd;have:=a0a' re;subst x y
   split at w
   ·rename_i hc;exact op_shr pq s σ H _ _ v u Q I rx ry ⟨_,_,rfl,rfl,hc,w.now sk a0H'⟩
   ·exact w.elim
  ·exact w.elim
 |LShift=>exact w.elim
 |BitAnd=>
  replace w:Want X.K ⟨X.mg,F⟩ μ H Q (andD d e S):=w;unfold andD at w;split at w
  ·have:=a0a' rd;have:=a0a' re;subst x y
   exact op_and pq s σ H _ _ v u Q I rx ry ⟨_,_,rfl,rfl,w.now sk a0H'⟩
  ·exact w.elim
 |BitOr=>
  replace w:Want X.K ⟨X.mg,F⟩ μ H Q (orD d e S):=w;unfold orD at w;split at w
  ·have:=a0a' rd;have:=a0a' re;subst x y
   exact op_or pq s σ H _ _ v u Q I rx ry ⟨_,_,rfl,rfl,w.now sk a0H'⟩
  ·exact w.elim
 |_=>exact w.elim
end Py
variable {l:List (Str×(List Py.D→Py.Store→Py.Res Py.D))}{φ:List Py.D→Py.Store→Py.Res Py.D}
namespace Py
inductive Sh where
 |non|bl (b:Bool)|int (i:Int)|str (x:Str)|tup (xs:List D)|lst (xs:List D)
def sh(S:Store):D→Option Sh
 | .non=>some .non
 | .bl b=>some (.bl b)
 | .int i=>some (.int i)
 | .str x=>some (.str x)
 | .tup xs=>some (.tup xs)
 | .lst xs=>some (.lst xs)
 | .ref n=>(S[n]?).map .lst
 |_=>none
def allO:List (Option Bool)→Option Bool
 | []=>some true
 |o::r=>match o,allO r with
  |some b,some c=>some (b&&c)
  |_,_=>none
def eqS(f:D→D→Option Bool):Sh→Sh→Option Bool
 | .non,.non=>some true
 | .bl a,.bl b=>some (a==b)
 | .int a,.int b=>some (a==b)
 | .str a,.str b=>some (a==b)
 | .bl a,.int b=>some ((if a then 1 else 0)==b)
 | .int a,.bl b=>some (a==(if b then 1 else 0))
 | .tup a,.tup b=>(allO (List.zipWith f a b)).map (· &&a.length==b.length)
 | .lst a,.lst b=>if a.length=b.length then allO (List.zipWith f a b)else some false
 |_,_=>some false
def eqF(S:Store):Nat→D→D→Option Bool
 |0,_,_=>none
 |n+1,d,e=>match sh S d,sh S e with
  |some x,some y=>eqS (eqF S n) x y
  |_,_=>none
def eJ(l:List (Option Bool))(j:Nat):Bool:=match l[j]? with
 |some (some b)=>b
 |_=>true
theorem a1P':∀(l:List (Option Bool)) (k:Bool),allO l=some k→(∀(j:Nat) o,l[j]?=some o→o=some (eJ l j))∧k=(List.range l.length).all (eJ l)
 | [],k,h=>by unfold allO at h;cases h;exact⟨λj o e=>by simp at e,by simp⟩
 |o::r,k,h=>by
  unfold allO at h;split at h
  ·rename_i b c e2;cases h;obtain⟨h1,h2⟩:=a1P' r c e2;refine⟨λj o e=>?_,?_⟩
   ·cases j with
    |zero=>simp at e;subst e;simp[eJ]
    |succ j=>
     have e':r[j]?=some o:=by simpa using e
     rw[h1 j o e'];simp[eJ]
   ·rw[ZF,List.range_succ_eq_map,List.all_cons,List.all_map,h2];rfl
  ·cases h
section
def ShIs(K:Fg)(mg:GS)(μ:La)(H:Hp)(s:Shared)(u:Value):Sh→Prop
 | .non=>u=.none
 | .bl b=>u=.bool b
 | .int i=>∃t,u=.int i t
 | .str x=>∃t,u=.str x t
 | .tup ds=>∃a its vs,u=.ref a∧s.heap.IsTuple a its.toArray∧Vals vs its∧RepL K mg μ H ds vs
 | .lst ds=>∃a its vs,u=.ref a∧s.heap.IsList a its.toArray∧Vals vs its∧RepL K mg μ H ds vs
theorem shIs(I:Inv X pq σ H s)(sk:SOk X.K ⟨X.mg,F⟩ μ S H){x:Sh}(r:Rep X.K ⟨X.mg,F⟩ μ H d v)(q:RelV v u)(e:sh S d=some x):ShIs X.K ⟨X.mg,F⟩ μ H s u x:=by
 cases d with
 |non=>cases e;cases a1X' r;exact q
 |bl b=>cases e;cases a2W' r;exact q
 |int b=>cases e;cases a0a' r;exact q
 |str b=>cases e;cases a1I' r;exact q
 |tup xs=>cases e;obtain⟨a,vs,rfl,h,k⟩:=a0m' r;cases q;obtain⟨its,rv,p,_⟩:=I.tuple h;exact⟨a,its,vs,rfl,p,rv,k⟩
 |lst xs=>cases e;obtain⟨a,vs,rfl,h,k⟩:=a0C' sk r rfl;cases q;obtain⟨its,rv,p,_⟩:=I.list (.of h);exact⟨a,its,vs,rfl,p.isList,rv,k⟩
 |ref n=>
  replace e:(S[n]?).map Sh.lst=some x:=e;cases e2:S[n]? with
  |none=>rw[e2]at e;cases e
  |some xs=>rw[e2]at e;cases e;obtain⟨a,vs,rfl,h,k⟩:=a0C' sk r e2;cases q;obtain⟨its,rv,p,_⟩:=I.list (.of h);exact⟨a,its,vs,rfl,p.isList,rv,k⟩
 |_=>cases e
def Items(A:Around)(s:Shared)(f:D→D→Option Bool)(K:Fg)(mg:GS)(μ:La)(H:Hp):Prop:=
 ∀d e v w u z k,Rep K mg μ H d v→RelV v u→Rep K mg μ H e w→RelV w z→f d e=some k→SeqAt.EqAt A s u z k
theorem a5p'{f:D→D→Option Bool}{mg:GS}(F:Items A s f K mg μ H){es:List D}{vs ws:List V}{zs:Lv}(r1:RepL K mg μ H ds vs)(q1:Vals vs us)(r2:RepL K mg μ H es ws)(q2:Vals ws zs){k:Bool}
  (h:allO (List.zipWith f ds es)=some k):∀j (h1:j<us.toArray.size) (h2:j<zs.toArray.size),SeqAt.EqAt A s us.toArray[j] zs.toArray[j] (eJ (List.zipWith f ds es) j):=by
 intro j h1 h2;have l1:=r1.length;have l2:=r2.length;have l3:=q1.length;have l4:=q2.length
 have h1':j<us.length:=by simpa using h1
 have h2':j<zs.length:=by simpa using h2
 have a1:ds[j]?=some (ds[j]'(by omega)):=Zh _;have a2:es[j]?=some (es[j]'(by omega)):=Zh _;obtain⟨v,b1,c1⟩:=r1.get a1;obtain⟨w,b2,c2⟩:=r2.get a2;obtain⟨u,b3,c3⟩:=q1.get b1;obtain⟨z,b4,c4⟩:=q2.get b2
 have e1:us.toArray[j]=u:=by have:=Ze.mp b3;obtain⟨_,e⟩:=this;simpa using e
 have e2:zs.toArray[j]=z:=by have:=Ze.mp b4;obtain⟨_,e⟩:=this;simpa using e
 rw[e1,e2];have hz:(List.zipWith f ds es)[j]?=some (f (ds[j]'(by omega)) (es[j]'(by omega))):=by rw[List.getElem?_zipWith,a1,a2]
 exact F _ _ v w u z _ c1 c3 c2 c4 ((a1P' _ _ h).1 j _ hz)
theorem a5q'{f:D→D→Option Bool}{es:List D}{k:Bool}(h:allO (List.zipWith f ds es)=some k)(m:Nat)(hm:m=min ds.length es.length):(List.range m).all (eJ (List.zipWith f ds es))=k:=by have:=(a1P' _ _ h).2;rw[this,List.length_zipWith,hm]
open PySem.SeqAt
theorem rcS{mg:GS}{f:D→D→Option Bool}(F:Items A.in1 s f K mg μ H)(hu:A.units<cLine):∀{x y:Sh} {k:Bool},ShIs K mg μ H s u x→ShIs K mg μ H s z y→eqS f x y=some k→
  RcAt A s u z k∧RcNeAt A s u z (!k):=by
 intro x y k hx hy h;cases x with
 |non=>
  cases hx;cases y with
  |non=>cases hy;cases h;exact⟨RcAt.none_none,RcNeAt.none_none⟩
  |bl b=>cases hy;cases h;exact⟨RcAt.none_bool b,RcNeAt.none_bool b⟩
  |int b=>obtain⟨t,rfl⟩:=hy;cases h;exact⟨RcAt.none_int b t,RcNeAt.none_int b t⟩
  |str b=>obtain⟨t,rfl⟩:=hy;cases h;exact⟨RcAt.none_str b t,RcNeAt.none_str b t⟩
  |tup b=>obtain⟨a,its,vs,rfl,p,_⟩:=hy;cases h;exact⟨RcAt.none_tuple p hu,RcNeAt.none_tuple p hu⟩
  |lst b=>obtain⟨a,its,vs,rfl,p,_⟩:=hy;cases h;exact⟨RcAt.none_list p hu,RcNeAt.none_list p hu⟩
 |bl a=>
  cases hx;cases y with
  |non=>cases hy;cases h;exact⟨RcAt.bool_none a,RcNeAt.bool_none a⟩
  |bl b=>cases hy;cases h;exact⟨RcAt.bool_bool a b,RcNeAt.bool_bool a b⟩
  |int b=>obtain⟨t,rfl⟩:=hy;cases h;exact⟨RcAt.bool_int a b t,RcNeAt.bool_int a b t⟩
  |str b=>obtain⟨t,rfl⟩:=hy;cases h;exact⟨RcAt.bool_str a b t,RcNeAt.bool_str a b t⟩
  |tup b=>obtain⟨_,its,vs,rfl,p,_⟩:=hy;cases h;exact⟨RcAt.bool_tuple a p hu,RcNeAt.bool_tuple a p hu⟩
  |lst b=>obtain⟨_,its,vs,rfl,p,_⟩:=hy;cases h;exact⟨RcAt.bool_list a p hu,RcNeAt.bool_list a p hu⟩
 |int a=>
  obtain⟨t',rfl⟩:=hx;cases y with
  |non=>cases hy;cases h;exact⟨RcAt.int_none a t',RcNeAt.int_none a t'⟩
  |bl b=>cases hy;cases h;exact⟨RcAt.int_bool a t' b,RcNeAt.int_bool a t' b⟩
  |int b=>obtain⟨t,rfl⟩:=hy;cases h;exact⟨RcAt.int_int a t' b t,RcNeAt.int_int a t' b t⟩
  |str b=>obtain⟨t,rfl⟩:=hy;cases h;exact⟨RcAt.int_str a t' b t,RcNeAt.int_str a t' b t⟩
  |tup b=>obtain⟨_,its,vs,rfl,p,_⟩:=hy;cases h;exact⟨RcAt.int_tuple a t' p hu,RcNeAt.int_tuple a t' p hu⟩
  |lst b=>obtain⟨_,its,vs,rfl,p,_⟩:=hy;cases h;exact⟨RcAt.int_list a t' p hu,RcNeAt.int_list a t' p hu⟩
 |str a=>
  obtain⟨t',rfl⟩:=hx;cases y with
  |non=>cases hy;cases h;exact⟨RcAt.str_none a t',RcNeAt.str_none a t'⟩
  |bl b=>cases hy;cases h;exact⟨RcAt.str_bool a t' b,RcNeAt.str_bool a t' b⟩
  |int b=>obtain⟨t,rfl⟩:=hy;cases h;exact⟨RcAt.str_int a t' b t,RcNeAt.str_int a t' b t⟩
  |str b=>obtain⟨t,rfl⟩:=hy;cases h;exact⟨RcAt.str_str a t' b t,RcNeAt.str_str a t' b t⟩
  |tup b=>obtain⟨_,its,vs,rfl,p,_⟩:=hy;cases h;exact⟨RcAt.str_tuple a t' p hu,RcNeAt.str_tuple a t' p hu⟩
  |lst b=>obtain⟨_,its,vs,rfl,p,_⟩:=hy;cases h;exact⟨RcAt.str_list a t' p hu,RcNeAt.str_list a t' p hu⟩
 |tup a=>
  obtain⟨a1,its1,vs1,rfl,p1,q1,r1⟩:=hx;cases y with
  |non=>cases hy;cases h;exact⟨RcAt.tuple_none p1 hu,RcNeAt.tuple_none p1 hu⟩
  |bl b=>cases hy;cases h;exact⟨RcAt.tuple_bool b p1 hu,RcNeAt.tuple_bool b p1 hu⟩
  |int b=>obtain⟨t,rfl⟩:=hy;cases h;exact⟨RcAt.tuple_int b t p1 hu,RcNeAt.tuple_int b t p1 hu⟩
  |str b=>obtain⟨t,rfl⟩:=hy;cases h;exact⟨RcAt.tuple_str b t p1 hu,RcNeAt.tuple_str b t p1 hu⟩
  |tup b=>
   obtain⟨a2,its2,vs2,rfl,p2,q2,r2⟩:=hy;replace h:(allO (List.zipWith f a b)).map (· &&a.length==b.length)=some k:=h;obtain⟨k1,e1,e2⟩:=Option.map_eq_some_iff.mp h;have hz:=a5p' F r1 q1 r2 q2 e1;have l1:=r1.length;have l2:=r2.length;have l3:=q1.length;have l4:=q2.length
   have e3:k=((List.range (min its1.toArray.size its2.toArray.size)).all (eJ (List.zipWith f a b))&&its1.toArray.size==its2.toArray.size):=by rw[←e2,a5q' e1 _ (by rw[Zf,Zf,←l3,←l4,←l1,←l2]),Zf,Zf,←l3,←l4,←l1,←l2]
   rw[e3];exact⟨RcAt.tuples p1 p2 hu hz,RcNeAt.tuples p1 p2 hu hz⟩
  |lst b=>obtain⟨a2,its2,vs2,rfl,p2,_⟩:=hy;cases h;exact⟨RcAt.tuple_list p1 p2 hu,RcNeAt.tuple_list p1 p2 hu⟩
 |lst a=>
  obtain⟨a1,its1,vs1,rfl,p1,q1,r1⟩:=hx;cases y with
  |non=>cases hy;cases h;exact⟨RcAt.list_none p1 hu,RcNeAt.list_none p1 hu⟩
  |bl b=>cases hy;cases h;exact⟨RcAt.list_bool b p1 hu,RcNeAt.list_bool b p1 hu⟩
  |int b=>obtain⟨t,rfl⟩:=hy;cases h;exact⟨RcAt.list_int b t p1 hu,RcNeAt.list_int b t p1 hu⟩
  |str b=>obtain⟨t,rfl⟩:=hy;cases h;exact⟨RcAt.list_str b t p1 hu,RcNeAt.list_str b t p1 hu⟩
  |tup b=>obtain⟨a2,its2,vs2,rfl,p2,_⟩:=hy;cases h;exact⟨RcAt.list_tuple p1 p2 hu,RcNeAt.list_tuple p1 p2 hu⟩
  |lst b=>
   obtain⟨a2,its2,vs2,rfl,p2,q2,r2⟩:=hy;have l1:=r1.length;have l2:=r2.length;have l3:=q1.length;have l4:=q2.length
   replace h:(if a.length=b.length then allO (List.zipWith f a b)else some false)=some k:=h;split at h
   ·rename_i hl;have hz:=a5p' F r1 q1 r2 q2 h
    have e3:k=(List.range its1.toArray.size).all (eJ (List.zipWith f a b)):=by rw[a5q' h _ (by rw[Zf,←l3,←l1];omega)]
    rw[e3];have hs:its1.toArray.size=its2.toArray.size:=by rw[Zf,Zf];omega
    exact⟨RcAt.lists p1 p2 hs hu hz,RcNeAt.lists p1 p2 hs hu hz⟩
   ·rename_i hl;cases h;have hs:(its1.toArray.size !=its2.toArray.size)=true:=by rw[Zf,Zf];simp;omega
    exact⟨RcAt.lists_lengths p1 p2 hs hu,RcNeAt.lists_lengths p1 p2 hs hu⟩
theorem a7C'(I:Inv X pq σ H s)(sk:SOk X.K ⟨X.mg,F⟩ μ S H):∀(n:Nat) (d e:D) (v:V) (k:Bool),Rep X.K ⟨X.mg,F⟩ μ H d v→Rep X.K ⟨X.mg,F⟩ μ H e v→eqF S n d e=some k→k=true:=by
 intro n
 induction n with
 |zero=>intro d e v k _ _ h;cases h
 |succ n ih=>
  intro d e v k rd re h
  have lists:∀(ds es:List D) (vs:List V) (k:Bool),RepL X.K ⟨X.mg,F⟩ μ H ds vs→RepL X.K ⟨X.mg,F⟩ μ H es vs→allO (List.zipWith (eqF S n) ds es)=some k→k=true:=by
   intro ds
   induction ds with
   |nil=>intro es vs k _ _ h;cases h;rfl
   |cons d ds ihl=>
    intro es vs k r1 r2 h;obtain⟨v,ws,rfl,a1,b1⟩:=r1.uncons;cases es with
    |nil=>cases h;rfl
    |cons e es=>
     obtain⟨v',ws',e1,a2,b2⟩:=r2.uncons;cases e1;rw[List.zipWith_cons_cons]at h;unfold allO at h;split at h
     ·rename_i x y e1 e2;cases h;rw[ih d e v x a1 a2 e1,ihl es ws y b1 b2 e2];rfl
     ·cases h
  unfold eqF at h;cases e1:sh S d with
  |none=>rw[e1]at h;cases h
  |some x=>
   cases e2:sh S e with
   |none=>rw[e1,e2]at h;cases h
   |some y=>
    rw[e1,e2]at h;replace h:eqS (eqF S n) x y=some k:=h
    obtain⟨u,ru⟩:∃u,RelV v u:=by
     cases v with
     |non=>exact⟨_,rfl⟩
     |bl b=>exact⟨_,rfl⟩
     |int i=>exact⟨.int i 0,0,rfl⟩
     |str x=>exact⟨.str x 0,0,rfl⟩
     |byt x=>exact⟨.bytes x 0,0,rfl⟩
     |flt x=>exact⟨.float x 0,0,rfl⟩
     |ref a=>exact⟨_,rfl⟩
     |ty n=>exact⟨_,rfl⟩
    have s1:=shIs I sk rd ru e1;have s2:=shIs I sk re ru e2
    have len:∀{ds es:List D} {vs ws:List V} {us:Lv},RepL X.K ⟨X.mg,F⟩ μ H ds vs→Vals vs us→RepL X.K ⟨X.mg,F⟩ μ H es ws→Vals ws us→vs=ws∧ds.length=es.length:=λr1 q1 r2 q2=>by have:=q1.inj q2;subst this;exact⟨rfl,r1.length.trans r2.length.symm⟩
    cases x with
    |non=>
     cases s1;cases y with
     |non=>cases h;rfl
     |bl b=>cases s2
     |int b=>obtain⟨t,z⟩:=s2;cases z
     |str b=>obtain⟨t,z⟩:=s2;cases z
     |tup b=>obtain⟨_,_,_,z,_⟩:=s2;cases z
     |lst b=>obtain⟨_,_,_,z,_⟩:=s2;cases z
    |bl a=>
     cases s1;cases y with
     |non=>cases s2
     |bl b=>cases s2;cases h;simp
     |int b=>obtain⟨t,z⟩:=s2;cases z
     |str b=>obtain⟨t,z⟩:=s2;cases z
     |tup b=>obtain⟨_,_,_,z,_⟩:=s2;cases z
     |lst b=>obtain⟨_,_,_,z,_⟩:=s2;cases z
    |int a=>
     obtain⟨t',rfl⟩:=s1;cases y with
     |non=>cases s2
     |bl b=>cases s2
     |int b=>obtain⟨t,z⟩:=s2;cases z;cases h;simp
     |str b=>obtain⟨t,z⟩:=s2;cases z
     |tup b=>obtain⟨_,_,_,z,_⟩:=s2;cases z
     |lst b=>obtain⟨_,_,_,z,_⟩:=s2;cases z
    |str a=>
     obtain⟨t',rfl⟩:=s1;cases y with
     |non=>cases s2
     |bl b=>cases s2
     |int b=>obtain⟨t,z⟩:=s2;cases z
     |str b=>obtain⟨t,z⟩:=s2;cases z;cases h;simp
     |tup b=>obtain⟨_,_,_,z,_⟩:=s2;cases z
     |lst b=>obtain⟨_,_,_,z,_⟩:=s2;cases z
    |tup a=>
     obtain⟨a1,its1,vs1,rfl,p1,q1,r1⟩:=s1;cases y with
     |non=>cases s2
     |bl b=>cases s2
     |int b=>obtain⟨t,z⟩:=s2;cases z
     |str b=>obtain⟨t,z⟩:=s2;cases z
     |tup b=>
      obtain⟨a2,its2,vs2,z,p2,q2,r2⟩:=s2;cases z
      have hi:its1=its2:=by
       obtain⟨o,ho,_,n,hd⟩:=p1;obtain⟨o',ho',_,n',hd'⟩:=p2;rw[ho]at ho';cases ho';rw[hd]at hd';injection hd' with z _
       simpa using congrArg Array.toList z
      subst hi;obtain⟨rfl,hl⟩:=len r1 q1 r2 q2;replace h:(allO (List.zipWith (eqF S n) a b)).map (· &&a.length==b.length)=some k:=h;obtain⟨k1,e3,e4⟩:=Option.map_eq_some_iff.mp h;rw[←e4,lists a b vs1 k1 r1 r2 e3,hl];simp
     |lst b=>obtain⟨a2,its2,vs2,z,p2,q2,r2⟩:=s2;cases z;obtain⟨o,ho,c,n,hd⟩:=p1;obtain⟨o',ho',c',n',hd'⟩:=p2;rw[ho]at ho';cases ho';rw[c]at c';exact absurd c' (by decide)
    |lst a=>
     obtain⟨a1,its1,vs1,rfl,p1,q1,r1⟩:=s1;cases y with
     |non=>cases s2
     |bl b=>cases s2
     |int b=>obtain⟨t,z⟩:=s2;cases z
     |str b=>obtain⟨t,z⟩:=s2;cases z
     |tup b=>obtain⟨a2,its2,vs2,z,p2,q2,r2⟩:=s2;cases z;obtain⟨o,ho,c,n,hd⟩:=p1;obtain⟨o',ho',c',n',hd'⟩:=p2;rw[ho]at ho';cases ho';rw[c]at c';exact absurd c' (by decide)
     |lst b=>
      obtain⟨a2,its2,vs2,z,p2,q2,r2⟩:=s2;cases z
      have hi:its1=its2:=by
       obtain⟨o,ho,_,n,hd⟩:=p1;obtain⟨o',ho',_,n',hd'⟩:=p2;rw[ho]at ho';cases ho';rw[hd]at hd';injection hd' with z _
       simpa using congrArg Array.toList z
      subst hi;obtain⟨rfl,hl⟩:=len r1 q1 r2 q2;replace h:(if a.length=b.length then allO (List.zipWith (eqF S n) a b)else some false)=some k:=h;rw[if_pos hl]at h;exact lists a b vs1 k r1 r2 h
theorem rcF(I:Inv X pq σ H s)(sk:SOk X.K ⟨X.mg,F⟩ μ S H):∀(n:Nat) (A:Around),A.units+n<cLine→∀d e v w u z k,Rep X.K ⟨X.mg,F⟩ μ H d v→RelV v u→Rep X.K ⟨X.mg,F⟩ μ H e w→RelV w z→eqF S n d e=some k→
  RcAt A s u z k∧RcNeAt A s u z (!k)∧EqAt A s u z k:=by
 intro n
 induction n with
 |zero=>intro A _ d e v w u z k _ _ _ _ h;cases h
 |succ n ih=>
  intro A hA d e v w u z k rd ru re rz h;have self:=λ(hv:v=w)=>a7C' I sk (n+1) d e v k rd (hv▸re) h;unfold eqF at h;cases e1:sh S d with
  |none=>rw[e1]at h;cases h
  |some x=>
   cases e2:sh S e with
   |none=>rw[e1,e2]at h;cases h
   |some y=>
    rw[e1,e2]at h;replace h:eqS (eqF S n) x y=some k:=h;have s1:=shIs I sk rd ru e1;have s2:=shIs I sk re rz e2;have hin:A.in1.units=A.units+1:=rfl;have F:Items A.in1 s (eqF S n) X.K ⟨X.mg,F⟩ μ H:=λd e v w u z k a b c d' h=>(ih A.in1 (by omega) d e v w u z k a b c d' h).2.2;obtain⟨c1,c2⟩:=rcS F (by omega) s1 s2 h;refine⟨c1,c2,?_⟩
    have refs:∀{l b:Addr},u=.ref l→z=.ref b→EqAt A s u z k:=λ{l b} eu ez=>by
     subst eu;subst ez;by_cases hl:l=b
     ·subst hl
      have hv:v=w:=by
       cases v<;>first| (cases ru;done)|skip
       all_goals first| (obtain⟨_,q⟩:=ru;cases q;done)|skip
       cases w<;>first| (cases rz;done)|skip
       all_goals first| (obtain⟨_,q⟩:=rz;cases q;done)|skip
       cases ru;cases rz;rfl
      rw[self hv];exact EqAt.same _
     ·exact .of_refs hl c1
    have hu:A.units<cLine:=by omega
    cases x with
    |non=>
     cases s1;cases y with
     |non=>cases s2;cases h;exact EqAt.same _
     |bl b=>cases s2;cases h;exact EqAt.none_bool b
     |int b=>obtain⟨t,rfl⟩:=s2;cases h;exact EqAt.none_int b t
     |str b=>obtain⟨t,rfl⟩:=s2;cases h;exact EqAt.none_str b t
     |tup b=>obtain⟨a,its,vs,rfl,p,_⟩:=s2;cases h;exact EqAt.none_tuple p hu
     |lst b=>obtain⟨a,its,vs,rfl,p,_⟩:=s2;cases h;exact EqAt.none_list p hu
    |bl a=>
     cases s1;cases y with
     |non=>cases s2;cases h;exact EqAt.bool_none a
     |bl b=>cases s2;cases h;exact EqAt.bool_bool a b
     |int b=>obtain⟨t,rfl⟩:=s2;cases h;exact EqAt.bool_int a b t
     |str b=>obtain⟨t,rfl⟩:=s2;cases h;exact EqAt.bool_str a b t
     |tup b=>obtain⟨_,its,vs,rfl,p,_⟩:=s2;cases h;exact EqAt.bool_tuple a p hu
     |lst b=>obtain⟨_,its,vs,rfl,p,_⟩:=s2;cases h;exact EqAt.bool_list a p hu
    |int a=>
     obtain⟨t',rfl⟩:=s1;cases y with
     |non=>cases s2;cases h;exact EqAt.int_none a t'
     |bl b=>cases s2;cases h;exact EqAt.int_bool a t' b
     |int b=>obtain⟨t,rfl⟩:=s2;cases h;exact EqAt.int_int a t' b t
     |str b=>obtain⟨t,rfl⟩:=s2;cases h;exact EqAt.int_str a t' b t
     |tup b=>obtain⟨_,its,vs,rfl,p,_⟩:=s2;cases h;exact EqAt.int_tuple a t' p hu
     |lst b=>obtain⟨_,its,vs,rfl,p,_⟩:=s2;cases h;exact EqAt.int_list a t' p hu
    |str a=>
     obtain⟨t',rfl⟩:=s1;cases y with
     |non=>cases s2;cases h;exact EqAt.str_none a t'
     |bl b=>cases s2;cases h;exact EqAt.str_bool a t' b
     |int b=>obtain⟨t,rfl⟩:=s2;cases h;exact EqAt.str_int a t' b t
     |str b=>obtain⟨t,rfl⟩:=s2;cases h;exact EqAt.str_str a t' b t
     |tup b=>obtain⟨_,its,vs,rfl,p,_⟩:=s2;cases h;exact EqAt.str_tuple a t' p hu
     |lst b=>obtain⟨_,its,vs,rfl,p,_⟩:=s2;cases h;exact EqAt.str_list a t' p hu
    |tup a=>
     obtain⟨a1,its1,vs1,rfl,p1,_⟩:=s1;cases y with
     |non=>cases s2;cases h;exact EqAt.tuple_none p1 hu
     |bl b=>cases s2;cases h;exact EqAt.tuple_bool b p1 hu
     |int b=>obtain⟨t,rfl⟩:=s2;cases h;exact EqAt.tuple_int b t p1 hu
     |str b=>obtain⟨t,rfl⟩:=s2;cases h;exact EqAt.tuple_str b t p1 hu
     |tup b=>obtain⟨_,its,vs,rfl,p,_⟩:=s2;exact refs rfl rfl
     |lst b=>obtain⟨_,its,vs,rfl,p,_⟩:=s2;exact refs rfl rfl
    |lst a=>
     obtain⟨a1,its1,vs1,rfl,p1,_⟩:=s1;cases y with
     |non=>cases s2;cases h;exact EqAt.list_none p1 hu
     |bl b=>cases s2;cases h;exact EqAt.list_bool b p1 hu
     |int b=>obtain⟨t,rfl⟩:=s2;cases h;exact EqAt.list_int b t p1 hu
     |str b=>obtain⟨t,rfl⟩:=s2;cases h;exact EqAt.list_str b t p1 hu
     |tup b=>obtain⟨_,its,vs,rfl,p,_⟩:=s2;exact refs rfl rfl
     |lst b=>obtain⟨_,its,vs,rfl,p,_⟩:=s2;exact refs rfl rfl
end
def ltL(eq lt:D→D→Option Bool):List D→List D→Option Bool
 | [],[]=>some false
 | [],_::_=>some true
 |_::_,[]=>some false
 |a::as,b::bs=>match eq a b with
  |some true=>ltL eq lt as bs
  |some false=>lt a b
  |none=>none
def ltF(S:Store):Nat→D→D→Option Bool
 |0,_,_=>none
 |n+1,.int a,.int b=>some (decide (a<b))
 |n+1,.tup a,.tup b=>ltL (eqF S n) (ltF S n) a b
 |_,_,_=>none
open PySem.SeqAt
def LtAt(A:Around)(s:Shared)(y x:Value)(b:Bool):Prop:=
 ∀(prog:Program) (w:World) (E:Vs) (Q:Vs),Q (.bool b) s→wpAny (model prog w) A (richCompare .Lt y x) Q E s
inductive LexAt (A:Around)(s:Shared):Lv→Lv→Bool→Prop where
 |nn:LexAt A s [] [] false
 |nc {w ws}:LexAt A s [] (w::ws) true
 |cn {v vs}:LexAt A s (v::vs) [] false
 |eq {v w vs ws k}:EqAt A s v w true→LexAt A s vs ws k→LexAt A s (v::vs) (w::ws) k
 |lt {v w vs ws k}:EqAt A s v w false→LtAt A s v w k→LexAt A s (v::vs) (w::ws) k
section
open PySem.AutoSeq1 (wpAny_loadPart')
open PySem.MeetsSeq PySem.MeetsSeq2 PySem.MeetsSeq3
theorem a2X'(l b:Addr)(items items2:Av)(n n2:Nat)(dd dd2:Option Addr)(sl sl2:Array (Ov))(k:Bool):
  Meets (Builtin.«tuple.__lt__» ⟨[.ref l,.ref b],[]⟩)
   (λA R s=>s.heap.get? l=some {cls:=.type "tuple",dict:=dd,data:=.seq items n,slots:=sl}∧s.heap.get? b=some {cls:=.type "tuple",dict:=dd2,data:=.seq items2 n2,slots:=sl2}∧
    LexAt A.in1 s items.toList items2.toList k∧R (.ok (.ret (.bool k))) s):=
 .of_wp λprog w A R s h=>by
  obtain⟨hp,g,d,tk,os⟩:=s;obtain⟨hl,hb,hx,h⟩:=h;have f2:=AutoSeq1.sub_tuple_tuple
  wp_walk using wpAny_loadPart' hl,wpAny_loadPart' hb,wpAny_forIn_list _ (λrest b s'=>b.1=none∧s'=⟨hp,g,d,tk,os⟩∧∃(vs ws:Lv),rest=vs.zip ws∧
   LexAt A.in1 ⟨hp,g,d,tk,os⟩ vs ws k∧vs.length+items2.size=ws.length+items.size∧R (.ok (.ret (.bool k))) ⟨hp,g,d,tk,os⟩) _
  case turn=>
   rintro⟨y,x⟩ rest b s' ⟨hb',rfl,vs,ws,hz,hvi,hlen,hR⟩;cases hvi with
   |nn=>rw[List.zip_nil_left]at hz;cases hz
   |nc=>rw[List.zip_nil_left]at hz;cases hz
   |cn=>rw[List.zip_nil_right]at hz;cases hz
   |eq he hr=>
    rw[List.zip_cons_cons]at hz;injection hz with hyx hrest
    injection hyx with hy hx
    subst hy hx;simp only[ZF]at hlen;refine Za (he prog w _ _ ?_)
    wp_walk
    exact⟨rfl,rfl,_,_,hrest,hr,by omega,hR⟩
   |lt he hr=>
    rw[List.zip_cons_cons]at hz;injection hz with hyx hrest
    injection hyx with hy hx
    subst hy hx;refine Za (he prog w _ _ ?_);have hri:=λ(E:Vs) (Q:Vs)=>hr prog w E Q
    wp_walk using hri
    exact⟨_,rfl,by simpa using hR⟩
  case fin=>
   rintro⟨b1,b2⟩ s' ⟨hb',rfl,vs,ws,hz,hvi,hlen,hR⟩;simp only at hb';subst hb'
   have hv:k=decide (items.size<items2.size):=by
    cases hvi with
    |nn=>simp only[List.length_nil]at hlen;exact(Zy (by omega)).symm
    |nc=>simp only[List.length_nil,ZF]at hlen;exact(ZS (by omega)).symm
    |cn=>simp only[List.length_nil,ZF]at hlen;exact(Zy (by omega)).symm
    |eq he hr=>rw[List.zip_cons_cons]at hz;cases hz
    |lt he hr=>rw[List.zip_cons_cons]at hz;cases hz
   rw[hv]at hR
   wp_walk
   exact⟨_,rfl,by simpa[Builtin.Tuple.tupleCompareSizes]using hR⟩
  case h=>exact⟨rfl,rfl,items.toList,items2.toList,rfl,hx,by simp;omega,h⟩
end
theorem LtAt.tuples{l b:Addr}{vs ws:Lv}{k:Bool}(hl:s.heap.IsTuple l vs.toArray)(hb:s.heap.IsTuple b ws.toArray)(hu:A.units<cLine)(hx:LexAt A.in1 s vs ws k):LtAt A s (.ref l) (.ref b) k:=λprog w E Q h=>by
 obtain⟨⟨cls,dd,data,sl⟩,ho,hc,n,hd⟩:=id hl;obtain⟨⟨cls2,dd2,data2,sl2⟩,ho2,hc2,n2,hd2⟩:=id hb;simp only at hc hd hc2 hd2;subst hc hd hc2 hd2
 exact richCompare_meets_room (op:=.Lt) ⟨_,ho,rfl⟩ ⟨_,ho2,rfl⟩ PySem.F.slot_tuple_lt PySem.F.entry_tuple_lt (PySem.F.args_tuple_lt_2 _ _) (a2X' l b vs.toArray ws.toArray n n2 dd dd2 sl sl2 k)
  ⟨ho,ho2,by simpa using hx,show Value.bool k≠Value.notImplemented∧Q (.bool k) s from⟨(λx=>nomatch x),h⟩⟩ hu
def LeAt(A:Around)(s:Shared)(y x:Value)(b:Bool):Prop:=
 ∀(prog:Program) (w:World) (E:Vs) (Q:Vs),Q (.bool b) s→wpAny (model prog w) A (richCompare .LtE y x) Q E s
inductive LexLe (A:Around)(s:Shared):Lv→Lv→Bool→Prop where
 |nl {ws}:LexLe A s [] ws true
 |cn {v vs}:LexLe A s (v::vs) [] false
 |eq {v w vs ws k}:EqAt A s v w true→LexLe A s vs ws k→LexLe A s (v::vs) (w::ws) k
 |le {v w vs ws k}:EqAt A s v w false→LeAt A s v w k→LexLe A s (v::vs) (w::ws) k
section
open PySem.AutoSeq1 (wpAny_loadPart')
open PySem.MeetsSeq PySem.MeetsSeq2 PySem.MeetsSeq3
theorem a5r'(l b:Addr)(xs ys:Av)(n n2:Nat)(dd dd2:Option Addr)(sl sl2:Array (Ov))(k:Bool):
  Meets (Builtin.«tuple.__le__» ⟨[.ref l,.ref b],[]⟩)
   (λA R s=>s.heap.get? l=some {cls:=.type "tuple",dict:=dd,data:=.seq xs n,slots:=sl}∧s.heap.get? b=some {cls:=.type "tuple",dict:=dd2,data:=.seq ys n2,slots:=sl2}∧
    LexLe A.in1 s xs.toList ys.toList k∧R (.ok (.ret (.bool k))) s):=
 .of_wp λprog w A R s h=>by
  obtain⟨hp,g,d,tk,os⟩:=s;obtain⟨hl,hb,hx,h⟩:=h;have f2:=AutoSeq1.sub_tuple_tuple
  wp_walk using wpAny_loadPart' hl,wpAny_loadPart' hb,wpAny_forIn_list _ (λrest b s'=>b.1=none∧s'=⟨hp,g,d,tk,os⟩∧∃(vs ws:Lv),rest=vs.zip ws∧
   LexLe A.in1 ⟨hp,g,d,tk,os⟩ vs ws k∧vs.length+ys.size=ws.length+xs.size∧R (.ok (.ret (.bool k))) ⟨hp,g,d,tk,os⟩) _
  case turn=>
   rintro⟨y,x⟩ rest b s' ⟨hb',rfl,vs,ws,hz,hvi,hlen,hR⟩;cases hvi with
   |nl=>rw[List.zip_nil_left]at hz;cases hz
   |cn=>rw[List.zip_nil_right]at hz;cases hz
   |eq he hr=>
    rw[List.zip_cons_cons]at hz;injection hz with hyx hrest
    injection hyx with hy hx
    subst hy hx;simp only[ZF]at hlen;refine Za (he prog w _ _ ?_)
    wp_walk
    exact⟨rfl,rfl,_,_,hrest,hr,by omega,hR⟩
   |le he hr=>
    rw[List.zip_cons_cons]at hz;injection hz with hyx hrest
    injection hyx with hy hx
    subst hy hx;refine Za (he prog w _ _ ?_);have hri:=λ(E:Vs) (Q:Vs)=>hr prog w E Q
    wp_walk using hri
    exact⟨_,rfl,by simpa using hR⟩
  case fin=>
   rintro⟨b1,b2⟩ s' ⟨hb',rfl,vs,ws,hz,hvi,hlen,hR⟩;simp only at hb';subst hb'
   have hv:k=decide (xs.size≤ys.size):=by
    cases hvi with
    |nl=>simp only[List.length_nil]at hlen;exact(ZS (by omega)).symm
    |cn=>simp only[List.length_nil,ZF]at hlen;exact(Zy (by omega)).symm
    |eq he hr=>rw[List.zip_cons_cons]at hz;cases hz
    |le he hr=>rw[List.zip_cons_cons]at hz;cases hz
   rw[hv]at hR
   wp_walk
   exact⟨_,rfl,by simpa[Builtin.Tuple.tupleCompareSizes]using hR⟩
  case h=>exact⟨rfl,rfl,xs.toList,ys.toList,rfl,hx,by simp;omega,h⟩
end
theorem a6L'{l b:Addr}{vs ws:Lv}{k:Bool}(hl:s.heap.IsTuple l vs.toArray)(hb:s.heap.IsTuple b ws.toArray)(hu:A.units<cLine)(hx:LexLe A.in1 s vs ws k):LeAt A s (.ref l) (.ref b) k:=λprog w E Q h=>by
 obtain⟨⟨cls,dd,data,sl⟩,ho,hc,n,hd⟩:=id hl;obtain⟨⟨cls2,dd2,data2,sl2⟩,ho2,hc2,n2,hd2⟩:=id hb;simp only at hc hd hc2 hd2;subst hc hd hc2 hd2
 exact richCompare_meets_room (op:=.LtE) ⟨_,ho,rfl⟩ ⟨_,ho2,rfl⟩ PySem.F.slot_tuple_le PySem.F.entry_tuple_le (PySem.F.args_tuple_le_2 _ _) (a5r' l b vs.toArray ws.toArray n n2 dd dd2 sl sl2 k)
  ⟨ho,ho2,by simpa using hx,show Value.bool k≠Value.notImplemented∧Q (.bool k) s from⟨(λx=>nomatch x),h⟩⟩ hu
def leI:List D→List D→Option Bool
 | [],_=>some true
 |_::_,[]=>some false
 | .int a::as,.int b::bs=>if a=b then leI as bs else some (decide (a≤b))
 |_::_,_::_=>none
theorem leI_at{K:Fg}{mg:GS}{μ:La}{H:Hp}{A:Around}{s:Shared}:∀(ds es:List D) (vs ws:List V) (us zs:Lv) (k:Bool),RepL K mg μ H ds vs→Vals vs us→RepL K mg μ H es ws→Vals ws zs→leI ds es=some k→LexLe A s us zs k
 | [],es,vs,ws,us,zs,k,r1,q1,r2,q2,h=>by
  unfold RepL at r1;subst r1;have:=q1.zero;subst this
  cases h;exact .nl
 |d::ds,[],vs,ws,us,zs,k,r1,q1,r2,q2,h=>by
  obtain⟨v,vs,rfl,a1,b1⟩:=r1.uncons;unfold RepL at r2;subst r2;have:=q2.zero;subst this
  cases q1;have h':some false=some k:=by cases d<;>exact h
  cases h';exact .cn
 |d::ds,e::es,vs,ws,us,zs,k,r1,q1,r2,q2,h=>by
  obtain⟨v,vs,rfl,a1,b1⟩:=r1.uncons;obtain⟨w,ws,rfl,a2,b2⟩:=r2.uncons;cases d with
  |int a=>cases e with
   |int b=>
    have:=a0a' a1;have:=a0a' a2;subst v w
    cases q1 with
    |cons c1 d1=>cases q2 with
     |cons c2 d2=>
      obtain⟨t,rfl⟩:=c1;obtain⟨t',rfl⟩:=c2;have h':(if a=b then leI ds es else some (decide (a≤b)))=some k:=h;have he:=EqAt.int_int (A:=A) (s:=s) a t b t';by_cases hab:a=b
      ·rw[if_pos hab]at h';have e1:(a==b)=true:=by simpa using hab
       rw[e1]at he;exact .eq he (leI_at ds es vs ws _ _ k b1 d1 b2 d2 h')
      ·rw[if_neg hab]at h';have e1:(a==b)=false:=by simpa using hab
       rw[e1]at he;cases h';exact .le he λprog w E Q hq=>(PyProof.Rows.le_int hq:wpAny (model prog w) A (compareOp .LtE (.int _ t) (.int _ t')) Q E s)
   |_=>cases h
  |_=>
   have h':(none:Option Bool)=some k:=by cases e<;>exact h
   cases h'
theorem ltF_at(I:Inv X pq σ H s)(sk:SOk X.K ⟨X.mg,F⟩ μ S H):∀(n:Nat) (A:Around),A.units+n<cLine→∀d e v w u z k,Rep X.K ⟨X.mg,F⟩ μ H d v→RelV v u→Rep X.K ⟨X.mg,F⟩ μ H e w→RelV w z→ltF S n d e=some k→LtAt A s u z k:=by
 intro n
 induction n with
 |zero=>intro A _ d e v w u z k _ _ _ _ h;cases h
 |succ n ih=>
  intro A hA d e v w u z k rd ru re rz h;have hin:A.in1.units=A.units+1:=rfl
  have lex:∀(ds es:List D) (vs ws:List V) (us zs:Lv),RepL X.K ⟨X.mg,F⟩ μ H ds vs→Vals vs us→RepL X.K ⟨X.mg,F⟩ μ H es ws→Vals ws zs→ltL (eqF S n) (ltF S n) ds es=some k→LexAt A.in1 s us zs k:=by
   intro ds
   induction ds with
   |nil=>
    intro es vs ws us zs r1 q1 r2 q2 h;unfold RepL at r1;subst r1;have:=q1.zero;subst this
    cases es with
    |nil=>unfold RepL at r2;subst r2;have:=q2.zero;subst this;cases h;exact .nn
    |cons e es=>obtain⟨w,ws,rfl,_,_⟩:=r2.uncons;cases q2;cases h;exact .nc
   |cons d ds ihl=>
    intro es vs ws us zs r1 q1 r2 q2 h;obtain⟨v,vs,rfl,a1,b1⟩:=r1.uncons;cases q1 with
    |cons c1 d1=>
     cases es with
     |nil=>unfold RepL at r2;subst r2;have:=q2.zero;subst this;cases h;exact .cn
     |cons e es=>
      obtain⟨w,ws,rfl,a2,b2⟩:=r2.uncons;cases q2 with
      |cons c2 d2=>
       unfold ltL at h;split at h
       ·rename_i he;exact .eq (rcF I sk n A.in1 (by omega) d e v w _ _ true a1 c1 a2 c2 he).2.2 (ihl es vs ws _ _ b1 d1 b2 d2 h)
       ·rename_i he;exact .lt (rcF I sk n A.in1 (by omega) d e v w _ _ false a1 c1 a2 c2 he).2.2 (ih A.in1 (by omega) d e v w _ _ k a1 c1 a2 c2 h)
       ·cases h
  unfold ltF at h;split at h
  ·rename_i h0;cases h0
  ·have:=a0a' rd;have:=a0a' re;subst v w
   obtain⟨t,rfl⟩:=ru;obtain⟨t',rfl⟩:=rz;cases h;exact λprog w E Q hq=>(PyProof.Rows.lt_int hq:wpAny (model prog w) A (compareOp .Lt (.int _ t) (.int _ t')) Q E s)
  ·rename_i n' ds es heq;cases heq;obtain⟨a,vs,rfl,h1,r1⟩:=a0m' rd;obtain⟨b,ws,rfl,h2,r2⟩:=a0m' re;cases ru;cases rz;obtain⟨us,q1,p1,_⟩:=I.tuple h1;obtain⟨zs,q2,p2,_⟩:=I.tuple h2;exact LtAt.tuples p1 p2 (by omega) (lex ds es vs ws us zs r1 q1 r2 q2 h)
  ·cases h
def deep:Nat:=40
def isNon:D→Bool
 | .non=>true
 |_=>false
def boolR(o:Option Bool)(S:Store):Res D:=match o with
 |some k=>.ok (.bl k) S
 |none=>.fail
def leD(d e:D)(S:Store):Res D:=match d,e with
 | .int i,.int j=>.ok (.bl (decide (i≤j))) S
 | .tup a,.tup b=>boolR (leI a b) S
 |_,_=>.fail
def gtD(d e:D)(S:Store):Res D:=match d,e with
 | .int i,.int j=>.ok (.bl (decide (j<i))) S
 |_,_=>.fail
def geD(d e:D)(S:Store):Res D:=match d,e with
 | .int i,.int j=>.ok (.bl (decide (j≤i))) S
 |_,_=>.fail
def isD(d e:D)(S:Store):Res D:=match e with
 | .non=>.ok (.bl (isNon d)) S
 |_=>.fail
def a8q'(d e:D)(S:Store):Res D:=match e with
 | .non=>.ok (.bl (!isNon d)) S
 |_=>.fail
def cmpD(op:CmpOp)(d e:D)(S:Store):Res D:=match op with
 | .Eq=>boolR (eqF S deep d e) S
 | .NotEq=>boolR ((eqF S deep d e).map not) S
 | .Lt=>boolR (ltF S deep d e) S
 | .LtE=>leD d e S
 | .Gt=>gtD d e S
 | .GtE=>geD d e S
 | .In=>.fail
 | .NotIn=>.fail
 | .Is=>isD d e S
 | .IsNot=>a8q' d e S
theorem a7D'{mg:GS}(r:Rep K mg μ H d v):decide (v=.non)=isNon d:=by
 cases d with
 |non=>cases a1X' r;rfl
 |bl b=>cases a2W' r;rfl
 |int b=>cases a0a' r;rfl
 |str b=>cases a1I' r;rfl
 |tup b=>obtain⟨a,vs,rfl,_⟩:=a0m' r;rfl
 |lst b=>unfold Rep at r;obtain⟨a,vs,rfl,_⟩:=r;rfl
 |ref b=>unfold Rep at r;obtain⟨a,rfl,_⟩:=r;rfl
 |scr b=>unfold Rep at r;obtain⟨a,vs,rfl,_⟩:=r;rfl
 |fn b=>unfold Rep at r;obtain⟨a,rfl,_⟩:=r;rfl
 |dct=>unfold Rep at r;obtain⟨a,rfl,_⟩:=r;rfl
 |ty n=>unfold Rep at r;cases r;rfl
theorem a1d'{mg:GS}{Q:VK}{o:Option Bool}(w:Want K mg μ H Q (boolR o S))(sk:SOk K mg μ S H):∃k,o=some k∧Q (.bl k) H:=by
 cases o with
 |none=>exact w.elim
 |some k=>exact⟨k,rfl,w.now sk repBl⟩
theorem cmp_D(op:CmpOp)(hu:X.A.units+64<cLine):OpR X (compareOp op) (rD X.K X.mg (cmpD op)):=by
 intro pq s σ H x y v u Q I rx ry h;obtain⟨F,μ,S,d,e,sk,rd,re,w⟩:=h;have hd:deep=40:=rfl;have fin:∀{k:Bool},Q (.bl k) H→EP X pq σ Q (.bool k) s:=λ{k} q=>⟨.bl k,H,I,rfl,q⟩;cases op with
 |Eq=>obtain⟨k,e1,q⟩:=a1d' (o:=eqF S deep d e) w sk;exact(rcF I sk deep X.A (by omega) d e x y v u k rd rx re ry e1).1 X.prog X.w _ _ (fin q)
 |NotEq=>obtain⟨k,e1,q⟩:=a1d' (o:=(eqF S deep d e).map not) w sk;obtain⟨k',e2,rfl⟩:=Option.map_eq_some_iff.mp e1;exact(rcF I sk deep X.A (by omega) d e x y v u k' rd rx re ry e2).2.1 X.prog X.w _ _ (fin q)
 |Lt=>obtain⟨k,e1,q⟩:=a1d' (o:=ltF S deep d e) w sk;exact ltF_at I sk deep X.A (by omega) d e x y v u k rd rx re ry e1 X.prog X.w _ _ (fin q)
 |LtE=>
  replace w:Want X.K ⟨X.mg,F⟩ μ H Q (leD d e S):=w;unfold leD at w;split at w
  ·have:=a0a' rd;have:=a0a' re;subst x y
   exact op_le pq s σ H _ _ v u Q I rx ry ⟨_,_,rfl,rfl,w.now sk repBl⟩
  ·rename_i as bs;obtain⟨k,e1,q⟩:=a1d' (o:=leI as bs) w sk;obtain⟨a,vs,rfl,h1,r1⟩:=a0m' rd;obtain⟨b,ws,rfl,h2,r2⟩:=a0m' re;cases rx;cases ry;obtain⟨us,q1,p1,_⟩:=I.tuple h1;obtain⟨zs,q2,p2,_⟩:=I.tuple h2;exact a6L' p1 p2 (by omega) (leI_at as bs vs ws us zs k r1 q1 r2 q2 e1) X.prog X.w _ _ (fin q)
  ·exact w.elim
 |Gt=>
  replace w:Want X.K ⟨X.mg,F⟩ μ H Q (gtD d e S):=w;unfold gtD at w;split at w
  ·have:=a0a' rd;have:=a0a' re;subst x y
   exact op_gt pq s σ H _ _ v u Q I rx ry ⟨_,_,rfl,rfl,w.now sk repBl⟩
  ·exact w.elim
 |GtE=>
  replace w:Want X.K ⟨X.mg,F⟩ μ H Q (geD d e S):=w;unfold geD at w;split at w
  ·have:=a0a' rd;have:=a0a' re;subst x y
   exact op_ge pq s σ H _ _ v u Q I rx ry ⟨_,_,rfl,rfl,w.now sk repBl⟩
  ·exact w.elim
 |In=>exact w.elim
 |NotIn=>exact w.elim
 |Is=>
  replace w:Want X.K ⟨X.mg,F⟩ μ H Q (isD d e S):=w;unfold isD at w;split at w
  ·cases a1X' re;exact op_isN pq s σ H _ _ v u Q I rx ry ⟨rfl,by rw[a7D' rd];exact w.now sk repBl⟩
  ·exact w.elim
 |IsNot=>
  replace w:Want X.K ⟨X.mg,F⟩ μ H Q (a8q' d e S):=w;unfold a8q' at w;split at w
  ·cases a1X' re;exact op_notN pq s σ H _ _ v u Q I rx ry ⟨rfl,by rw[a7D' rd];exact w.now sk repBl⟩
  ·exact w.elim
end Py
namespace Py
def rC(K:Fg)(mg:Mg)(g:List D→Store→Res D):List V→Hp→VK→Prop:=λxs H Q=>∃F μ S ds,SOk K ⟨mg,F⟩ μ S H∧RepL K ⟨mg,F⟩ μ H ds xs∧Want K ⟨mg,F⟩ μ H Q (g ds S)
theorem RepL.one{mg:GS}{vs:List V}(r:RepL K mg μ H [d] vs):∃v,vs=[v]∧Rep K mg μ H d v:=by obtain⟨v,ws,rfl,h,t⟩:=r.uncons;unfold RepL at t;subst t;exact⟨v,rfl,h⟩
theorem RepL.two{mg:GS}{e:D}{vs:List V}(r:RepL K mg μ H [d,e] vs):∃v w,vs=[v,w]∧Rep K mg μ H d v∧Rep K mg μ H e w:=by obtain⟨v,ws,rfl,h,t⟩:=r.uncons;obtain⟨w,rfl,h2⟩:=t.one;exact⟨v,w,rfl,h,h2⟩
theorem atI_rep{mg:GS}{vs:List V}{i:Int}(r:RepL K mg μ H ds vs)(h:atI ds i=some d):∃v,atI vs i=some v∧Rep K mg μ H d v:=by
 unfold atI at h⊢;rw[←r.length];cases e:ixN ds.length i with
 |none=>rw[e]at h;cases h
 |some j=>rw[e]at h;exact r.get h
def idxD(d e:D)(S:Store):Res D:=match seqOf S d,e with
 |some xs,.int i=>match atI xs i with
  |some y=>.ok y S
  |none=>.fail
 |_,_=>.fail
theorem ix_D:IxR X (rD X.K X.mg idxD):=by
 intro value slice pq s σ H x y v u Q I rx ry h hsub;obtain⟨F,μ,S,d,e,sk,rd,re,w⟩:=h;unfold idxD at w;split at w
 ·rename_i xs i e1;split at w
  ·rename_i y' e2;obtain⟨a,vs,rfl,hq,r⟩:=a2V' sk rd e1;cases a0a' re;obtain⟨z,h1,h2⟩:=atI_rep r e2;rcases hq with hq|hq
   ·exact a5m' value slice pq s σ H _ _ v u Q I rx ry ⟨a,vs,i,z,rfl,rfl,hq,h1,w.now sk h2⟩ hsub
   ·exact ix_tup value slice pq s σ H _ _ v u Q I rx ry ⟨a,vs,i,z,rfl,rfl,hq,h1,w.now sk h2⟩ hsub
  ·exact w.elim
 ·exact w.elim
def lenD(ds:List D)(S:Store):Res D:=match ds with
 | [.str x]=>if x.length≤big then .ok (.int x.length) S else .fail
 | [d]=>match seqOf S d with
  |some xs=>.ok (.int xs.length) S
  |none=>.fail
 |_=>.fail
theorem len_D:CallR X (.builtin "len") (rC X.K X.mg lenD):=by
 intro pq s σ H xs us Q I r h;obtain⟨F,μ,S,ds,sk,rd,w⟩:=h;have hb:=a5o';unfold lenD at w;split at w
 ·split at w
  ·obtain⟨v,rfl,hv⟩:=rd.one;cases a1I' hv;exact a3B' pq s σ H _ us Q I r ⟨_,rfl,by omega,w.now sk a0H'⟩
  ·exact w.elim
 ·split at w
  ·rename_i xs' e;obtain⟨v,rfl,hv⟩:=rd.one;obtain⟨a,vs,rfl,hq,r2⟩:=a2V' sk hv e;refine a3A' pq s σ H _ us Q I r ⟨a,vs,rfl,hq,?_⟩;rw[←r2.length];exact w.now sk a0H'
  ·exact w.elim
 ·exact w.elim
def a8r'(ds:List D)(S:Store):Res D:=match ds with
 | [.tup xs]=>.ok (.tup xs) S
 | [d]=>match seqOf S d with
  |some xs=>.ok (.tup xs) S
  |none=>.fail
 |_=>.fail
theorem a5s'{mg:GS}{xs:List D}(s:SOk K mg μ S H)(r:Rep K mg μ H d v)(e:seqOf S d=some xs)(hd:∀ys,d≠.tup ys):∃a vs,v=.ref a∧SqL K H a vs∧RepL K mg μ H xs vs:=by
 cases d with
 |lst ys=>obtain⟨a,vs,e1,h,q⟩:=a0C' s r (show a2D' S (.lst ys)=some xs from e);exact⟨a,vs,e1,.of h,q⟩
 |ref n=>obtain⟨a,vs,e1,h,q⟩:=a0C' s r (show a2D' S (.ref n)=some xs from e);exact⟨a,vs,e1,.of h,q⟩
 |tup ys=>exact absurd rfl (hd ys)
 |scr ys=>unfold seqOf at e;cases e;unfold Rep at r;obtain⟨a,vs,e,h,q⟩:=r;exact⟨a,vs,e,h.sq,q⟩
 |_=>cases e
theorem tuple_D:CallR X (.type "tuple") (rC X.K X.mg a8r'):=by
 intro pq s σ H xs us Q I r h;obtain⟨F,μ,S,ds,sk,rd,w⟩:=h;unfold a8r' at w;split at w
 ·obtain⟨v,rfl,hv⟩:=rd.one;obtain⟨a,vs,rfl,hq,r2⟩:=a0m' hv;exact a1H' pq s σ H _ us Q I r ⟨a,vs,rfl,.inr ⟨hq,w.now sk hv⟩⟩
 ·rename_i d hd;split at w
  ·rename_i xs' e;obtain⟨v,rfl,hv⟩:=rd.one;obtain⟨a,vs,rfl,hq,r2⟩:=a5s' sk hv e (λys z=>hd ys (by rw[z]));exact a1H' pq s σ H _ us Q I r ⟨a,vs,rfl,.inl ⟨hq,λp hp=>w.tup sk r2 p hp⟩⟩
  ·exact w.elim
 ·exact w.elim
def intD(ds:List D)(S:Store):Res D:=match ds with
 | [.int i]=>.ok (.int i) S
 | [.bl b]=>.ok (.int (if b then 1 else 0)) S
 |_=>.fail
theorem int_D:CallR X (.type "int") (rC X.K X.mg intD):=by
 intro pq s σ H xs us Q I r h;obtain⟨F,μ,S,ds,sk,rd,w⟩:=h;unfold intD at w;split at w
 ·obtain⟨v,rfl,hv⟩:=rd.one;cases a0a' hv;exact a3W' pq s σ H _ us Q I r (.inl ⟨_,rfl,w.now sk a0H'⟩)
 ·obtain⟨v,rfl,hv⟩:=rd.one;cases a2W' hv;exact a3W' pq s σ H _ us Q I r (.inr ⟨_,rfl,w.now sk a0H'⟩)
 ·exact w.elim
def truD(S:Store):D→Option Bool
 | .non=>some false
 | .bl b=>some b
 | .int i=>some (i !=0)
 | .str x=>if x.length≤big then some ((x.length:Int) !=0)else none
 |d=>(seqOf S d).map λxs=> !xs.isEmpty
theorem tru_D{mg:GS}{k:Bool}(sk:SOk K mg μ S H)(r:Rep K mg μ H d v)(e:truD S d=some k):TruV K v H k:=by
 have hb:=a5o'
 have seq:∀(xs:List D),seqOf S d=some xs→k= !xs.isEmpty→TruV K v H k:=λxs e1 e2=>by
  obtain⟨a,vs,rfl,hq,q⟩:=a2V' sk r e1;have hl:=q.length;have e3:xs.isEmpty=vs.isEmpty:=by cases xs<;>cases vs<;>simp at hl⊢
  rw[e3]at e2;rcases hq with hq|hq
  ·exact .inl ⟨vs,hq,e2⟩
  ·exact .inr (.inl ⟨vs,hq,e2⟩)
 have sq2:(seqOf S d).map (λxs=> !xs.isEmpty)=some k→TruV K v H k:=λh=>by obtain⟨xs,e1,e2⟩:=Option.map_eq_some_iff.mp h;exact seq xs e1 e2.symm
 cases d with
 |non=>cases a1X' r;cases e;rfl
 |bl b=>cases a2W' r;cases e;rfl
 |int b=>cases a0a' r;cases e;rfl
 |str b=>
  cases a1I' r;replace e:(if b.length≤big then some ((b.length:Int) !=0)else none)=some k:=e;split at e
  ·cases e;exact⟨by omega,rfl⟩
  ·cases e
 |tup b=>exact sq2 e
 |lst b=>exact sq2 e
 |ref b=>exact sq2 e
 |scr b=>exact sq2 e
 |fn b=>exact sq2 e
 |dct=>exact sq2 e
 |ty b=>exact sq2 e
def cutL(xs:List D)(lo hi:Option Int):List D:=(xs.drop (HT.sIx xs.length 0 lo)).take (HT.sIx xs.length xs.length hi-HT.sIx xs.length 0 lo)
theorem a5t'{mg:GS}{vs:List V}{lo:Option Int}(r:RepL K mg μ H ds vs):RepL K mg μ H (cutL ds lo hi) (cutV vs lo hi):=by unfold cutL cutV;rw[r.length];exact(r.drop _).take _
def slD(d:D)(lo hi:Option Int)(S:Store):Res D:=match d with
 | .tup xs=>.ok (.tup (cutL xs lo hi)) S
 |d=>match seqOf S d with
  |some xs=>.ok (.lst (cutL xs lo hi)) S
  |none=>.fail
def rSl(K:Fg)(mg:Mg):V→Option Int→Option Int→Hp→VK→Prop:=λx lo hi H Q=>∃F μ S d,SOk K ⟨mg,F⟩ μ S H∧Rep K ⟨mg,F⟩ μ H d x∧Want K ⟨mg,F⟩ μ H Q (slD d lo hi S)
theorem a1t'{t:Addr}{lo:Option Int}(ht:IsTup s.heap t items)(hs:s.heap.IsSliceOf sl vl vu .none)(pl:IsPart vl lo)(pu:IsPart vu hi)
  (hw:HT.sIx items.size 0 lo=0∧HT.sIx items.size items.size hi=items.size) (h:Q (.ref t) s):wpAny (model prog w) A (getItem (.ref t) (.ref sl)) Q E s:=by
 obtain⟨os,hos,hcs,hds⟩:=id hs;have hTs:s.TypeIs (.ref sl) "slice":=⟨os,hos,hcs⟩;unfold getItem
 try with_reducible refine wpAny_holding ?_
 first|refine Za (Zg ?_)|skip
 refine Za (wpAny_sequenceKey ht.typeIs (by decide) ?_)
 refine Za (wpAny_callSpecial?_slot (name:=Str.ofString "__getitem__") ht.typeIs PyProof.Rows.slot_tuple_getitem
  (wpAny_call_entry PyProof.Rows.slot_tuple_getitem ht.typeIs entry_tuple_getitem ?_ (args_tuple_getitem _ _)))
 show wpAny _ _ (Builtin.Tuple.tupleItemsOf (.ref t)>>=_) _ _ s;refine Za (tupleItemsOf_ ht ?_);refine Za (wpAny_typeOf hTs ?_);rw[if_pos (by decide)];refine Za (HT.a0W' hs pl pu ?_);have hyes:((((HT.sIx items.size 0 lo:Nat):Int)==0&&(1:Int)==1&&(HT.sIx items.size items.size hi-HT.sIx items.size 0 lo)==items.size)=true):=by rw[hw.1,hw.2];simp
 show wpAny _ _ (if(((HT.sIx items.size 0 lo:Nat):Int)==0&&(1:Int)==1&&(HT.sIx items.size items.size hi-HT.sIx items.size 0 lo)==items.size)=true then _ else _) _ _ s;rw[if_pos hyes];refine Za (m:=Builtin.Tuple.tupleIsExact (.ref t)) ?_;unfold Builtin.Tuple.tupleIsExact;refine Za (wpAny_typeOf ht.typeIs (Zg ?_));rw[if_pos (by decide)];exact Za (wpAny_rule (Zg ⟨_,rfl,Zg h⟩))
theorem sl_D:SlR X (rSl X.K X.mg):=by
 intro pq s σ H x v vl vu lo hi sl Q I rx hs pl pu h;obtain⟨F,μ,S,d,sk,rd,w⟩:=h;unfold slD at w;split at w
 ·rename_i xs;obtain⟨a,vs,rfl,hq,r⟩:=a0m' rd;have hl:=r.length;by_cases hc:HT.sIx vs.length 0 lo=0∧HT.sIx vs.length vs.length hi=vs.length
  ·cases rx;obtain⟨its,rv,ht,hz⟩:=I.tuple hq;have hlen:its.toArray.size=vs.length:=by rw[Zf];exact rv.length.symm
   refine⟨"tuple",_,PyProof.Rows.slot_tuple_getitem.lookup,ht.typeIs,?_⟩;refine a1t' ht hs pl pu (by rw[hlen];exact hc) ⟨.ref a,H,I,rfl,?_⟩;have e:cutL xs lo hi=xs:=by unfold cutL;rw[hl,hc.1,hc.2];simp[←hl]
   rw[e]at w;exact w.now sk rd
  ·exact sl_tup pq s σ H _ v vl vu lo hi sl Q I rx hs pl pu ⟨a,vs,rfl,hq,hc,λp hp=>w.tup sk (a5t' r) p hp⟩
 ·rename_i d hd;split at w
  ·rename_i xs e;obtain⟨a,vs,rfl,hq,r⟩:=a5s' sk rd e (λys z=>hd ys z);exact sl_list pq s σ H _ v vl vu lo hi sl Q I rx hs pl pu ⟨a,vs,rfl,hq,λp hp=>w.lst sk (a5t' r) p hp⟩
  ·exact w.elim
def tyName(S:Store):D→Option String
 | .non=>some "NoneType"
 | .bl _=>some "bool"
 | .int _=>some "int"
 | .str _=>some "str"
 | .tup _=>some "tuple"
 | .lst _=>some "list"
 | .ref n=>(S[n]?).map λ_=>"list"
 | .scr _=>some "list"
 | .dct=>some "dict"
 |_=>none
def subTy(t c:String):Option Bool:=
 if ["NoneType","bool","int","str","tuple","list","dict"].contains t&&["bool","int","str","tuple","list","dict"].contains c then some (t==c||(t=="bool"&&c=="int"))else none
theorem kit_sub{t c:String}{b:Bool}(h:subTy t c=some b):PySem.W.kitOne K (.type t) (.type c)=some b:=by
 unfold subTy at h;split at h
 ·rename_i hc;rw[ZA]at hc;simp at hc;cases h;obtain⟨h1,h2⟩:=hc;rcases h1 with rfl|rfl|rfl|rfl|rfl|rfl|rfl<;>rcases h2 with rfl|rfl|rfl|rfl|rfl|rfl<;>first|rfl|decide+kernel
 ·cases h
def a5u'(ds:List D)(S:Store):Res D:=match ds with
 | [d,.ty c]=>match tyName S d with
  |some t=>boolR (subTy t c) S
  |none=>.fail
 |_=>.fail
theorem a8s':CallR X (.builtin "isinstance") (rC X.K X.mg a5u'):=by
 intro pq s σ H xs us Q I r h;obtain⟨F,μ,S,ds,sk,rd,w⟩:=h;unfold a5u' at w;split at w
 ·rename_i d c;split at w
  ·rename_i t et;obtain⟨b,eb,q⟩:=a1d' w sk;obtain⟨v,z,rfl,hv,hz⟩:=rd.two;have hz':z=.ty c:=by unfold Rep at hz;exact hz
   subst hz';obtain⟨u,y,rfl,ru,ry⟩:=r.two;cases ry;have e:=kit_sub (K:=X.K) eb;have fin:∀tk,EP X pq σ Q (.bool b) {s with toks:=tk}:=λtk=>⟨.bl b,H,I.tok _,rfl,q⟩
   have lst:∀a vs,v=.ref a→SqL X.K H a vs→t="list"→wpAny (model X.prog X.w) X.A (call (.builtin "isinstance") [u,.type c]) (EP X pq σ Q) X.xe s:=λa vs ev hq et=>by subst ev;subst et;cases ru;obtain⟨its,rv,pl,_⟩:=I.list hq;obtain⟨o,h1,h2,_⟩:=pl.isList;exact PySem.W.kia_one PySem.W.kitx_list I.kIn ⟨o,h1,h2⟩ e (λz=>nomatch z) fin
   cases d with
   |non=>cases a1X' hv;cases ru;cases et;exact PySem.W.kia_one PySem.W.kitx_none I.kIn True.intro e (λz=>nomatch z) fin
   |bl b=>cases a2W' hv;cases ru;cases et;exact PySem.W.kia_one PySem.W.kitx_bool I.kIn True.intro e (λz=>nomatch z) fin
   |int b=>cases a0a' hv;obtain⟨t,rfl⟩:=ru;cases et;exact PySem.W.kia_one PySem.W.kitx_int I.kIn True.intro e (λz=>nomatch z) fin
   |str b=>cases a1I' hv;obtain⟨t,rfl⟩:=ru;cases et;exact PySem.W.kia_one PySem.W.kitx_str I.kIn True.intro e (λz=>nomatch z) fin
   |tup b=>obtain⟨a,vs,rfl,hq,_⟩:=a0m' hv;cases ru;cases et;obtain⟨its,rv,p,_⟩:=I.tuple hq;obtain⟨o,h1,h2,_⟩:=p;exact PySem.W.kia_one PySem.W.kitx_tuple I.kIn ⟨o,h1,h2⟩ e (λz=>nomatch z) fin
   |lst b=>obtain⟨a,vs,rfl,hq,_⟩:=a0C' sk hv rfl;cases et;exact lst a vs rfl (.of hq) rfl
   |ref n=>replace et:(S[n]?).map (λ_=>"list")=some t:=et;obtain⟨xs,e1,e2⟩:=Option.map_eq_some_iff.mp et;obtain⟨a,vs,rfl,hq,_⟩:=a0C' sk hv e1;exact lst a vs rfl (.of hq) e2.symm
   |scr b=>unfold Rep at hv;obtain⟨a,vs,rfl,hq,_⟩:=hv;cases et;exact lst a vs rfl hq.sq rfl
   |dct=>unfold Rep at hv;obtain⟨a,rfl,ea⟩:=hv;cases ru;cases et;obtain⟨_,_,vs,_,p⟩:=(show ObjOk X.prog X.w H s.heap a (.dK [])from I.hok a _ ea);obtain⟨o,es,ep,h1,h2,_⟩:=p;exact PySem.W.kia_one PySem.W.kitx_dict I.kIn ⟨o,h1,h2.1⟩ e (λz=>nomatch z) fin
   |fn b=>cases et
   |ty b=>cases et
  ·exact w.elim
 ·exact w.elim
def asB:D→Option Bool
 | .bl b=>some b
 |_=>none
def allD(ds:List D)(S:Store):Res D:=match ds with
 | [d]=>match seqOf S d with
  |some xs=>boolR (allO (xs.map asB)) S
  |none=>.fail
 |_=>.fail
theorem a5v'{mg:GS}{xs:List D}{vs:List V}(r:RepL K mg μ H xs vs)(q:Vals vs its)(h:∀(j:Nat) o,(xs.map asB)[j]?=some o→o=some (eJ (xs.map asB) j)):
  ∀(i:Nat) v,its.toArray[i]?=some v→v=.bool (eJ (xs.map asB) i):=λi v hv=>by
 have l1:=r.length;have l2:=q.length
 have hv':its[i]?=some v:=by simpa using hv
 have hi:i<its.length:=(Ze.mp hv').1;have hx:xs[i]?=some (xs[i]'(by omega)):=Zh _;obtain⟨w,h1,h2⟩:=r.get hx;obtain⟨u,h3,h4⟩:=q.get h1;rw[hv']at h3;cases h3;have h5:=h i (asB (xs[i]'(by omega))) (by rw[ZQ,hx];rfl);revert h2 h5;generalize xs[i]'(by omega)=d;intro h2 h5;cases d with
 |bl b=>
  cases a2W' h2;have:b=eJ (xs.map asB) i:=by simpa[asB]using h5
  rw[←this];exact h4
 |_=>cases h5
theorem allany(hc:X.calm=true)(I:Inv X pq σ H s)(sk:SOk X.K ⟨X.mg,F⟩ μ S H){xs:List D}(rd:Rep X.K ⟨X.mg,F⟩ μ H d v)(ru:RelV v u)(e:seqOf S d=some xs)
  (h:∀(j:Nat) o,(xs.map asB)[j]?=some o→o=some (eJ (xs.map asB) j)) (b:Bool→Bool) {Q:VK} {fb:Nat→Bool} (q:Q (.bl (fb xs.length)) H):
  wpAny (model X.prog X.w) X.A.in1 (pyIter u) (λit s₂=>∃I fp wr n P St,it=.ref I∧Walks X.prog X.w X.A.in1 I fp wr n P St∧St 0 s₂.heap∧TruthOf X.prog X.w X.A.in1 P (eJ (xs.map asB))∧
   ∀h' tk,(∀b o,b∉wr→s₂.heap.get? b=some o→h'.get? b=some o)→EP X pq σ Q (.bool (fb n)) {s₂ with heap:=h',toks:=tk}) X.xe s:=by
 obtain⟨a,vs,rfl,hq,r⟩:=a2V' sk rd e;cases ru;have hh:X.A.in1.handled=none:=I.ok.hd hc;rcases hq with hq|hq
 ·obtain⟨its,rv,p,hz⟩:=I.list hq;have ba:=a5v' r rv h;refine wpAny_pyIter_list p.isList ?_;have hne:a≠s.heap.objs.size:=by obtain⟨o,ho,_⟩:=p.isList;exact ZK (Zk ho)
  refine⟨_,_,_,_,_,_,rfl,Walks.list hh s.heap.objs.size a hne its.toArray,⟨⟨_,Zn _ rfl,rfl,rfl⟩,Heap.IsList.push p.isList _⟩,?_,λh' tk kp=>?_⟩
  ·intro i v s' Q' E' hv hq';rw[ba i v hv];exact ZP hq'
  ·have hl:its.toArray.size=xs.length:=by rw[Zf,←rv.length,←r.length]
   rw[hl];refine⟨.bl _,H,I.kept (h':=h') (t':=tk) λb o ho=>kp b o ?_ (Zd _ ho),rfl,q⟩;intro z;have z':b=s.heap.objs.size:=by simpa using z
   exact absurd (Zk ho) (by rw[z'];exact Nat.lt_irrefl _)
 ·obtain⟨its,rv,p,hz⟩:=I.tuple hq;have ba:=a5v' r rv h;refine wpAny_pyIter_tuple (show s.heap.IsTuple a its.toArray from p) ?_;have hne:a≠s.heap.objs.size:=by obtain⟨o,ho,_⟩:=p;exact ZK (Zk ho)
  refine⟨_,_,_,_,_,_,rfl,Walks.tuple hh s.heap.objs.size a hne its.toArray,⟨⟨_,Zn _ rfl,rfl,rfl⟩,by obtain⟨o,ho,r⟩:=p;exact⟨o,Zd _ ho,r⟩⟩,?_,λh' tk kp=>?_⟩
  ·intro i v s' Q' E' hv hq';rw[ba i v hv];exact ZP hq'
  ·have hl:its.toArray.size=xs.length:=by rw[Zf,←rv.length,←r.length]
   rw[hl];refine⟨.bl _,H,I.kept (h':=h') (t':=tk) λb o ho=>kp b o ?_ (Zd _ ho),rfl,q⟩;intro z;have z':b=s.heap.objs.size:=by simpa using z
   exact absurd (Zk ho) (by rw[z'];exact Nat.lt_irrefl _)
theorem all_D(hc:X.calm=true):CallR X (.builtin "all") (rC X.K X.mg allD):=by
 intro pq s σ H xs us Q I r h;obtain⟨F,μ,S,ds,sk,rd,w⟩:=h;unfold allD at w;split at w
 ·split at w
  ·rename_i d ys e;obtain⟨k,e1,q⟩:=a1d' w sk;obtain⟨v,rfl,hv⟩:=rd.one;obtain⟨u,rfl,ru⟩:=r.one;obtain⟨h1,h2⟩:=a1P' _ _ e1;have hw:=allany hc I sk hv ru e h1 id (Q:=Q) (fb:=λn=>(List.range n).all (eJ (ys.map asB))) (by rw[List.length_map]at h2;rw[←h2];exact q);exact call_all_walk (ZV hw (λit s₂ ⟨I0,fp,wr,n,P,Sx,a1,a2,a3,a4,a5⟩=>⟨I0,fp,wr,n,P,Sx,_,a1,a2,a3,a4,a5⟩) λ_ _ z=>z)
  ·exact w.elim
 ·exact w.elim
def rM(K:Fg)(mg:Mg)(g:D→List D→Store→Res D):V→List V→Hp→VK→Prop:=λx xs H Q=>∃F μ S d ds,SOk K ⟨mg,F⟩ μ S H∧Rep K ⟨mg,F⟩ μ H d x∧RepL K ⟨mg,F⟩ μ H ds xs∧Want K ⟨mg,F⟩ μ H Q (g d ds S)
theorem a5w'{mg:GS}{xs:List D}(s:SOk K mg μ S H)(r:Rep K mg μ H (.ref n) v)(e:S[n]?=some xs):∃a vs,v=.ref a∧μ[n]?=some a∧H a=some (.lst vs)∧RepL K mg μ H xs vs:=by unfold Rep at r;obtain⟨a,rfl,h⟩:=r;obtain⟨vs,h1,q⟩:=s.at_ n a xs h e;exact⟨a,vs,rfl,h,h1,q⟩
def a5x'(d:D)(ds:List D)(S:Store):Res D:=match d,ds with
 | .ref n,[y]=>match S[n]? with
  |some xs=>if xs.length<big then .ok .non (S.set n (xs++[y]))else .fail
  |none=>.fail
 |_,_=>.fail
theorem a8t':MtR X "list.append" (rM X.K X.mg a5x'):=by
 intro pq s σ H x xs v us Q I rx rs h;obtain⟨F,μ,S,d,ds,sk,rd,rds,w⟩:=h;have hb:=a5o';unfold a5x' at w;split at w
 ·split at w
  ·rename_i n y ys e;split at w
   ·obtain⟨a,vs,rfl,hn,ha,r⟩:=a5w' sk rd e;obtain⟨z,rfl,hz⟩:=rds.one;have hl:=r.length;exact a4d' pq s σ H _ _ v us Q I rx rs ⟨a,vs,z,rfl,rfl,ha,by omega,w.wrote sk hn ha (r.append (.cons hz .nil)) a6K'⟩
   ·exact w.elim
  ·exact w.elim
 ·exact w.elim
def setD(d e f:D)(S:Store):Option Store:=match d,e with
 | .ref n,.int i=>match S[n]? with
  |some xs=>match ixN xs.length i with
   |some j=>some (S.set n (xs.set j f))
   |none=>none
  |none=>none
 |_,_=>none
def rSet(K:Fg)(mg:Mg):TSet:=λo i v H Q=>∃F μ S d e f,SOk K ⟨mg,F⟩ μ S H∧Rep K ⟨mg,F⟩ μ H d o∧Rep K ⟨mg,F⟩ μ H e i∧Rep K ⟨mg,F⟩ μ H f v∧
 ∃S',setD d e f S=some S'∧∀μ' H',Ext μ H μ' H'→SOk K ⟨mg,F⟩ μ' S' H'→Q H'
theorem set_D:PSet X (rSet X.K X.mg):=by
 intro pq s σ H o i v ov iv u Q I ro ri rv h;obtain⟨F,μ,S,d,e,f,sk,rd,re,rf,S',e1,w⟩:=h;unfold setD at e1;split at e1
 ·split at e1
  ·rename_i n k _ ys e2;split at e1
   ·rename_i j e3;cases e1;obtain⟨a,vs,rfl,hn,ha,r⟩:=a5w' sk rd e2;cases a0a' re;rw[r.length]at e3;exact a8j' pq s σ H _ _ v ov iv u Q I ro ri rv ⟨a,vs,k,j,rfl,rfl,ha,e3,w μ _ (.wrote (Zw hn) ha) (sk.wrote hn ha (r.set j rf))⟩
   ·cases e1
  ·cases e1
 ·cases e1
def clOf(env:Env):List (Str×NameKind)→List (Str×Addr)→List (Str×Addr)
 | [],cs=>cs
 | (n,k)::r,cs=>clOf env r (if k== .free then(match env.cells.lookup n with|some c=>(n,c)::cs|none=>cs)else cs)
theorem a2Y'(h:∀x∈scope.names,x.2=.free→∃c,env.cells.lookup x.1=some c):closureFor scope env=pure (clOf env scope.names []):=by
 unfold closureFor
 have key:∀(l:List (Str×NameKind)) (cs:List (Str×Addr)),(∀x∈l,x.2=.free→∃c,env.cells.lookup x.1=some c)→
   (forIn l cs λx r=>(if(x.2==NameKind.free)=true then do let c ←cellOf env x.1;pure (ForInStep.yield ((x.1,c)::r))else pure (ForInStep.yield r):Sem _))=pure (clOf env l cs):=by
  intro l
  induction l with
  |nil=>intro cs _;rfl
  |cons x l ih=>
   intro cs hl;obtain⟨n,k⟩:=x;rw[List.forIn_cons];unfold clOf;by_cases hk:k=.free
   ·subst hk;obtain⟨c,hc⟩:=hl (n,.free) (by simp) rfl;have hc':cellOf env n=pure c:=by unfold cellOf;rw[hc]
    simp only[beq_self_eq_true,if_true,hc',hc];simp only[pure_bind];exact ih _ λy hy=>hl y (Zb _ hy)
   ·have hb:(k==NameKind.free)=false:=by simpa using hk
    simp only[hb,ZD,if_false,pure_bind];exact ih _ λy hy=>hl y (Zb _ hy)
 have:=key scope.names [] h
 first
  | (rw[←this];rfl)
  | (simp only[bind_pure];exact this)
  | (show(do let r ←_;pure r)=_;rw[bind_pure];exact this)
theorem a3C'{env:Env}:∀(l:List (Str×NameKind)) (cs:List (Str×Addr)),(∀p∈cs,env.cells.lookup p.1=some p.2)→∀p∈clOf env l cs,env.cells.lookup p.1=some p.2
 | [],cs,h,p,hp=>h p hp
 | (n,k)::r,cs,h,p,hp=>by
  unfold clOf at hp;refine a3C' r _ (λq hq=>?_) p hp;split at hq
  ·split at hq
   ·rename_i c hc;rcases Zo.mp hq with rfl|hq
    ·exact hc
    ·exact h q hq
   ·exact h q hq
  ·exact h q hq
theorem a5y'{env:Env}:∀(l:List (Str×NameKind)) (cs:List (Str×Addr)),∀p∈cs,p∈clOf env l cs
 | [],cs,p,hp=>hp
 | (n,k)::r,cs,p,hp=>by
  unfold clOf;refine a5y' r _ p ?_;split
  ·split
   ·exact Zb _ hp
   ·exact hp
  ·exact hp
theorem a5z'{env:Env}{x:Str}{c:Addr}(hc:env.cells.lookup x=some c):∀(l:List (Str×NameKind)) (cs:List (Str×Addr)),(x,NameKind.free)∈l→(x,c)∈clOf env l cs
 | [],cs,h=>by cases h
 | (n,k)::r,cs,h=>by
  unfold clOf;rcases Zo.mp h with e|h
  ·cases e;refine a5y' r _ _ ?_;simp only[beq_self_eq_true,if_true,hc];exact Zc
  ·exact a5z' hc r _ h
theorem a1J'{α:Type}{x:Str}{c:α}:∀{l:List (Str×α)},(x,c)∈l→∃d,l.lookup x=some d
 | [],h=>by cases h
 | (n,d)::r,h=>by
  rw[List.lookup_cons];cases e:x==n with
  |true=>exact⟨d,rfl⟩
  |false=>
   rcases Zo.mp h with e2|h
   ·cases e2;simp at e
   ·exact a1J' h
theorem a1u'{env:Env}:∀{names:List (Str×NameKind)} {x:Str} {k:NameKind},(names.map λ(n,k)=>if(k==NameKind.free&&env.scope.kind== .function&&env.kindOf n==some .cell)then(n,NameKind.cell)else(n,k)).lookup x=some k→
  ∃k',names.lookup x=some k'∧(k=k'∨(k'=.free∧k=.cell))
 | [],_,_,h=>by simp at h
 | (n,k0)::r,x,k,h=>by
  have ih:= @a1u' env r x k;rw[List.map_cons]at h;rw[List.lookup_cons];by_cases hc:(k0==NameKind.free&&env.scope.kind== .function&&env.kindOf n==some .cell)=true
  ·simp only[hc,if_true,List.lookup_cons]at h;cases e:x==n with
   |true=>rw[e]at h;cases h;refine⟨k0,rfl,.inr ⟨?_,rfl⟩⟩;rw[ZA,ZA]at hc;exact ZT hc.1.1
   |false=>rw[e]at h;exact ih h
  ·simp only[hc,ZD,if_false,List.lookup_cons]at h;cases e:x==n with
   |true=>rw[e]at h;cases h;exact⟨k0,rfl,.inl rfl⟩
   |false=>rw[e]at h;exact ih h
theorem a0I'{env:Env}:∀{names:List (Str×NameKind)} {x:Str},names.lookup x=some .free→
  let m:=(names.map λ(n,k)=>if(k==NameKind.free&&env.scope.kind== .function&&env.kindOf n==some .cell)then(n,NameKind.cell)else(n,k))
  m.lookup x=some .cell∨m.lookup x=some .free
 | [],_,h=>by simp at h
 | (n,k0)::r,x,h=>by
  have ih:= @a0I' env r x;rw[List.lookup_cons]at h;dsimp only;rw[List.map_cons];by_cases hc:(k0==NameKind.free&&env.scope.kind== .function&&env.kindOf n==some .cell)=true
  ·simp only[hc,if_true,List.lookup_cons];cases e:x==n with
   |true=>exact .inl rfl
   |false=>rw[e]at h;exact ih h
  ·simp only[hc,ZD,if_false,List.lookup_cons];cases e:x==n with
   |true=>rw[e]at h;cases h;exact .inr rfl
   |false=>rw[e]at h;exact ih h
theorem a1v':∀(names:List (Str×NameKind)) (n:Nat) (a b:List (Str×Addr)),cellsFrom n names (a++b)=cellsFrom n names a++b
 | [],_,_,_=>rfl
 | (x,k)::r,n,a,b=>by
  show(if(k==NameKind.cell)=true then cellsFrom (n+1) r ((x,n)::(a++b))else cellsFrom n r (a++b))=(if(k==NameKind.cell)=true then cellsFrom (n+1) r ((x,n)::a)else cellsFrom n r a)++b;split
  ·exact a1v' r (n+1) ((x,n)::a) b
  ·exact a1v' r n a b
theorem a2E'{x:Str}{c:Addr}:∀(names:List (Str×NameKind)) (n:Nat) (a:List (Str×Addr)),(x,c)∈cellsFrom n names a→(x,c)∈a∨(x,NameKind.cell)∈names
 | [],_,_,h=>.inl h
 | (y,k)::r,n,a,h=>by
  replace h:(x,c)∈(if(k==NameKind.cell)=true then cellsFrom (n+1) r ((y,n)::a)else cellsFrom n r a):=h;split at h
  ·rename_i hk;rcases a2E' r (n+1) _ h with h|h
   ·rcases Zo.mp h with h|h
    ·injection h with h _
     subst h;have:k=.cell:=by simpa using hk
     subst this;exact .inr Zc
    ·exact .inl h
   ·exact .inr (Zb _ h)
  ·rcases a2E' r n _ h with h|h
   ·exact .inl h
   ·exact .inr (Zb _ h)
theorem a3D'{M:Model}{A:Around}{E:Vs}:∀(names:List (Str×NameKind)) (cs:List (Str×Addr)) (s:Shared) (Q:List (Str×Addr)→Shared→Prop),Q (cellsFrom s.heap.objs.size names cs) {s with heap:=pushCells s.heap names}→
  wpAny M A (forIn names cs λx r=>match x with
   | (name,kind)=>if(kind==NameKind.cell)=true then do
     let c ←alloc {cls:=Value.type "cell",data:=Data.cell none}
     pure (ForInStep.yield ((name,c)::r))
    else pure (ForInStep.yield r)) Q E s
 | [],cs,s,Q,h=>by rw[List.forIn_nil];exact Zg h
 | (x,k)::r,cs,s,Q,h=>by
  rw[List.forIn_cons];have h:Q (if(k==NameKind.cell)=true then cellsFrom (s.heap.objs.size+1) r ((x,s.heap.objs.size)::cs)else cellsFrom s.heap.objs.size r cs) {s with heap:=if(k==NameKind.cell)=true then pushCells (s.heap.push {cls:=.type "cell",data:=.cell none}) r else pushCells s.heap r}:=h;cases hk:(k==NameKind.cell)with
  |true=>rw[hk,if_pos rfl,if_pos rfl]at h;refine Za ?_;show wpAny M A (if(k==NameKind.cell)=true then _ else _) _ _ _;rw[hk,if_pos rfl];refine Za (wpAny_alloc (Zg ?_));refine a3D' r _ {s with heap:=s.heap.push {cls:=.type "cell",data:=.cell none}} Q ?_;show Q (cellsFrom (s.heap.push {cls:=.type "cell",data:=.cell none}).objs.size r _) _;rw[Heap.size_push];exact h
  |false=>rw[hk,if_neg (by decide),if_neg (by decide)]at h;refine Za ?_;show wpAny M A (if(k==NameKind.cell)=true then _ else _) _ _ _;rw[hk,if_neg (by decide)];refine Zg ?_;exact a3D' r _ s Q h
theorem a6M'{M:Model}{A:Around}{E:Vs}{g:Addr}{cl:List (Str×Addr)}{q:Str}{out:Env}{bl:Addr}{Q:Env→Shared→Prop}
  (h:Q ⟨scope,s.heap.objs.size,g,cellsFrom (s.heap.objs.size+1) scope.names cl,q,none,out.code,out.frame,out.builtins⟩ {s with heap:=pushCells (s.heap.push {cls:=.type "dict",data:=.dict #[]}) scope.names}):
  wpAny M A (newFunctionEnv scope g cl [] q none .none (some out) bl) Q E s:=by
 unfold newFunctionEnv;refine Za (wpAny_alloc (Za (a3D' scope.names cl _ _ ?_)));show wpAny M A (forIn ([]:List (Str×Value)) PUnit.unit _>>=λ_=>pure _) _ _ _;rw[List.forIn_nil];refine Za (Zg (Zg ?_));have e:(s.heap.push {cls:=Value.type (if(some out).isSome=true then "dict" else "frame"),data:=Data.dict #[]}).objs.size=s.heap.objs.size+1:=Heap.size_push ..;show Q ⟨scope,s.heap.objs.size,g,cellsFrom (s.heap.push {cls:=Value.type (if(some out).isSome=true then "dict" else "frame"),data:=Data.dict #[]}).objs.size scope.names cl,q,none,out.code,out.frame,out.builtins⟩ _;rw[e];exact h
def cxC(X:Cx)(scope:Scope)(N:Ls)(C:Addr)(s0:Shared)(H0:Hp)(fp:La):Cx:=
 {X with N:=N,s₀:=s0,H₀:=H0,env:=compEnvC scope (cellsFrom (C+1) scope.names (clOf X.env scope.names [])) C X.env,outer:=X.stack,stack:=X.stack,ex:=fp,fn:=λx=>scope.names.lookup x==some .cell,pn:=[],xe:=λ_ _=>False}
structure CScope (X:Cx)(scope:Scope):Prop where
 kind:scope.kind=.function
 cel:∀y∈scope.names,y.2=.cell→scope.names.lookup y.1=some .cell
 loc:∀y∈scope.names,y.2=.local→scope.names.lookup y.1=some .local
 free:∀y∈scope.names,y.2=.free→X.env.kindOf y.1=some .cell∨X.env.kindOf y.1=some .free
theorem fs_of(I:Inv X pq σ H s){b:Addr}(h1:b≠X.env.locals)(h2:b∉X.fs):b∉frs X.stack:=λz=>(Zo.mp (I.stkSub b z)).elim h1 h2
theorem a0y'{x:Str}{c:Addr}(h:(cellsFrom n scope.names (clOf X.env scope.names [])).lookup x=some c):(cellsFrom n scope.names []).lookup x=some c∨((cellsFrom n scope.names []).lookup x=none∧(clOf X.env scope.names []).lookup x=some c):=by
 have e:=a1v' scope.names n [] (clOf X.env scope.names []);rw[List.nil_append]at e;rw[e,List.lookup_append]at h;cases z:(cellsFrom n scope.names []).lookup x with
 |some d=>rw[z]at h;exact .inl h
 |none=>rw[z]at h;exact .inr ⟨rfl,h⟩
theorem a6N'{x:Str}{c:Addr}(h:(cellsFrom n scope.names []).lookup x=some c):(cellsFrom n scope.names (clOf X.env scope.names [])).lookup x=some c:=by have e:=a1v' scope.names n [] (clOf X.env scope.names []);rw[List.nil_append]at e;rw[e,List.lookup_append,h];rfl
theorem a5A'{x:Str}{c:Addr}(h:(cellsFrom n scope.names []).lookup x=none)(h2:(clOf X.env scope.names []).lookup x=some c):(cellsFrom n scope.names (clOf X.env scope.names [])).lookup x=some c:=by have e:=a1v' scope.names n [] (clOf X.env scope.names []);rw[List.nil_append]at e;rw[e,List.lookup_append,h];exact h2
theorem a8u'{m:Mg}{tk:Nat}(hc:X.calm=true)(I:Inv X pq σ H s)(sc:CScope X scope)(hf:∀b∈fp,FpOk X pq H b)(hfo:∀b∈fp,∃o,s.heap.get? b=some o)
  (hn:h1.Ns s.heap.objs.size m) (old:∀b o,s.heap.get? b=some o→h1.get? b=some o) (hcl:CellsOk h1 (s.heap.objs.size+1) (cellsFrom (s.heap.objs.size+1) scope.names [])) (hl:σ'.length=N.length)
  (hσ:∀(i:Nat) (v:V) (x:Str),N[i]?=some x→σ'[i]?=some (some v)→scope.names.lookup x=some .free∧∃j:Nat,X.N[j]?=some x∧σ[j]?=some (some v)):
  Inv (cxC X scope N s.heap.objs.size s H fp) (X.pn++pq) σ' H {s with heap:=h1,toks:=tk}:=by
 have lt:∀{b:Addr} {o:Obj},s.heap.get? b=some o→b≠s.heap.objs.size:=λe=>ZK (Zk e);have cl1:∀x c,(clOf X.env scope.names []).lookup x=some c→X.env.cells.lookup x=some c:=λx c h=>a3C' scope.names [] (λ_ z=>nomatch z) (x,c) (Zx h);have cellLt:∀x c,X.env.cells.lookup x=some c→c<s.heap.objs.size:=λx c h=>by obtain⟨v,q⟩:=I.cell x c h;exact q.lt
 have ownC:∀x c,(cellsFrom (s.heap.objs.size+1) scope.names []).lookup x=some c→h1.IsCell c none∧s.heap.objs.size+1≤c:=λx c h=>hcl.empty x c (Zx h)
 have ownK:∀x c,(cellsFrom (s.heap.objs.size+1) scope.names []).lookup x=some c→scope.names.lookup x=some .cell:=λx c h=>by
  rcases a2E' scope.names _ _ (Zx h)with z|z
  ·cases z
  ·exact sc.cel _ z rfl
 have has:∀x,scope.names.lookup x=some .free→(cellsFrom (s.heap.objs.size+1) scope.names []).lookup x=none∧∃c,(clOf X.env scope.names []).lookup x=some c:=λx h=>by
  refine⟨?_,?_⟩
  ·cases z:(cellsFrom (s.heap.objs.size+1) scope.names []).lookup x with
   |none=>rfl
   |some c=>have:=ownK x c z;rw[h]at this;cases this
  ·have hm:=Zx h;obtain⟨c,hcc⟩:=I.ok.has x (sc.free _ hm rfl);exact a1J' (a5z' hcc scope.names [] hm)
 have kindC:∀x,((cxC X scope N s.heap.objs.size s H fp).env.kindOf x=some .cell∨(cxC X scope N s.heap.objs.size s H fp).env.kindOf x=some .free)→scope.names.lookup x=some .free∨scope.names.lookup x=some .cell:=λx h=>by
  have go:∀k,(k=NameKind.cell∨k=.free)→(relabel scope X.env).names.lookup x=some k→scope.names.lookup x=some .free∨scope.names.lookup x=some .cell:=λk hk h=>by
   obtain⟨k',h1,h2⟩:=a1u' h;rcases h2 with rfl| ⟨rfl,_⟩
   ·rcases hk with rfl|rfl
    ·exact .inr h1
    ·exact .inl h1
   ·exact .inl h1
  rcases h with h|h
  ·exact go _ (.inl rfl) h
  ·exact go _ (.inr rfl) h
 have apart:∀x y c,(cellsFrom (s.heap.objs.size+1) scope.names []).lookup x=some c→(cellsFrom (s.heap.objs.size+1) scope.names []).lookup y=some c→x=y:=λx y c h1 h2=>by
  have m1:=Zx h1;have m2:=Zx h2;have ap:=hcl.apart;generalize cellsFrom (s.heap.objs.size+1) scope.names []=l at m1 m2 ap
  induction l with
  |nil=>cases m1
  |cons p l ih=>
   obtain⟨a1,a2⟩:=List.pairwise_cons.mp ap;rcases Zo.mp m1 with rfl|n1
   ·rcases Zo.mp m2 with z|n2
    ·injection z with z _;exact z.symm
    ·exact(a1 (y,c) n2 rfl).elim
   ·rcases Zo.mp m2 with rfl|n2
    ·exact(a1 (x,c) n1 rfl).elim
    ·exact ih n1 n2 a2
 refine⟨⟨I.ok.mod,?_,I.ok.glob,I.ok.blt,Zi _,λx y c h1 h2=>?_,λx h=>?_,λx c h h2=>?_,I.ok.hd,I.ok.frames,.inl rfl,λb hb=>?_,I.bs,ZE I.ok.bsz I.sz,λb o e hb=>?_,λb hb=>?_,I.stack,I.stkFree⟩,
  rfl,I.bare,Un.kept old,⟨m,hn,λi x v e1 e2 e3=>?_⟩,λx c h=>?_,I.hok.fresh (Zi _),λx c h=>?_,λp hp=>?_,I.hok.kept old,hl⟩
 ·show(relabel scope X.env).kind=.function;unfold relabel;exact sc.kind
 ·rcases a0y' h1 with z| ⟨_,z⟩<;>rcases a0y' h2 with y'| ⟨_,y'⟩
  ·exact apart x y c z y'
  ·exact absurd (cellLt _ _ (cl1 _ _ y')) (Nat.not_lt.mpr (Nat.le_of_succ_le (ownC _ _ z).2))
  ·exact absurd (cellLt _ _ (cl1 _ _ z)) (Nat.not_lt.mpr (Nat.le_of_succ_le (ownC _ _ y').2))
  ·exact I.ok.inj x y c (cl1 x c z) (cl1 y c y')
 ·rcases kindC x h with h|h
  ·obtain⟨z,c,hc2⟩:=has x h;exact⟨c,a5A' z hc2⟩
  ·have:=PySem.W.cellsFrom_some (x:=x) scope.names (s.heap.objs.size+1) [] (.inl h);obtain⟨c,hc2⟩:=Option.isSome_iff_exists.mp this;exact⟨c,a6N' hc2⟩
 ·have hk:scope.names.lookup x=some .cell:=by simpa[cxC]using h
  rcases a0y' h2 with z| ⟨z,_⟩
  ·exact Nat.le_of_succ_le (ownC _ _ z).2
  ·have:=PySem.W.cellsFrom_some (x:=x) scope.names (s.heap.objs.size+1) [] (.inl hk);rw[z]at this;cases this
 ·obtain⟨f0,f1,f2,f3,f4,f5⟩:=hf b hb;obtain⟨o,ho⟩:=hfo b hb;refine⟨lt ho,λx c h=>?_⟩;rcases a0y' h with z| ⟨_,z⟩
  ·exact λq=>absurd (Zk ho) (Nat.not_lt.mpr (q▸Nat.le_of_succ_le (ownC _ _ z).2))
  ·exact f4 x c (cl1 x c z)
 ·obtain⟨f0,f1,f2,f3,f4,f5⟩:=hf b hb;rcases f3 with f3|f3
  ·exact I.ok.noex b o e f3
  ·exact absurd (Zk (I.ok.bs b o e).1) (Nat.not_lt.mpr f3)
 ·obtain⟨f0,f1,f2,f3,f4,f5⟩:=hf b hb;exact fs_of I f1 f2
 ·obtain⟨g1,j,g2,g3⟩:=hσ i v x e1 e2;obtain⟨m0,_,l0⟩:=I.loc
  have hv:Vis X.env.scope x:=by
   rcases sc.free _ (Zx g1) rfl with q|q
   ·exact .inr (.inl q)
   ·exact .inr (.inr q)
  obtain⟨u,r,q⟩:=l0 j x v g2 g3 hv;refine⟨u,r,.inr ⟨a0I' g1,?_⟩⟩;obtain⟨z,c,hcl⟩:=has x g1;have hcc:=cl1 x c hcl;refine⟨c,a5A' z hcl,?_⟩;have kx:=sc.free _ (Zx g1) rfl;rcases q with⟨q,_⟩| ⟨_,c',q1,q2⟩
  ·rcases kx with kx|kx
   ·rw[q]at kx;cases kx
   ·rw[q]at kx;cases kx
  ·rw[hcc]at q1;cases q1;obtain⟨o,ho,hd⟩:=q2;exact⟨o,old _ _ ho,hd⟩
 ·rcases a0y' h with z| ⟨_,z⟩
  ·exact⟨none,(ownC _ _ z).1⟩
  ·obtain⟨v,o,ho,hd⟩:=I.cell x c (cl1 x c z);exact⟨v,o,old _ _ ho,hd⟩
 ·rcases a0y' h with z| ⟨_,z⟩
  ·exact I.hok.fresh (Nat.le_of_succ_le (ownC _ _ z).2)
  ·exact I.freeC x c (cl1 x c z)
 ·have hp':p∈X.pn++pq:=by simpa[cxC]using hp
  obtain⟨e,n,ne,nf,d⟩:=I.pin p hp';exact⟨old _ _ e,n,lt e,fs_of I ne nf,d⟩
theorem a8v'(I:Inv X pq σ H s)(hf:∀b∈fp,FpOk X pq H b)(hC:C=s.heap.objs.size)(J:Inv (cxC X scope N C s H fp) pins' σ' H' s')(hs:Heap.SameBut C s'.heap h'):
  Inv X pq σ H' {s' with heap:=h'}:=by
 have ne:∀{b:Addr} {o:Obj},s.heap.get? b=some o→b≠C:=λe=>by rw[hC];exact ZK (Zk e)
 have B:Un (frs X.stack) fp H H' s.heap s'.heap:=J.base
 have u:Un (frs X.stack) fp H H' s.heap h':=
  ⟨λb o e n hb he=>(hs.2 b (ne e)).trans (B.keep b o e n hb he),λb o e n hb he=>by obtain⟨sl,q⟩:=B.slot b o e n hb he;exact⟨sl,(hs.2 b (ne e)).trans q⟩,B.free,
   λb o e he=>by obtain⟨o',q⟩:=B.there b o e he;exact⟨o',(hs.2 b (ne e)).trans q⟩,B.tups,B.frzs,B.tbls⟩
 have hfree:H' C=none:=J.free
 have hok:HOk X.prog X.w H' h':=λb ob e=>by
  refine(J.hok b ob e).stay (λc w' hc q=>(hs.2 c ?_).trans q) (λ_ q=>q) λ_ _ q=>q;rintro rfl;rcases hc with rfl|hc
  ·rw[hfree]at e;cases e
  ·rw[hfree]at hc;cases hc
 exact I.call' (s':={s' with heap:=h'}) (ch:=fp) J.os u hok J.bare λb hb=>by obtain⟨f0,f1,f2,f3,f4,f5⟩:=hf b hb;exact⟨f3,f1,f4,f5⟩
def PB(X:Cx)(body:Sem Unit)(t:L2.St→Hp→(L2.St→Hp→Prop)→Prop):Prop:=
 ∀(pq:Lp) (s:Shared) (σ:L2.St) (H:Hp) (Q:L2.St→Hp→Prop),Inv X pq σ H s→t σ H Q→wpAny (model X.prog X.w) X.A body (λ_ s'=>∃σ' H',Inv X pq σ' H' s'∧Q σ' H') X.xe s
theorem noteF{m:Sem α}{Q:α→Shared→Prop}(hx:X.xe=λ_ _=>False)(h:wpAny M A m Q X.xe s):wpAny M A m Q E s:=by rw[hx]at h;exact ZV h (λ_ _ q=>q) λ_ _ z=>z.elim
theorem a4f'{epos:Pos}{d:Nat}{acc:Value}{p:Pos}{body:Sem Unit}{R:Result→Shared→Prop}{Fin:L2.St→Hp→Prop}
  (hx:X.xe=λ_ _=>False) (hc:X.calm=true)
  (heq:compTurn (.ListComp elt gens scope epos) d (.ref it) acc X.env=(standAt p>>=λ_=>pyNext (.ref it)>>=λr=>match r with
   |none=>pure (.done .next)
   |some v=>letOwnedTupleGo tg (.ref it) v>>=λ_=>assign tg X.env v>>=λ_=>body>>=λ_=>again (.compLoop (.ListComp elt gens scope epos) d (.ref it) acc X.env)))
  (T:Turn X.prog X.w X.K tg J fp it tn) (hg:PG X tg g) (hb:PB X body tb) (I:Inv X pq σ H s) (st:tn 0 s.heap) (hf:∀b∈fp,FpOk X pq H b)
  (W:∃W:Nat→Nat→L2.St→Hp→Prop,(∃m,W 0 m σ H)∧∀i m σ H,W i m σ H→
   (J.stop i H∧Fin σ H)∨(J.go i H∧∃Nx:L2.St→Hp→Prop,(∀σ' H',Nx σ' H'→∃m',m'<m∧W (i+1) m' σ' H')∧∀x H',J.yld i H x H'→g x σ H' λσ2 H2=>tb σ2 H2 Nx))
  (hR:∀s' σ' H',Inv X pq σ' H' s'→(∀b∈fp,H' b=none)→Fin σ' H'→R (.ok .next) s'):codeAny (model X.prog X.w) X.A (.compLoop (.ListComp elt gens scope epos) d (.ref it) acc X.env) R s:=by
 obtain⟨W,⟨m0,w0⟩,turn⟩:=W;have stat:∀{H':Hp},(∀b∈fp,H' b=none)→∀b∈fp,FpOk X pq H' b:=λhn b hb=>⟨hn b hb,(hf b hb).2⟩;refine codeAny_loop rfl (λn s'=>∃i σ' H',Inv X pq σ' H' s'∧tn i s'.heap∧(∀b∈fp,H' b=none)∧W i n σ' H') ?_ m0 ⟨0,σ,H,I,st,λb hb=>(hf b hb).1,w0⟩;rintro n s3 ⟨i,σ3,H3,I3,st3,fr3,w3⟩;show wpAny _ X.A ((compTurn (.ListComp elt gens scope epos) d (.ref it) acc X.env).onRaise (λx=>do noteFrame x X.env;theTreesLotGoes x)) _ _ s3;refine wpAny_noted ?_;rw[heq];refine Za (wpAny_standAt ?_);rcases turn i n σ3 H3 w3 with⟨stop,qn⟩| ⟨go,Nx,hN,step⟩
 ·refine Za (noteF hx (thn (T.done X rfl rfl rfl hc i pq s3 σ3 H3 X.xe I3 (stat fr3) st3 stop) λr s4 ⟨hr,I4⟩=>?_));subst hr;exact Zg (hR s4 σ3 H3 I4 fr3 qn)
 ·refine Za (noteF hx (thn (T.item X rfl rfl rfl hc i pq s3 σ3 H3 X.xe I3 (stat fr3) st3 go) λr s4 ⟨u,hr,h4⟩=>?_));subst hr;refine Za (noteF hx (thn h4 λ_ s5 ⟨x,H5,I5,r5,y5,st5,fr5⟩=>?_));have I5':=I5.pinned (stat fr5) (T.obj _ _ st5);refine Za (noteF hx (thn (hg _ s5 σ3 H5 x u _ I5' r5 (step x H5 y5)) λ_ s6 ⟨σ6,H6,I6,q6⟩=>?_));refine Za (noteF hx (thn (hb _ s6 σ6 H6 _ I6 q6) λ_ s7 ⟨σ7,H7,I7,n7⟩=>?_));refine Zg ?_;obtain⟨m',hm,w7⟩:=hN σ7 H7 n7;refine⟨rfl,m',hm,i+1,σ7,H7,I7.unpinned,T.keep _ _ _ st5 λb hb o e=>(I7.pin (b,o) (Zq _ (Zq _ (a1s' hb e)))).1,λb hb=>?_,w7⟩;obtain⟨o,e,d⟩:=T.obj _ _ st5 b hb;exact(I7.pin (b,o) (Zq _ (Zq _ (a1s' hb e)))).2.1
abbrev TU:=L2.St→Hp→(L2.St→Hp→Prop)→Prop
def a6O':List TT→(L2.St→Hp→(Bool→Hp→Prop)→Prop)
 | []=>λ_ H Q=>Q true H
 |t::r=>λσ H Q=>t σ H λb H1=>if b=true then a6O' r σ H1 Q else Q false H1
def PTs(X:Cx):Lx→List TT→Prop
 | [],[]=>True
 |e::es,t::ts=>PT X e t∧PTs X es ts
 |_,_=>False
theorem a2r'{M:Model}{A:Around}{E:Vs}{env:Env}{Q:Bool→Shared→Prop}{s:Shared}:∀(ifs:Lx),Q false s→
  wpAny M A (forIn ifs false λc r=>if r=true then do let ok ←isTrue c env (eval c env);pure (ForInStep.yield ok)else pure (ForInStep.yield r)) Q E s
 | [],h=>Zg h
 |c::r,h=>by rw[List.forIn_cons];simp only[ZD,if_false];exact Za (Zg (a2r' r h))
theorem a5B':∀(ifs:Lx) (ts:List TT),PTs X ifs ts→∀(pq:Lp) (s:Shared) (σ:L2.St) (H:Hp) (Q:Bool→Hp→Prop),Inv X pq σ H s→a6O' ts σ H Q→
  wpAny (model X.prog X.w) X.A (forIn ifs true λc r=>if r=true then do let ok ←isTrue c X.env (eval c X.env);pure (ForInStep.yield ok)else pure (ForInStep.yield r)) (TP X pq σ Q) X.xe s
 | [],[],_,pq,s,σ,H,Q,I,h=>Zg ⟨H,I,h⟩
 |e::es,t::ts,p,pq,s,σ,H,Q,I,h=>by
  rw[List.forIn_cons];simp only[if_true];refine Za (Za (thn (p.1 pq s σ H _ I h) λb s1 ⟨H1,I1,q1⟩=>Zg ?_));cases b with
  |true=>rw[if_pos rfl]at q1;exact a5B' es ts p.2 pq s1 σ H1 Q I1 q1
  |false=>rw[if_neg (by decide)]at q1;exact a2r' es ⟨H1,I1,q1⟩
 | [],_::_,p,_,_,_,_,_,_,_=>p.elim
 |_::_,[],p,_,_,_,_,_,_,_=>p.elim
def tEmit(acc:Addr)(te:TE):TU:=λσ H Q=>te σ H λv H1=>∃ys,H1 acc=some (.lst ys)∧ys.length<sizeLine∧Q σ (upd H1 acc (.lst (ys++[v])))
def tWhen(ts:List TT)(t:TU):TU:=λσ H Q=>a6O' ts σ H λb H1=>if b=true then t σ H1 Q else Q σ H1
def tInner(wi:TI)(g:TG)(tb:TU):TU:=λσ H Q=>wi σ H λJ H1=>∃W:Nat→Nat→L2.St→Hp→Prop,(∃m,W 0 m σ H1)∧∀i m σ H,W i m σ H→
   (J.stop i H∧Q σ H)∨(J.go i H∧∃Nx:L2.St→Hp→Prop,(∀σ' H',Nx σ' H'→∃m',m'<m∧W (i+1) m' σ' H')∧∀x H',J.yld i H x H'→g x σ H' λσ2 H2=>tb σ2 H2 Nx)
def tComp(cs:L2.St→L2.St)(wi:TI)(g:TG)(tb:Addr→TU):TE:=λσ H Q=>wi σ H λJ H1=>∀acc,H1 acc=none→
 ∃W:Nat→Nat→L2.St→Hp→Prop,(∃m,W 0 m (cs σ) (upd H1 acc (.lst [])))∧∀i m σ H,W i m σ H→
   (J.stop i H∧Q (.ref acc) H)∨(J.go i H∧∃Nx:L2.St→Hp→Prop,(∀σ' H',Nx σ' H'→∃m',m'<m∧W (i+1) m' σ' H')∧∀x H',J.yld i H x H'→g x σ H' λσ2 H2=>tb acc σ2 H2 Nx)
def CsOk(X:Cx)(scope:Scope)(N:Ls)(cs:L2.St→L2.St):Prop:=∀σ:L2.St,σ.length=X.N.length→(cs σ).length=N.length∧
 ∀(i:Nat) (v:V) (x:Str),N[i]?=some x→(cs σ)[i]?=some (some v)→scope.names.lookup x=some .free∧∃j:Nat,X.N[j]?=some x∧σ[j]?=some (some v)
theorem a7E'(I:Inv X pq σ H s)(sc:CScope X scope):closureFor scope X.env=pure (clOf X.env scope.names []):=
 a2Y' λx hx hk=>I.ok.has x.1 (sc.free x hx hk)
theorem a6P'(h3:Heap)(d:Obj)(names:List (Str×NameKind)):CellsOk (pushCells (h3.push d) names) (h3.objs.size+1) (cellsFrom (h3.objs.size+1) names []):=by have e:(h3.push d).objs.size=h3.objs.size+1:=Heap.size_push ..;have:=cellsFrom_ok names (h3.push d) (h3.objs.size+1) [] ⟨(λ_ _ h=>by cases h),.nil⟩ (by rw[e];exact Zi _);rw[e]at this;exact this
theorem a4g'{rest:List Comprehension}{pos:Pos}{tb:Addr→TU}{R:Value→Addr→Result→Shared→Prop}{Fin:V→Hp→Prop}
         {E:Vs} (hc:X.calm=true) (sc:CScope X scope) (hcs:CsOk X scope N cs) (I:Inv X pq σ H s) (T:Turn X.prog X.w X.K tg J fp it tn) (st:tn 0 s.heap) (hf:∀b∈fp,FpOk X pq H b)
  (body:Addr→Env→Sem Unit)
  (heq:∀(acc:Addr) (env:Env),compTurn (.ListComp elt (⟨tg,iter,ifs,0⟩::rest) scope pos) 0 (.ref it) (.ref acc) env=(standAt iter.pos>>=λ_=>pyNext (.ref it)>>=λr=>match r with
   |none=>pure (.done .next)
   |some v=>letOwnedTupleGo tg (.ref it) v>>=λ_=>assign tg env v>>=λ_=>body acc env>>=λ_=>again (.compLoop (.ListComp elt (⟨tg,iter,ifs,0⟩::rest) scope pos) 0 (.ref it) (.ref acc) env)))
  (hin:∀(C:Addr) (s0:Shared) (H0:Hp) (fp:La) (acc:Addr),PG (cxC X scope N C s0 H0 fp) tg g∧PB (cxC X scope N C s0 H0 fp) (body acc (cxC X scope N C s0 H0 fp).env) (tb acc))
  (W:∀acc,H acc=none→∃W:Nat→Nat→L2.St→Hp→Prop,(∃m,W 0 m (cs σ) (upd H acc (.lst [])))∧∀i m σ H,W i m σ H→
   (J.stop i H∧Fin (.ref acc) H)∨(J.go i H∧∃Nx:L2.St→Hp→Prop,(∀σ' H',Nx σ' H'→∃m',m'<m∧W (i+1) m' σ' H')∧∀x H',J.yld i H x H'→g x σ H' λσ2 H2=>tb acc σ2 H2 Nx))
  (hR:∀(acc C:Addr) (s':Shared) (H':Hp) (m:Mg),s'.heap.Ns C m→C≠X.env.locals→(∀x c,X.env.cells.lookup x=some c→c≠C)→H' C=none→X.s₀.heap.objs.size≤C→(∀p∈X.pn++pq,p.1≠C)→(∀h',Heap.SameBut C s'.heap h'→Inv X pq σ H' {s' with heap:=h'})→Fin (.ref acc) H'→R (.ref acc) C (.ok .next) s'):
  wpAny (model X.prog X.w) X.A (newList []) (λacc s₃=>wpAny (model X.prog X.w) X.A (newFunctionEnv scope X.env.globals (clOf X.env scope.names []) [] X.env.qual none .none (some X.env)) (λcenv s₄=>
   codeAny (model X.prog X.w) X.A (.compStart (.ListComp elt (⟨tg,iter,ifs,0⟩::rest) scope pos) 0 (.ref it) acc {cenv with scope:=relabel scope X.env}) (R acc cenv.locals) s₄) E s₃) E s:=by
 refine wpAny_newObj_type (a6M' ?_);have hfr:H s.heap.objs.size=none:=I.hok.fresh (Zi _);have I3:Inv X pq σ (upd H s.heap.objs.size (.lst [])) {s with heap:=s.heap.push {cls:=.type "list",data:=.seq ([]:Lv).toArray},toks:=s.toks}:=I.lnew (its:=[]) (ys:=[]) .nil (Nat.zero_le _);have fpl:∀b∈fp,∃o,s.heap.get? b=some o:=λb hb=>by obtain⟨o,e,_⟩:=T.obj _ _ st b hb;exact⟨o,e⟩
 have hf3:∀b∈fp,FpOk X pq (upd H s.heap.objs.size (.lst [])) b:=λb hb=>by obtain⟨f0,f1⟩:=hf b hb;obtain⟨o,ho⟩:=fpl b hb;exact⟨by rw[a0e' (ZK (Zk ho))];exact f0,f1⟩
 have fpl3:∀b∈fp,∃o,(s.heap.push {cls:=.type "list",data:=.seq ([]:Lv).toArray}).get? b=some o:=λb hb=>by obtain⟨o,ho⟩:=fpl b hb;exact⟨o,Zd _ ho⟩
 obtain⟨k1,k2⟩:=hcs σ I.len;obtain⟨h₁,eh⟩:∃h₁,h₁=pushCells ((s.heap.push {cls:=.type "list",data:=.seq ([]:Lv).toArray}).push {cls:=.type "dict",data:=.dict #[]}) scope.names:=⟨_,rfl⟩;have old3:∀b o,(s.heap.push {cls:=.type "list",data:=.seq ([]:Lv).toArray}).get? b=some o→h₁.get? b=some o:=λb o e=>by rw[eh];exact pushCells_keeps _ _ _ _ (Zd _ e)
 have hns₁:h₁.Ns (s.heap.push {cls:=.type "list",data:=.seq ([]:Lv).toArray}).objs.size λ_=>none:=by rw[eh];exact⟨_,_,_,pushCells_keeps _ _ _ _ (Zn _ rfl),rfl,(λx h=>by simp at h),λ_=>rfl⟩
 have hcl:CellsOk h₁ ((s.heap.push {cls:=.type "list",data:=.seq ([]:Lv).toArray}).objs.size+1) (cellsFrom ((s.heap.push {cls:=.type "list",data:=.seq ([]:Lv).toArray}).objs.size+1) scope.names []):=by rw[eh];exact a6P' _ _ _
 rw[←eh];have J0:=a8u' (tk:=s.toks) (N:=N) (scope:=scope) (σ':=cs σ) hc I3 sc hf3 fpl3 hns₁ old3 hcl k1 k2;have old:∀b o,s.heap.get? b=some o→h₁.get? b=some o:=λb o e=>old3 b o (Zd _ e);have st1:tn 0 h₁:=T.keep _ _ _ st λb _ o e=>old b o e;have hlt:X.env.locals<(s.heap.push {cls:=.type "list",data:=.seq ([]:Lv).toArray}).objs.size:=I3.lt
 have loop:codeAny (model X.prog X.w) X.A (.compLoop (.ListComp elt (⟨tg,iter,ifs,0⟩::rest) scope pos) 0 (.ref it) (.ref s.heap.objs.size) (cxC X scope N (s.heap.push {cls:=.type "list",data:=.seq ([]:Lv).toArray}).objs.size {s with heap:=s.heap.push {cls:=.type "list",data:=.seq ([]:Lv).toArray},toks:=s.toks} (upd H s.heap.objs.size (.lst [])) fp).env)
   (R (.ref s.heap.objs.size) (s.heap.push {cls:=.type "list",data:=.seq ([]:Lv).toArray}).objs.size) {s with heap:=h₁,toks:=s.toks}:=by
  obtain⟨p1,p2⟩:=hin (s.heap.push {cls:=.type "list",data:=.seq ([]:Lv).toArray}).objs.size {s with heap:=s.heap.push {cls:=.type "list",data:=.seq ([]:Lv).toArray},toks:=s.toks} (upd H s.heap.objs.size (.lst [])) fp s.heap.objs.size;refine a4f' (X:=cxC X scope N _ _ _ fp) (Fin:=λ_ H'=>Fin (.ref s.heap.objs.size) H') rfl hc (heq _ _) T p1 p2 J0 st1 (λb hb=>?_) ?_ ?_
  ·obtain⟨f0,f1,f2,f3,f4,f5⟩:=hf3 b hb;obtain⟨o,ho⟩:=fpl3 b hb;refine⟨f0,ZK (Zk ho),fs_of I3 f1 f2,.inl hb,λx c h=>?_,λp hp=>f5 p (by simpa[cxC]using hp)⟩;rcases a0y' h with z| ⟨_,z⟩
   ·exact λq=>absurd (Zk ho) (Nat.not_lt.mpr (q▸Nat.le_of_succ_le (hcl.empty x c (Zx z)).2))
   ·exact f4 x c (a3C' scope.names [] (λ_ z=>nomatch z) (x,c) (Zx z))
  ·exact W _ hfr
  ·intro s' σ' H' J1 _ fin;obtain⟨m,hm,_⟩:=id J1.loc;refine hR _ _ s' H' m hm (Nat.ne_of_gt hlt) (λx c h z=>?_) J1.free I3.sz (λp hp z=>?_) (λh' hs'=>?_) fin
   ·obtain⟨v,q⟩:=I3.cell x c h;exact absurd q.lt (by rw[z];exact Nat.lt_irrefl _)
   ·exact absurd (Zk (I3.pin p hp).1) (by rw[z];exact Nat.lt_irrefl _)
   ·exact a8v' I3 hf3 rfl J1 hs'
 exact codeAny_compStart_list loop (T.self _ 0 _ _ _ st1 loop)
theorem pe_comp{rest:List Comprehension}{pos:Pos}{tb:Addr→TU}(hc:X.calm=true)(sc:CScope X scope)(hcs:CsOk X scope N cs)(hi:PI X tg iter wi)(body:Addr→Env→Sem Unit)
  (heq:∀(it acc:Addr) (env:Env),compTurn (.ListComp elt (⟨tg,iter,ifs,0⟩::rest) scope pos) 0 (.ref it) (.ref acc) env=(standAt iter.pos>>=λ_=>pyNext (.ref it)>>=λr=>match r with
   |none=>pure (.done .next)
   |some v=>letOwnedTupleGo tg (.ref it) v>>=λ_=>assign tg env v>>=λ_=>body acc env>>=λ_=>again (.compLoop (.ListComp elt (⟨tg,iter,ifs,0⟩::rest) scope pos) 0 (.ref it) (.ref acc) env)))
  (hin:∀(C:Addr) (s0:Shared) (H0:Hp) (fp:La) (acc:Addr),PG (cxC X scope N C s0 H0 fp) tg g∧PB (cxC X scope N C s0 H0 fp) (body acc (cxC X scope N C s0 H0 fp).env) (tb acc))
  (hs:∀x,foldedSetIterable iter X.env x=pure x:=by intro _;rfl):PE X (.ListComp elt (⟨tg,iter,ifs,0⟩::rest) scope pos) (tComp cs wi g tb):=by
 intro pq s σ H Q I h;rw[eval_ListComp];refine wpAny_comprehension_free (use:=none) rfl hs (a7E' I sc) sc.kind sc.loc (ZV (hi pq s σ H _ I h) (λv s1 h1=>ZV h1 (λitv s2 h2=>?_) λ_ _ e=>e) λ_ _ e=>e);obtain⟨it,fp,tn,J,H2,e,I2,T,st2,f2,W⟩:=h2;subst e;refine a4g' (R:=λacc C=>compPost (model X.prog X.w) X.A X.xe none (EP X pq σ Q) acc C) (Fin:=Q) hc sc hcs I2 T st2 f2 body (heq it) hin W ?_;intro acc C s' H' m hm _ _ _ _ _ hI fin;exact⟨m,hm,λh' hs'=>⟨.ref acc,H',hI h' hs',rfl,fin⟩⟩
theorem ps_comp{rest:List Comprehension}{pos spos px:Pos}{tb:Addr→TU}{x:Str}{j:Nat}(hc:X.calm=true)(hN:X.N.Nodup)(hj:X.N[j]?=some x)(hx:X.env.scope.names.lookup x=some .local)
  (hsw:swapsWith (.ListComp elt (⟨tg,iter,ifs,0⟩::rest) scope pos) (some (.Name x px)) spos.line X.env=pure true)
  (sc:CScope X scope) (hcs:CsOk X scope N cs) (hi:PI X tg iter wi) (body:Addr→Env→Sem Unit)
  (heq:∀(it acc:Addr) (env:Env),compTurn (.ListComp elt (⟨tg,iter,ifs,0⟩::rest) scope pos) 0 (.ref it) (.ref acc) env=(standAt iter.pos>>=λ_=>pyNext (.ref it)>>=λr=>match r with
   |none=>pure (.done .next)
   |some v=>letOwnedTupleGo tg (.ref it) v>>=λ_=>assign tg env v>>=λ_=>body acc env>>=λ_=>again (.compLoop (.ListComp elt (⟨tg,iter,ifs,0⟩::rest) scope pos) 0 (.ref it) (.ref acc) env)))
  (hin:∀(C:Addr) (s0:Shared) (H0:Hp) (fp:La) (acc:Addr),PG (cxC X scope N C s0 H0 fp) tg g∧PB (cxC X scope N C s0 H0 fp) (body acc (cxC X scope N C s0 H0 fp).env) (tb acc))
  (hs:∀x,foldedSetIterable iter X.env x=pure x:=by intro _;rfl):PS X (.Assign [.Name x px] (.ListComp elt (⟨tg,iter,ifs,0⟩::rest) scope pos) spos) (tAsg (tComp cs wi g tb) (gName j)):=by
 intro pq s σ H D I h;rw[exec_Assign_Name_used _ _ _ _ hsw];refine Za (wpAny_standAt (Za ?_));show wpAny _ X.A (do let _ ←comprehension (.ListComp elt (⟨tg,iter,ifs,0⟩::rest) scope pos) scope X.env _ (newList []) false (eval iter X.env) (some (assign (.Name x px) X.env))) _ _ s
 refine Za (ZV (wpAny_comprehension_free (use:=some (assign (.Name x px) X.env)) (Q:=λ_ s'=>SP X pq D .next s') rfl hs (a7E' I sc) sc.kind sc.loc
  (ZV (hi pq s σ H _ I h) (λv s1 h1=>ZV h1 (λitv s2 h2=>?_) λ_ _ e=>e) λ_ _ e=>e)) (λ_ s' hq=>Zg (Zg hq)) λ_ _ e=>e)
 obtain⟨it,fp,tn,J,H2,e,I2,T,st2,f2,W⟩:=h2;subst e;refine a4g' (R:=λacc C=>compPost (model X.prog X.w) X.A X.xe (some (assign (.Name x px) X.env)) (λ_ s'=>SP X pq D .next s') acc C) (Fin:=λv H'=>gName j v σ H' D.nx) hc sc hcs I2 T st2 f2 body (heq it) hin W ?_;intro acc C s' H' m hm hCL hCc hC1 hC2 hC3 hI fin;show wpAny _ X.A (assign (.Name x px) X.env (.ref acc)) _ _ s'
 have I4:Inv X pq σ H' s':=by have:=hI s'.heap (.refl ..);simpa using this
 refine wpAny_assign_Name (a3U' I4 hN hj (.inl hx) (v:=.ref acc) rfl (λs'' I5 hch=>?_) (.inr hx));obtain⟨a,hsb,ha⟩:=hch
 have hCa:C≠a:=by
  rcases ha with rfl|ha
  ·exact hCL
  ·exact λz=>hCc x a ha z.symm
 refine⟨m,hm.sameBut hsb hCa,λh' hs'=>?_⟩;exact⟨_,H',I5.turned (h':=h') (t':=s''.toks) (it:=C) (λb o hb e=>(hs'.2 b hb).trans e) hC1 hCL (.inr hC2) hCc hC3,fin⟩
def intsD:List D→Option (Li)
 | []=>some []
 | .int i::r=>(intsD r).map (i:: ·)
 |_=>none
theorem a2F':∀{xs:List D} {ns:Li},intsD xs=some ns→xs=ns.map D.int
 | [],ns,h=>by cases h;rfl
 |x::xs,ns,h=>by
  cases x with
  |int i=>
   unfold intsD at h;cases e:intsD xs with
   |none=>rw[e]at h;cases h
   |some ms=>rw[e]at h;cases h;rw[a2F' e];rfl
  |_=>cases h
theorem a4h'{mg:GS}:∀(ns:Li) (vs:List V),RepL K mg μ H (ns.map D.int) vs→vs=ns.map V.int:=by
 intro ns
 induction ns with
 |nil=>intro vs r;unfold RepL at r;exact r
 |cons n ns ih=>intro vs r;obtain⟨v,ws,rfl,r1,r2⟩:=r.uncons;cases a0a' r1;rw[ih ws r2];rfl
def a8w'(d:D)(ds:List D)(S:Store):Res D:=match d,ds with
 | .ref n,[.int k]=>match S[n]? with
  |some xs=>match intsD xs with
   |some ns=>.ok (.int (ns.count k:Nat)) S
   |none=>.fail
  |none=>.fail
 |_,_=>.fail
theorem a3E':∀{ns:Li} {its:Lv},Vals (ns.map V.int) its→PyProof.Rows.IntsAre its ns
 | [],its,r=>by cases r;exact .nil
 |n::ns,its,r=>by
  cases r with
  |cons p q=>obtain⟨t,rfl⟩:=p;exact .cons _ _ (a3E' q)
theorem count_D:MtR X "list.count" (rM X.K X.mg a8w'):=by
 intro pq s σ H x xs v us Q I rx rs h;obtain⟨F,μ,S,d,ds,sk,rd,rds,w⟩:=h;unfold a8w' at w;split at w
 ·rename_i n k;split at w
  ·rename_i ys e;split at w
   ·rename_i ns en;have hys:=a2F' en;subst hys;obtain⟨a,vs,rfl,hn,ha,r⟩:=a5w' sk rd e;have hv:=a4h' _ vs r;subst hv;obtain⟨z,rfl,hz⟩:=rds.one;cases a0a' hz;cases rx;obtain⟨u,rfl,ru⟩:=rs.one;obtain⟨t,rfl⟩:=ru;obtain⟨its,rv,p,hz⟩:=I.list (.of ha);exact count_list_ints p.isList (a3E' rv) ⟨.int (ns.count k:Nat),H,I.kept (t':=s.toks+1) λb o e=>e,⟨_,rfl⟩,w μ H _ .refl sk a0H'⟩
   ·exact w.elim
  ·exact w.elim
 ·exact w.elim
section
variable {R:Result→Shared→Prop}{P:Nat→Value→Prop}{St:Nat→Heap→Prop}
end
mutual
def toPy:D→Option PyData
 | .non=>some .none
 | .bl b=>some (.bool b)
 | .int i=>some (.int i)
 | .str x=>some (.str x)
 | .tup ds=>(toPyL ds).map .tuple
 | .lst ds=>(toPyL ds).map .list
 |_=>none
def toPyL:List D→Option (List PyData)
 | []=>some []
 |d::ds=>match toPy d,toPyL ds with
  |some p,some ps=>some (p::ps)
  |_,_=>none
end
mutual
theorem a8x'(I:Inv X pq σ H s):∀(d:D) (v:V) (u:Value) (p:PyData),Rep X.K ⟨X.mg,F⟩ μ H d v→RelV v u→toPy d=some p→p.hasDict=false∧∃as,Reads s.heap u p as
 | .non,v,u,p,r,q,h=>by cases a1X' r;have q:u=.none:=q;subst q;cases h;exact⟨rfl,_,.none⟩
 | .bl b,v,u,p,r,q,h=>by cases a2W' r;have q:u=.bool b:=q;subst q;cases h;exact⟨rfl,_,.bool b⟩
 | .int i,v,u,p,r,q,h=>by cases a0a' r;obtain⟨t,rfl⟩:=q;cases h;exact⟨rfl,_,.int i t⟩
 | .str x,v,u,p,r,q,h=>by cases a1I' r;obtain⟨t,rfl⟩:=q;cases h;exact⟨rfl,_,.str x t⟩
 | .tup ds,v,u,p,r,q,h=>by
  obtain⟨a,vs,rfl,ha,rr⟩:=a0m' r;have q:u=.ref a:=q;subst q;obtain⟨its,rv,⟨o,h1,h2,n,h3⟩,_⟩:=I.tuple ha;have h:(toPyL ds).map PyData.tuple=some p:=h;cases e:toPyL ds with
  |none=>rw[e]at h;cases h
  |some ps=>rw[e]at h;cases h;obtain⟨k1,as,k2⟩:=a2G' I ds vs its ps rr rv e;exact⟨k1,as,.tuple h1 h2 h3 (by simpa using k2)⟩
 | .lst ds,v,u,p,r,q,h=>by
  unfold Rep at r;obtain⟨a,vs,rfl,ha,_,rr⟩:=r;have q:u=.ref a:=q;subst q;obtain⟨its,rv,pl,_⟩:=I.list (.of ha);obtain⟨o,h1,h2,n,h3⟩:=pl.isList;have h:(toPyL ds).map PyData.list=some p:=h;cases e:toPyL ds with
  |none=>rw[e]at h;cases h
  |some ps=>rw[e]at h;cases h;obtain⟨k1,as,k2⟩:=a2G' I ds vs its ps rr rv e;exact⟨k1,_,.list h1 h2 h3 (by simpa using k2)⟩
 | .ref _,v,u,p,r,q,h=>by cases h
 | .scr _,v,u,p,r,q,h=>by cases h
 | .fn _,v,u,p,r,q,h=>by cases h
 | .dct,v,u,p,r,q,h=>by cases h
 | .ty _,v,u,p,r,q,h=>by cases h
theorem a2G'(I:Inv X pq σ H s):∀(ds:List D) (vs:List V) (us:Lv) (ps:List PyData),RepL X.K ⟨X.mg,F⟩ μ H ds vs→Vals vs us→toPyL ds=some ps→PyData.hasDictAll ps=false∧∃as,ReadsAll s.heap us ps as
 | [],vs,us,ps,r,q,h=>by unfold RepL at r;subst r;cases q.zero;cases h;exact⟨rfl,_,.nil⟩
 |d::ds,vs,us,ps,r,q,h=>by
  obtain⟨w,ws,rfl,r1,r2⟩:=r.uncons;obtain⟨u,us',rfl,q1,q2⟩:=q.un;unfold toPyL at h;split at h
  ·rename_i p ps' e1 e2;cases h;obtain⟨k1,as,k2⟩:=a8x' I d w u p r1 q1 e1;obtain⟨k3,bs,k4⟩:=a2G' I ds ws us' ps' r2 q2 e2;exact⟨by show(PyData.hasDict p||PyData.hasDictAll ps')=false;rw[k1,k3];rfl,_,.cons k2 k4⟩
  ·cases h
end
open PySem.SeqAt PySem.MeetsSeq PySem.MeetsSeq2 PySem.MeetsSeq3
open PySem.AutoSeq1 (wpAny_loadPart')
theorem a4G'(f:Nat→β→Sem (ForInStep β))(I:Nat→β→Shared→Prop)(Q:β→Shared→Prop)
  (turn:∀i b s,i<n→I i b s→wpAny M A (f i b) (λr s'=>match r with| .yield b'=>I (i+1) b' s'| .done b'=>Q b' s') E s)
  (fin:∀b s,I n b s→Q b s) (b:β) (h:I 0 b s):wpAny M A (forIn [0:n] b f) Q E s:=by
 rw[Std.Legacy.Range.forIn_eq_forIn_range'];have hsz:([0:n]:Std.Legacy.Range).size=n:=by simp[Std.Legacy.Range.size]
 show wpAny M A (forIn (List.range' 0 ([0:n]:Std.Legacy.Range).size 1) b f) Q E s;rw[hsz];refine wpAny_forIn_list f (λl c st=>∃i,i≤n∧l=List.range' i (n-i) 1∧I i c st) Q ?_ ?_ _ b ⟨0,Nat.zero_le _,rfl,h⟩
 ·rintro x rest c st ⟨i,hib,hl,hI⟩
  have hlt:i<n:=by
   rcases Nat.lt_or_ge i n with h'|h'
   ·exact h'
   ·rw[show n-i=0 by omega]at hl;simp at hl
  obtain⟨m,hn⟩:∃m,n-i=m+1:=⟨n-i-1,by omega⟩;rw[hn,List.range'_succ]at hl;obtain⟨rfl,rfl⟩:=List.cons.inj hl;refine ZV (turn x c st hlt hI) (λr st' h'=>?_) λ_ _ h'=>h';cases r with
  |done c'=>exact h'
  |yield c'=>exact⟨x+1,hlt,by congr 1;omega,h'⟩
 ·rintro c st ⟨i,hib,hl,hI⟩;have:i=n:=by have:=congrArg List.length hl;simp at this;omega
  subst this;exact fin c st hI
theorem a2Z'(l:Addr)(items:Av)(n:Nat)(dd:Option Addr)(sl:Array (Ov))(x:Value)(e:Value→Bool)(j:Nat)(hj:j<items.size)(hit:e items[j]=true)(hno:∀m (hm:m<items.size),m<j→e items[m]=false):
  Meets (Builtin.«tuple.index» ⟨[.ref l,x],[]⟩)
   (λA R s=>s.heap.get? l=some {cls:=.type "tuple",dict:=dd,data:=.seq items n,slots:=sl}∧(∀y,y∈items→EqAt A.in1 s y x (e y))∧R (.ok (.ret (.int j s.toks))) {s with toks:=s.toks+1}):=
 .of_wp λprog w A R s h=>by
  obtain⟨hp,g,d,tk,os⟩:=s;obtain⟨hl,he,h⟩:=h;have hmin:min items.size items.size=items.size:=Nat.min_self _
  wp_walk using wpAny_loadPart' hl,a4G' (n:=min items.size items.size) _ (λi b s'=>b.1=none∧s'=⟨hp,g,d,tk,os⟩∧i≤j) _
  case turn=>
   rintro i b s' hi ⟨hb,rfl,hij⟩;rw[hmin]at hi;rw[Array.getElem?_eq_getElem hi];refine Za (he items[i] (Array.getElem_mem hi) prog w _ _ ?_);by_cases hc:i=j
   ·subst hc;rw[hit]
    wp_walk
    exact⟨_,rfl,h⟩
   ·rw[hno i hi (by omega)]
    wp_walk
    exact⟨rfl,rfl,by omega⟩
  case fin=>rintro⟨b1,b2⟩ s' ⟨hb,rfl,hij⟩;rw[hmin]at hij;omega
  case h=>exact⟨rfl,rfl,Nat.zero_le _⟩
theorem a8y'{prog:Program}{w:World}{A:Around}{E:Vs}{l:Addr}{vs:Lv}{k:Int}{t:Tok}(hl:s.heap.IsTuple l vs.toArray)(hi:IntsAre vs ns)(hk:k∈ns)
  (h:Q (.int (ns.idxOf k:Nat) s.toks) {s with toks:=s.toks+1}):wpAny (model prog w) A (call (.builtin "tuple.index") [.ref l,.int k t]) Q E s:=by
 obtain⟨⟨cls,dd,data,sl⟩,ho,hc,n,hd⟩:=id hl;simp only at hc hd;subst hc hd
 have hlen:vs.length=ns.length:=by
  clear hl ho h hk
  induction hi with
  |nil=>rfl
  |cons _ _ _ ih=>simp[ih]
 have hj:ns.idxOf k<ns.length:=List.idxOf_lt_length_of_mem hk;have hv:∀(m:Nat) (hm:m<vs.length),isInt k vs[m]=decide (ns[m]'(by omega)=k):=by intro m hm;obtain⟨t',e⟩:=hi.int_at m vs[m] (Zh hm);rw[e,List.getD_eq_getElem?_getD,Zh (by omega)];simp only[isInt,Option.getD_some];exact Bool.beq_eq_decide_eq _ _
 refine call_meets PySem.F.slot_tuple_index ⟨_,ho,rfl⟩ PySem.F.entry_tuple_index (PySem.F.args_tuple_index_2 _ _) (a2Z' l vs.toArray n dd sl (.int k t) (isInt k) (ns.idxOf k) (by simpa[hlen]using hj) ?_ ?_) ⟨ho,λy hy=>(eq_isInt k t hi y (by simpa using hy)).at _ _,h⟩
 ·have:=hv (ns.idxOf k) (by omega);rw[List.getElem_toArray,this];simp
 ·intro m hm hlt;have hm':m<vs.length:=by simpa using hm
  rw[List.getElem_toArray,hv m hm'];have:=List.not_of_lt_findIdx (p:=(· ==k)) (xs:=ns) (i:=m) hlt;simpa using this
def tixD(d:D)(ds:List D)(S:Store):Res D:=match d,ds with
 | .tup xs,[.int k]=>match intsD xs with
  |some ns=>if k∈ns then .ok (.int (ns.idxOf k:Nat)) S else .fail
  |none=>.fail
 |_,_=>.fail
theorem tix_D:MtR X "tuple.index" (rM X.K X.mg tixD):=by
 intro pq s σ H x xs v us Q I rx rs h;obtain⟨F,μ,S,d,ds,sk,rd,rds,w⟩:=h;unfold tixD at w;split at w
 ·rename_i ys k;split at w
  ·rename_i ns en;split at w
   ·rename_i hk;have hys:=a2F' en;subst hys;obtain⟨a,vs,rfl,ha,r⟩:=a0m' rd;have hv:=a4h' _ vs r;subst hv;obtain⟨z,rfl,hz⟩:=rds.one;cases a0a' hz;cases rx;obtain⟨u,rfl,ru⟩:=rs.one;obtain⟨t,rfl⟩:=ru;obtain⟨its,rv,p,hz⟩:=I.tuple ha;exact a8y' p (a3E' rv) hk ⟨.int (ns.idxOf k:Nat),H,I.kept (t':=s.toks+1) λb o e=>e,⟨_,rfl⟩,w μ H _ .refl sk a0H'⟩
   ·exact w.elim
  ·exact w.elim
 ·exact w.elim
end Py
namespace Py
section
open PySem.AutoSeq1 (wpAny_loadPart')
open PySem.MeetsSeq PySem.MeetsSeq2 PySem.MeetsSeq3
open PySem.AutoSeq1
end
inductive KTy where
 |int|seq (t:KTy)
 deriving DecidableEq
inductive Blt where
 |len|tuple|list (box:Bool)|int|min|max|isinst|all|any|sum|repr|abs|sorted (box:Bool) (t:KTy)
 deriving DecidableEq
inductive Mth where
 |append|extend|pop|count|insert
 deriving DecidableEq
inductive CT where
 |var (i:Nat)
 |tup (ts:List CT)
inductive FP where
 |s (x:Str)|v (i:Nat)|g (y:Str)
 deriving DecidableEq
inductive CE where
 |var (i:Nat)
 |lit (d:D)
 |glob (x:Str)
 |ty (n:String)
 |bin (op:Operator) (a b:CE)
 |binB (a b:CE)
 |neg (a:CE)
 |cmp (op:CmpOp) (a b:CE)
 |chain (op op':CmpOp) (a b c:CE)
 |band (a b:CE)
 |bor (a b:CE)
 |bnot (a:CE)
 |ite (c a b:CE)
 |tup (es:List CE)
 |lst (box:Bool) (es:List CE)
 |idx (a b:CE)
 |sl (a:CE) (lo hi:List CE)
 |call (f:Str) (es:List CE)
 |blt (b:Blt) (es:List CE)
 |meth (m:Mth) (o:CE) (es:List CE)
 |tix (o:CE) (es:List CE)
 |sel (fs:Ls) (i:CE) (es:List CE)
 |fst (ps:List FP)
 |lenset (a:CE)
 |sumL (a:CE)
 |sset (a:CE)
 |rng (tup box:Bool) (es:List CE)
 |comp (box:Bool) (N:Ls) (fr:List (Option Nat)) (tg:CT) (it:CE) (ifs:List CE) (body:CE)
 |emit (e:CE)
 |inner (tg:CT) (it:CE) (ifs:List CE) (body:CE)
 |seq (e:CE)
 |range (es:List CE)
 |zip (es:List CE)
 |down (es:List CE)
 |dct
 |rev (a b:CE)
 |odd (a b c:CE)
 |rv0 (a b c:CE)
 |enum (es:List CE)
 |revl (es:List CE)
 |by2 (es:List CE)
inductive CS where
 |asg (i:Nat) (e:CE)
 |asgT (t:CT) (e:CE)
 |par (is:List Nat) (es:List CE)
 |aug (i:Nat) (e:CE)
 |set (o i v:CE)
 |set2 (o i o' i' v:CE)
 |expr (e:CE)
 |ret (e:CE)
 |retN
 |pass
 |brk
 |cont
 |ite (c:CE) (a b:List CS)
 |for_ (t:CT) (it:CE) (body:List CS)
 |while_ (n:Nat) (c:CE) (body:List CS)
 |never
 |raise_ (x:Str) (es:List CE)
 |tryK (i:Nat) (body:List CS) (f:Str) (ys ws:Ls)
abbrev Rho:=List (Option D)
abbrev FT:=Str→Option (List D→Store→Res D)
def fpD(Γ:Str→Option D)(ρ:Rho):FP→Option Str
 | .s x=>some x
 | .v i=>(match ρ[i]? with
  |some (some (.int k))=>if k.natAbs<2^64 then some (toString k:String)else none
  |_=>none)
 | .g y=>(match Γ y with
  |some (.int k)=>if k.natAbs<2^64 then some (toString k:String)else none
  |_=>none)
def fJ:List (Option Str)→Str→Option Str
 | [],out=>if out.length≤1000 then some out else none
 |some y::r,out=>if(out++y).length≤1000 then fJ r (out++y)else none
 |none::_,_=>none
def Res.bind{α β:Type}(r:Res α)(f:α→Store→Res β):Res β:=match r with
 | .ok a S=>f a S
 | .err x S=>.err x S
 | .fail=>.fail
def Res.noErr{α:Type}:Res α→Res α
 | .ok a S=>.ok a S
 |_=>.fail
def onBl{α:Type}(d:D)(f:Bool→Res α):Res α:=match d with
 | .bl k=>f k
 |_=>.fail
def asgVs:List CT→List D→Rho→Option Rho
 | [],ds,ρ=>if ds.isEmpty=true then some ρ else none
 |t::ts,ds,ρ=>match t,ds with
  | .var i,d::ds=>asgVs ts ds (ρ.set i (some d))
  |_,_=>none
def asgCT:CT→D→Rho→Option Rho
 | .var i,d,ρ=>some (ρ.set i (some d))
 | .tup ts,d,ρ=>match d with
  | .tup ds=>asgVs ts ds ρ
  |_=>none
def a5C':List CT→List Nat
 | []=>[]
 |t::ts=>match t with
  | .var i=>i::a5C' ts
  | .tup _=>a5C' ts
def slots:CT→List Nat
 | .var i=>[i]
 | .tup ts=>a5C' ts
def isNew:Rho→List Nat→Bool
 |ρ,is=>is.all λi=>match ρ[i]? with
  |some none=>true
  |_=>false
def a1Y'(t:CT)(d:D)(ρ:Rho):Option Rho:=if isNew ρ (slots t)=true then asgCT t d ρ else none
inductive Its where
 |items (xs:List D)|live (f:Nat) (get:Store→Nat→Option (Option D))
def compD(step:D→List D→Store→Res (List D)):List D→List D→Store→Res (List D)
 | [],acc,S=>.ok acc S
 |x::xs,acc,S=>(step x acc S).bind λacc' S'=>compD step xs acc' S'
def compB(step:D→List D→Store→Res (List D))(get:Store→Nat→Option (Option D)):Nat→Nat→List D→Store→Res (List D)
 |0,_,_,_=>.fail
 |f+1,i,acc,S=>match get S i with
  |none=>.fail
  |some none=>.ok acc S
  |some (some x)=>(step x acc S).bind λacc' S'=>compB step get f (i+1) acc' S'
def compI(step:D→List D→Store→Res (List D))(its:Its)(acc:List D)(S:Store):Res (List D):=match its with
 | .items xs=>compD step xs acc S
 | .live f get=>compB step get f 0 acc S
def a6Q'(n:Nat):Store→Nat→Option (Option D):=λS i=>(S[n]?).map λxs=>xs[i]?
def a5D'(S:Store):D→Option Its
 | .tup xs=>some (.items xs)
 | .lst xs=>some (.items xs)
 | .scr xs=>some (.items xs)
 | .ref n=>some (.live (((S[n]?).getD []).length+1) (a6Q' n))
 |_=>none
def a6R':D→Option (List D)
 | .tup xs=>some xs
 | .lst xs=>some xs
 | .scr xs=>some xs
 |_=>none
def a6S'(d e:D):Store→Nat→Option (Option D):=λS i=>match seqOf S d,seqOf S e with
 |some xs,some ys=>some (match xs[i]?,ys[i]? with
  |some x,some y=>some (.tup [x,y])
  |_,_=>none)
 |_,_=>none
def isLst:D→Bool
 | .tup _=>false
 |_=>true
def zipOf(S:Store)(d e:D):Option Its:=match a6R' d,a6R' e with
  |some xs,some ys=>some (.items (List.zipWith (λx y=>.tup [x,y]) xs ys))
  |_,_=>match seqOf S d,seqOf S e with
   |some xs,some ys=>some (.live (min xs.length ys.length+1) (a6S' d e))
   |_,_=>none
def a2i'(lo:Int):Nat→List D
 |0=>[]
 |n+1=>.int lo::a2i' (lo+1) n
def toOpt:List D→Option (Option Int)
 | []=>some none
 | [.int i]=>some (some i)
 |_=>none
def optL(ds:List D)(S:Store):Res (Option Int):=match toOpt ds with
 |some o=>.ok o S
 |none=>.fail
def hasTy:KTy→D→Bool
 | .int,.int _=>true
 | .seq t,.tup xs=>xs.all (hasTy t)
 |_,_=>false
def lexB(f:D→D→Bool):List D→List D→Bool
 | [],[]=>false
 | [],_::_=>true
 |_::_,[]=>false
 |x::xs,y::ys=>if f x y=true then true else if f y x=true then false else lexB f xs ys
def ltK:KTy→D→D→Bool
 | .int,.int i,.int j=>decide (i<j)
 | .seq t,.tup xs,.tup ys=>lexB (ltK t) xs ys
 |_,_,_=>false
def insB(f:D→D→Bool)(x:D):List D→List D
 | []=>[x]
 |y::ys=>if f x y=true then x::y::ys else y::insB f x ys
def a3F'(f:D→D→Bool)(xs:List D):List D:=xs.foldl (λacc x=>insB f x acc) []
def noStr:KTy→Bool
 | .int=>true
 | .seq t=>noStr t
def isNil:D→Bool
 | .tup []=>true
 |_=>false
def a3G':KTy→List D→Bool
 | .int,_=>true
 | .seq t,xs=>noStr t&&((xs.all λd=> !isNil d)||isNil (xs.headD .non))
def a5E'(box:Bool)(t:KTy)(ds:List D)(S:Store):Res D:=match ds with
 | [d]=>match seqOf S d with
  |some xs=>if xs.all (hasTy t)=true∧xs.length<65536∧a3G' t xs=true then(if box=true then .ok (.ref S.length) (S++[a3F' (ltK t) xs])else .ok (.lst (a3F' (ltK t) xs)) S)else .fail
  |none=>.fail
 |_=>.fail
def depth:KTy→Nat
 | .int=>1
 | .seq t=>depth t+1
def bltB:Blt→Bool
 | .sorted _ t=>decide (depth t≤40)
 | .sum=>false
 | .any=>false
 | .min=>false
 | .max=>false
 | .list _=>false
 | .repr=>false
 | .abs=>false
 |_=>true
def bltD:Blt→List D→Store→Res D
 | .len=>lenD| .tuple=>a8r'| .list _=>λ_ _=>.fail | .int=>intD| .min=>λ_ _=>.fail | .max=>λ_ _=>.fail | .isinst=>a5u'| .all=>allD| .any=>λ_ _=>.fail | .sum=>λ_ _=>.fail | .repr=>λ_ _=>.fail | .abs=>λ_ _=>.fail
 | .sorted b t=>a5E' b t
def methD:Mth→D→List D→Store→Res D
 | .append=>a5x'| .extend=>λ_ _ _=>.fail | .pop=>λ_ _ _=>.fail | .count=>a8w'| .insert=>λ_ _ _=>.fail
section
variable (Φ:FT)(Γ:Str→Option D)
mutual
def den:CE→Rho→Store→Res D
 | .var i,ρ,S=>match ρ[i]? with
  |some (some d)=>.ok d S
  |_=>.fail
 | .dct,ρ,S=>.ok .dct S
 | .lit d,ρ,S=>.ok d S
 | .glob x,ρ,S=>match Γ x with
  |some d=>.ok d S
  |none=>.fail
 | .ty n,ρ,S=>.ok (.ty n) S
 | .bin op a b,ρ,S=>(den a ρ S).bind λd S1=>(den b ρ S1).bind λe S2=>(opD op d e S2).noErr
 | .binB _ _,_,_=>.fail
 | .neg a,ρ,S=>(den a ρ S).bind λd S1=>match d with
  | .int i=>.ok (.int (-i)) S1
  |_=>.fail
 | .cmp op a b,ρ,S=>(den a ρ S).bind λd S1=>(den b ρ S1).bind λe S2=>(cmpD op d e S2).noErr
 | .chain op op' a b c,ρ,S=>(den a ρ S).bind λd S1=>(den b ρ S1).bind λe S2=>(cmpD op d e S2).noErr.bind λk S3=>onBl k λk=>if k=true then(den c ρ S3).bind λf S4=>(cmpD op' e f S4).noErr else .ok (.bl false) S3
 | .band a b,ρ,S=>(den a ρ S).bind λd S1=>onBl d λk=>if k=true then den b ρ S1 else .ok (.bl false) S1
 | .bor a b,ρ,S=>(den a ρ S).bind λd S1=>onBl d λk=>if k=true then .ok (.bl true) S1 else den b ρ S1
 | .bnot a,ρ,S=>(den a ρ S).bind λd S1=>match truD S1 d with
  |some k=>.ok (.bl (!k)) S1
  |none=>.fail
 | .ite c a b,ρ,S=>(denT c ρ S).bind λk S1=>if k=true then den a ρ S1 else den b ρ S1
 | .tup es,ρ,S=>(denL es ρ S).bind λds S1=>.ok (.tup ds) S1
 | .lst box es,ρ,S=>(denL es ρ S).bind λds S1=>if box=true then .ok (.ref S1.length) (S1++[ds])else .ok (.lst ds) S1
 | .rev _ _,_,_=>.fail
 | .rv0 _ _ _,_,_=>.fail
 | .odd _ _ _,_,_=>.fail
 | .idx a b,ρ,S=>(den a ρ S).bind λd S1=>(den b ρ S1).bind λe S2=>(idxD d e S2).noErr
 | .sl a lo hi,ρ,S=>(den a ρ S).bind λd S1=>((denL lo ρ S1).bind optL).bind λl S2=>((denL hi ρ S2).bind optL).bind λh S3=>(slD d l h S3).noErr
 | .call f es,ρ,S=>match Φ f with
  |some φ=>(denL es ρ S).bind λds S1=>φ ds S1
  |none=>.fail
 | .blt b es,ρ,S=>(denL es ρ S).bind λds S1=>(bltD b ds S1).noErr
 | .meth m o es,ρ,S=>(den o ρ S).bind λd S1=>match d with
  | .ref n=>(denL es ρ S1).bind λds S2=>(methD m (.ref n) ds S2).noErr
  |_=>.fail
 | .fst ps,ρ,S=>match fJ (ps.map (fpD Γ ρ)) Str.empty with
  |some x=>.ok (.str x) S
  |none=>.fail
 | .sel fs i es,ρ,S=>if(fs.all λf=>(Φ f).isSome)=true∧fs.length<1000 then(den i ρ S).bind λd S1=>(match d with
   | .int k=>(match(if 0≤k then fs[k.toNat]? else none)with
    |some f=>(match Φ f with
     |some φ=>(denL es ρ S1).bind λds S2=>φ ds S2
     |none=>.fail)
    |none=>.fail)
   |_=>.fail)else .fail
 | .tix o es,ρ,S=>(den o ρ S).bind λd S1=>match d with
  | .tup xs=>(denL es ρ S1).bind λds S2=>(tixD (.tup xs) ds S2).noErr
  |_=>.fail
 | .lenset _,_,_=>.fail
 | .sumL _,_,_=>.fail
 | .sset _,_,_=>.fail
 | .rng _ _ _,_,_=>.fail
 | .comp box N fr tg it ifs body,ρ,S=>(denI it ρ S).bind λits S1=>
   (compI (λx acc S2=>match a1Y' tg x (fr.map λj=>j.bind λj=>(ρ[j]?).join)with
    |some ρ'=>(denTs ifs ρ' S2).bind λk S3=>if k=true then denB body ρ' acc S3 else .ok acc S3
    |none=>.fail) its [] S1).noErr.bind λys S5=>if box=true then .ok (.ref S5.length) (S5++[ys])else .ok (.lst ys) S5
 | .emit _,_,_=>.fail
 | .inner _ _ _ _,_,_=>.fail
 | .seq _,_,_=>.fail
 | .range _,_,_=>.fail
 | .zip _,_,_=>.fail
 | .down _,_,_=>.fail
 | .enum _,_,_=>.fail
 | .revl _,_,_=>.fail
 | .by2 _,_,_=>.fail
def denT:CE→Rho→Store→Res Bool
 | .band a b,ρ,S=>(denT a ρ S).bind λk S1=>if k=true then denT b ρ S1 else .ok false S1
 | .bor a b,ρ,S=>(denT a ρ S).bind λk S1=>if k=true then .ok true S1 else denT b ρ S1
 | .bnot a,ρ,S=>(denT a ρ S).bind λk S1=>.ok (!k) S1
 | .cmp op a b,ρ,S=>(den a ρ S).bind λd S1=>(den b ρ S1).bind λe S2=>(cmpD op d e S2).noErr.bind λk S3=>onBl k λk=>.ok k S3
 | .chain op op' a b c,ρ,S=>(den a ρ S).bind λd S1=>(den b ρ S1).bind λe S2=>(cmpD op d e S2).noErr.bind λk S3=>onBl k λk=>if k=true then(den c ρ S3).bind λf S4=>(cmpD op' e f S4).noErr.bind λk S5=>onBl k λk=>.ok k S5 else .ok false S3
 | .var i,ρ,S=>match ρ[i]? with
  |some (some d)=>match truD S d with
   |some k=>.ok k S
   |none=>.fail
  |_=>.fail
 | .call f es,ρ,S=>match Φ f with
  |some φ=>(denL es ρ S).bind λds S1=>(φ ds S1).bind λd S2=>match truD S2 d with
   |some k=>.ok k S2
   |none=>.fail
  |none=>.fail
 | .blt b es,ρ,S=>(denL es ρ S).bind λds S1=>(bltD b ds S1).noErr.bind λd S2=>match truD S2 d with
   |some k=>.ok k S2
   |none=>.fail
 | .lit d,ρ,S=>match truD S d with
   |some k=>.ok k S
   |none=>.fail
 |_,_,_=>.fail
def denL:List CE→Rho→Store→Res (List D)
 | [],_,S=>.ok [] S
 |e::es,ρ,S=>(den e ρ S).bind λd S1=>(denL es ρ S1).bind λds S2=>.ok (d::ds) S2
def denTs:List CE→Rho→Store→Res Bool
 | [],_,S=>.ok true S
 |e::es,ρ,S=>(denT e ρ S).bind λk S1=>if k=true then denTs es ρ S1 else .ok false S1
def denI:CE→Rho→Store→Res Its
 | .seq e,ρ,S=>(den e ρ S).bind λd S1=>match a5D' S1 d with
  |some xs=>.ok xs S1
  |none=>.fail
 | .range es,ρ,S=>(denL es ρ S).bind λds S1=>match ds with
  | [.int j]=>if-(2^62)≤j∧j<2^62 then .ok (.items (a2i' 0 j.toNat)) S1 else .fail
  | [.int i,.int j]=>if-(2^62)≤i∧i<2^62∧-(2^62)≤j∧j<2^62 then .ok (.items (a2i' i (j-i).toNat)) S1 else .fail
  |_=>.fail
 | .enum _,_,_=>.fail
 | .by2 _,_,_=>.fail
 | .revl _,_,_=>.fail
 | .down _,_,_=>.fail
 | .zip es,ρ,S=>(denL es ρ S).bind λds S2=>match ds with
  | [d,e]=>(match zipOf S2 d e with
   |some its=>.ok its S2
   |none=>.fail)
  |_=>.fail
 |_,_,_=>.fail
def denB:CE→Rho→List D→Store→Res (List D)
 | .emit e,ρ,acc,S=>(den e ρ S).bind λy S1=>if acc.length<big then .ok (acc++[y]) S1 else .fail
 | .inner tg it ifs body,ρ,acc,S=>(denI it ρ S).bind λits S1=>
   compI (λx acc S2=>match a1Y' tg x ρ with
    |some ρ'=>(denTs ifs ρ' S2).bind λk S3=>if k=true then denB body ρ' acc S3 else .ok acc S3
    |none=>.fail) its acc S1
 |_,_,_,_=>.fail
end
inductive Fl where
 |next(ρ:Rho)|ret (d:D)|brk (ρ:Rho)|cont (ρ:Rho)
def forD(step:D→Rho→Store→Res Fl):List D→Rho→Store→Res Fl
 | [],ρ,S=>.ok (.next ρ) S
 |x::xs,ρ,S=>(step x ρ S).bind λf S'=>match f with
  | .next ρ'=>forD step xs ρ' S'
  | .cont ρ'=>forD step xs ρ' S'
  | .brk ρ'=>.ok (.next ρ') S'
  | .ret d=>.ok (.ret d) S'
def forB(step:D→Rho→Store→Res Fl)(get:Store→Nat→Option (Option D)):Nat→Nat→Rho→Store→Res Fl
 |0,_,_,_=>.fail
 |f+1,i,ρ,S=>match get S i with
  |none=>.fail
  |some none=>.ok (.next ρ) S
  |some (some x)=>(step x ρ S).bind λfl S'=>match fl with
    | .next ρ'=>forB step get f (i+1) ρ' S'
    | .cont ρ'=>forB step get f (i+1) ρ' S'
    | .brk ρ'=>.ok (.next ρ') S'
    | .ret d=>.ok (.ret d) S'
def forI(step:D→Rho→Store→Res Fl)(its:Its)(ρ:Rho)(S:Store):Res Fl:=match its with
 | .items xs=>forD step xs ρ S
 | .live f get=>forB step get f 0 ρ S
mutual
def denS:CS→Rho→Store→Res Fl
 | .asg i e,ρ,S=>(den Φ Γ e ρ S).bind λd S1=>.ok (.next (ρ.set i (some d))) S1
 | .asgT t e,ρ,S=>(den Φ Γ e ρ S).bind λd S1=>match asgCT t d ρ with
  |some ρ'=>.ok (.next ρ') S1
  |none=>.fail
 | .par _ _,_,_=>.fail
 | .aug _ _,_,_=>.fail
 | .set o i v,ρ,S=>(den Φ Γ v ρ S).bind λf S1=>(den Φ Γ o ρ S1).bind λd S2=>(den Φ Γ i ρ S2).bind λe S3=>match setD d e f S3 with
  |some S4=>.ok (.next ρ) S4
  |none=>.fail
 | .set2 _ _ _ _ _,_,_=>.fail
 | .expr e,ρ,S=>(den Φ Γ e ρ S).bind λ_ S1=>.ok (.next ρ) S1
 | .ret e,ρ,S=>(den Φ Γ e ρ S).bind λd S1=>.ok (.ret d) S1
 | .retN,_,S=>.ok (.ret .non) S
 | .pass,ρ,S=>.ok (.next ρ) S
 | .brk,ρ,S=>.ok (.brk ρ) S
 | .cont,ρ,S=>.ok (.cont ρ) S
 | .ite c a b,ρ,S=>(denT Φ Γ c ρ S).bind λk S1=>if k=true then denSs a ρ S1 else denSs b ρ S1
 | .for_ t it body,ρ,S=>(denI Φ Γ it ρ S).bind λxs S1=>forI (λx ρ S=>match asgCT t x ρ with
   |some ρ'=>denSs body ρ' S
   |none=>.fail) xs ρ S1
 | .while_ _ _ _,_,_=>.fail
 | .never,_,_=>.fail
 | .raise_ x es,ρ,S=>(denL Φ Γ es ρ S).bind λds S1=>if ds.length≤1000 then .err ⟨x,[]⟩ S1 else .fail
 | .tryK _ body _ ys ws,ρ,S=>match denSs body ρ S with
  | .err x S'=>(match x.fs,(ys.zip ws).lookup x.cls with
   | [],some r=>.ok (.ret (.str r)) S'
   |_,_=>.fail)
  |r=>r
def denSs:List CS→Rho→Store→Res Fl
 | [],ρ,S=>.ok (.next ρ) S
 |c::cs,ρ,S=>(denS c ρ S).bind λf S1=>match f with
  | .next ρ'=>denSs cs ρ' S1
  |f=>.ok f S1
end
end
end Py
variable {t:Py.KTy}{body:List Py.CS}{ρ ρ':Py.Rho}{Φ:Py.FT}
namespace Py
def ExcIs(mg:Mg)(x:Exc)(cls:Value)(dict:Option Addr)(H:Hp):Prop:=mg x.cls=some cls∧x.fs=[]
def exOf(mg:Mg)(E:XK)(x:Exc)(H:Hp):Prop:=∀cls dict,ExcIs mg x cls dict H→E cls dict H
def WantG{α β:Type}(K:Fg)(mg:GS)(E:XK)(Rel:La→Hp→α→β→Prop)(μ:La)(H:Hp)(Q:β→Hp→Prop):Res α→Prop
 | .ok a S'=>∀μ' H' b,Ext μ H μ' H'→SOk K mg μ' S' H'→Rel μ' H' a b→Q b H'
 | .err x S'=>∀μ' H',Ext μ H μ' H'→SOk K mg μ' S' H'→exOf mg.mg E x H'
 | .fail=>False
section
variable {mg:GS}{E:XK}
theorem a0U'{Q:VK}{r:Res D}(w:WantG K mg E (Rep K mg) μ H Q r.noErr):Want K mg μ H Q r:=by cases r<;>first|exact w|exact w.elim
theorem WantG.ext{Rel:La→Hp→α→β→Prop}{Q:β→Hp→Prop}{r:Res α}(x:Ext μ H μ' H')(w:WantG K mg E Rel μ H Q r):WantG K mg E Rel μ' H' Q r:=by
 cases r with
 |ok d S'=>exact λμ2 H2 v x2 s2 r2=>w μ2 H2 v (x.trans x2) s2 r2
 |err y S'=>exact λμ2 H2 x2 s2=>w μ2 H2 (x.trans x2) s2
 |fail=>exact w
theorem WantG.bind{γ δ:Type}{Rel:La→Hp→α→β→Prop}{Rel':La→Hp→γ→δ→Prop}{Q:δ→Hp→Prop}{r:Res α}{f:α→Store→Res γ}(w:WantG K mg E Rel' μ H Q (r.bind f)):
  WantG K mg E Rel μ H (λb H'=>∃μ' S' a,Ext μ H μ' H'∧SOk K mg μ' S' H'∧Rel μ' H' a b∧WantG K mg E Rel' μ' H' Q (f a S')) r:=by
 cases r with
 |ok a S'=>exact λμ2 H2 b x s r=>⟨μ2,S',a,x,s,r,WantG.ext x (show WantG K mg E Rel' μ H Q (f a S')from w)⟩
 |err y S'=>exact w
 |fail=>exact w
theorem WantG.mono{Rel:La→Hp→α→β→Prop}{Q Q':β→Hp→Prop}{r:Res α}(w:WantG K mg E Rel μ H Q r)(h:∀b H',Q b H'→Q' b H'):WantG K mg E Rel μ H Q' r:=by
 cases r with
 |ok a S'=>exact λμ2 H2 b x s r=>h b H2 (w μ2 H2 b x s r)
 |err y S'=>exact w
 |fail=>exact w
def EnvR(K:Fg)(mg:GS)(μ:La)(H:Hp)(ρ:Rho)(σ:L2.St):Prop:=
 ρ.length=σ.length∧∀(i:Nat) (d:D),ρ[i]?=some (some d)→∃v,σ[i]?=some (some v)∧Rep K mg μ H d v
theorem EnvR.mono(x:Ext μ H μ' H')(h:EnvR K mg μ H ρ σ):EnvR K mg μ' H' ρ σ:=
 ⟨h.1,λi d e=>let⟨v,a,b⟩:=h.2 i d e;⟨v,a,Rep.mono x _ _ b⟩⟩
theorem EnvR.set{i:Nat}(h:EnvR K mg μ H ρ σ)(r:Rep K mg μ H d v):EnvR K mg μ H (ρ.set i (some d)) (σ.set i (some v)):=by
 refine⟨by simp[h.1],λj e he=>?_⟩;by_cases hj:j=i
 ·subst hj;have hl:j<ρ.length:=by have:=(Ze.mp he).1;simpa using this
  rw[ZM hl]at he;cases he;exact⟨v,ZM (by rw[←h.1];exact hl),r⟩
 ·rw[List.getElem?_set_ne (Ne.symm hj)]at he⊢;exact h.2 j e he
end
section
variable (K:Fg)(mg:Mg)(E:XK)(Φ:FT)(Γ:Str→Option D)
def tE(c:CE):TE:=λσ H Q=>∃F μ ρ S,SOk K ⟨mg,F⟩ μ S H∧EnvR K ⟨mg,F⟩ μ H ρ σ∧WantG K ⟨mg,F⟩ E (Rep K ⟨mg,F⟩) μ H Q (den Φ Γ c ρ S)
def tT(c:CE):TT:=λσ H Q=>∃F μ ρ S,SOk K ⟨mg,F⟩ μ S H∧EnvR K ⟨mg,F⟩ μ H ρ σ∧WantG K ⟨mg,F⟩ E (λ_ _ a b=>a=b) μ H Q (denT Φ Γ c ρ S)
def tL(cs:List CE):TA:=λσ H Q=>∃F μ ρ S,SOk K ⟨mg,F⟩ μ S H∧EnvR K ⟨mg,F⟩ μ H ρ σ∧WantG K ⟨mg,F⟩ E (RepL K ⟨mg,F⟩) μ H Q (denL Φ Γ cs ρ S)
end
theorem weakE{t t':TE}(h:PE X e t)(w:∀σ H Q,t' σ H Q→t σ H Q):PE X e t':=λpq s σ H Q I q=>h pq s σ H Q I (w σ H Q q)
theorem weakT{t t':TT}(h:PT X e t)(w:∀σ H Q,t' σ H Q→t σ H Q):PT X e t':=λpq s σ H Q I q=>h pq s σ H Q I (w σ H Q q)
theorem weakA{e:Lx}{t t':TA}(h:PA X e t)(w:∀σ H Q,t' σ H Q→t σ H Q):PA X e t':=λpos pq s σ H Q I q=>h pos pq s σ H Q I (w σ H Q q)
def visB(sc:List (Str×NameKind))(x:Str):Bool:=match sc.lookup x with
 |some .local=>true|some .cell=>true|some .free=>true
 |_=>false
def gloB(sc:List (Str×NameKind))(x:Str):Bool:=sc.lookup x==some .globalImplicit&& !(x==("__debug__":Str))&& !(x==("__name__":Str))
def a2j'(x:Str):Bool:= !(x==("__debug__":Str))&& !(x==("__classdict__":Str))
def a0w':Expr→Bool
 | .Starred _ _=>false
 |_=>true
def litIs:D→Const→Bool
 | .non,.none=>true
 | .bl b,.bool c=>b==c
 | .int i,.int j=>i==j
 | .str x,.str y=>x==y
 |_,_=>false
def a1Z':Blt→Str
 | .len=>"len"| .tuple=>"tuple"| .list _=>"list"| .int=>"int"| .min=>"min"| .max=>"max"| .isinst=>"isinstance"| .all=>"all"| .any=>"any"| .sum=>"sum"| .repr=>"repr"| .abs=>"abs"| .sorted _ _=>"sorted"
def bltIs:Blt→Value
 | .len=>.builtin "len"| .tuple=>.type "tuple"| .list _=>.type "list"| .int=>.type "int"| .min=>.builtin "min"| .max=>.builtin "max"| .isinst=>.builtin "isinstance"| .all=>.builtin "all"| .any=>.builtin "any"| .sum=>.builtin "sum"| .repr=>.builtin "repr"| .abs=>.builtin "abs"| .sorted _ _=>.builtin "sorted"
theorem a8z'(b:Blt):bootBuiltins (a1Z' b)=some (bltIs b):=by
 cases b with
 |list box=>show bootBuiltins (Str.ofString "list")=some (.type "list");decide+kernel
 |sorted box t=>show bootBuiltins (Str.ofString "sorted")=some (.builtin "sorted");decide+kernel
 |_=>decide+kernel
def a2s':List String:=["int","bool","str","tuple","list","dict"]
theorem ty_boot{n:String}(h:a2s'.contains n=true):bootBuiltins (Str.ofString n)=some (.type n):=by simp[a2s']at h;rcases h with rfl|rfl|rfl|rfl|rfl|rfl<;>decide+kernel
abbrev Sc:=List (Str×NameKind)
def relB(names sc:Sc):Sc:=names.map λ(n,k)=>if(k== .free&&sc.lookup n==some .cell)then(n,.cell)else(n,k)
def ownB(names:Sc):Str→Bool:=λx=>names.lookup x==some .cell
def scB(scope:Scope)(sc:Sc):Bool:=scope.kind== .function&&scope.names.all λ(n,k)=>(k !=.cell||scope.names.lookup n==some .cell)&&(k !=.local||scope.names.lookup n==some .local)&&(k !=.free||(sc.lookup n==some .cell||sc.lookup n==some .free))
def frB(names:Sc)(N' N:Ls)(fr:List (Option Nat)):Bool:=fr.length==N'.length&&(List.range N'.length).all λi=>match fr[i]? with
 |some (some j)=>(match N'[i]? with
  |some x=>names.lookup x==some .free&&N[j]?==some x
  |none=>false)
 |_=>true
def a4H':Ls→Bool
 | []=>true
 |x::r=> !r.contains x&&a4H' r
def a0X':Expr→Bool
 | .Slice _ _ _ _=>false
 |_=>true
theorem a5F'{b:Expr}(h:a0X' b=true):a7B' b:=by intro o i;cases b<;>first|rfl|cases h
def a4i':Mth→Str
 | .append=>"append"| .extend=>"extend"| .pop=>"pop"| .count=>"count"| .insert=>"insert"
def isNm:Expr→Bool
 | .Name _ _=>true
 |_=>false
def isTup:Expr→Bool
 | .Tuple _ _ _=>true
 |_=>false
def a6T':Expr→Bool
 | .Set _ _ _=>false
 |_=>true
def dE:Expr:=.Name "" ⟨0,0,0,0⟩
def dG:Comprehension:=⟨dE,dE,[],0⟩
structure Nd where
 e0:Expr:=dE
 e1:Expr:=dE
 e2:Expr:=dE
 es:Lx:=[]
 lo:Option Expr:=none
 hi:Option Expr:=none
 gs:List Comprehension:=[]
 sc:Scope:=default
 k:Nat:=0
 pos:Pos:=⟨0,0,0,0⟩
def vw:Expr→Nd
 | .BoolOp _ vs p=>{es:=vs,pos:=p}
 | .BinOp l _ r p=>{e0:=l,e1:=r,pos:=p}
 | .UnaryOp _ x p=>{e0:=x,pos:=p}
 | .IfExp t x y p=>{e0:=t,e1:=x,e2:=y,pos:=p}
 | .ListComp el gs sc p=>{e0:=el,gs:=gs,sc:=sc,pos:=p}
 | .Compare l _ rs p=>{e0:=l,es:=rs,pos:=p}
 | .Call f xs ks p=>{e0:=f,es:=xs,e1:=(ks.headD ⟨none,dE,⟨0,0,0,0⟩⟩).value,e2:=.Name "" (ks.headD ⟨none,dE,⟨0,0,0,0⟩⟩).pos,pos:=p}
 | .Constant _ k p=>{k:=k,pos:=p}
 | .Attribute v _ p=>{e0:=v,pos:=p}
 | .Subscript v s p=>{e0:=v,e1:=s,pos:=p}
 | .Name _ p=>{pos:=p}
 | .List es p=>{es:=es,pos:=p}
 | .Tuple es k p=>{es:=es,k:=k,pos:=p}
 | .Slice l u s p=>{lo:=l,hi:=u,e2:=s.getD dE,pos:=p}
 | .Dict _ _ p=>{pos:=p}
 | .JoinedStr vs p=>{es:=vs,pos:=p}
 | .FormattedValue v _ _ p=>{e0:=v,pos:=p}
 |_=>{}
def a7F':D→Const
 | .bl b=>.bool b
 | .int i=>.int i
 | .str x=>.str x
 |_=>.none
def a6U':CT→Bool
 | .tup _=>true
 |_=>false
def a8A':CE→Bool
 | .band _ _=>true
 |_=>false
def isBor:CE→Bool
 | .bor _ _=>true
 |_=>false
def isCmp:CE→Bool
 | .comp .. =>true
 |_=>false
mutual
def emT:CT→Ls→Expr→Expr
 | .var i,N,e=>.Name (N.getD i "") (vw e).pos
 | .tup ts,N,e=>.Tuple (emTL ts N (vw e).es) (vw e).k (vw e).pos
def emTL:List CT→Ls→Lx→Lx
 | [],_,_=>[]
 |t::ts,N,es=>emT t N (es.headD dE)::emTL ts N es.tail
end
mutual
def sdT(cell:Str→Bool)(N:Ls)(sc:Sc):CT→Bool
 | .var i=>N[i]?==some (N.getD i "")&&(sc.lookup (N.getD i "")==some .local||(cell (N.getD i "")&&sc.lookup (N.getD i "")==some .cell))
 | .tup ts=>sdTL cell N sc ts
def sdTL(cell:Str→Bool)(N:Ls)(sc:Sc):List CT→Bool
 | []=>true
 |t::ts=>sdT cell N sc t&&sdTL cell N sc ts
end
def emP(p:FP)(N:Ls)(e:Expr):Expr:=match p with
 | .s x=>.Constant (.str x) (vw e).k (vw e).pos
 | .v i=>.FormattedValue (.Name (N.getD i "") (vw (vw e).e0).pos) (-1) none (vw e).pos
 | .g y=>.FormattedValue (.Name y (vw (vw e).e0).pos) (-1) none (vw e).pos
def emF:List FP→Ls→Lx→Lx
 | [],_,_=>[]
 |p::ps,N,es=>emP p N (es.headD dE)::emF ps N es.tail
def emNs:Ls→Lx→Lx
 | [],_=>[]
 |f::fs,es=>.Name f (vw (es.headD dE)).pos::emNs fs es.tail
def sdP(N:Ls)(sc:List (Str×NameKind)):FP→Bool
 | .s _=>true
 | .v i=>N[i]?==some (N.getD i "")&&(visB sc (N.getD i "")&&a2j' (N.getD i ""))
 | .g y=>gloB sc y
mutual
def emE:CE→Ls→Expr→Expr
 | .var i,N,e=>.Name (N.getD i "") (vw e).pos
 | .dct,_,e=>.Dict [] [] (vw e).pos
 | .rv0 _ _ _,_,e=>e
 | .odd _ _ _,_,e=>e
 | .rev _ _,_,e=>e
 | .lit d,_,e=>.Constant (a7F' d) (vw e).k (vw e).pos
 | .glob y,_,e=>.Name y (vw e).pos
 | .ty n,_,e=>.Name (Str.ofString n) (vw e).pos
 | .bin op a b,N,e=>.BinOp (emE a N (vw e).e0) op (emE b N (vw e).e1) (vw e).pos
 | .binB _ _,_,e=>e
 | .neg a,N,e=>.UnaryOp .USub (emE a N (vw e).e0) (vw e).pos
 | .cmp op a b,N,e=>.Compare (emE a N (vw e).e0) [op] [emE b N ((vw e).es.headD dE)] (vw e).pos
 | .chain op op' a b c,N,e=>.Compare (emE a N (vw e).e0) [op,op'] [emE b N ((vw e).es.headD dE),emE c N ((vw e).es.tail.headD dE)] (vw e).pos
 | .band a b,N,e=>.BoolOp .And (emE a N ((vw e).es.headD dE)::cond ((vw e).es.length==2) [emE b N ((vw e).es.tail.headD dE)] (vw (emE b N (.BoolOp .And (vw e).es.tail (vw e).pos))).es) (vw e).pos
 | .bor a b,N,e=>.BoolOp .Or (emE a N ((vw e).es.headD dE)::cond ((vw e).es.length==2) [emE b N ((vw e).es.tail.headD dE)] (vw (emE b N (.BoolOp .Or (vw e).es.tail (vw e).pos))).es) (vw e).pos
 | .bnot a,N,e=>.UnaryOp .Not (emE a N (vw e).e0) (vw e).pos
 | .ite c a b,N,e=>.IfExp (emE c N (vw e).e0) (emE a N (vw e).e1) (emE b N (vw e).e2) (vw e).pos
 | .tup es,N,e=>.Tuple (emL es N (vw e).es) (vw e).k (vw e).pos
 | .lst _ es,N,e=>.List (emL es N (vw e).es) (vw e).pos
 | .idx a b,N,e=>.Subscript (emE a N (vw e).e0) (emE b N (vw e).e1) (vw e).pos
 | .sl a lo hi,N,e=>.Subscript (emE a N (vw e).e0) (.Slice (emL lo N (vw (vw e).e1).lo.toList).head? (emL hi N (vw (vw e).e1).hi.toList).head? none (vw (vw e).e1).pos) (vw e).pos
 | .call f es,N,e=>.Call (.Name f (vw (vw e).e0).pos) (emL es N (vw e).es) [] (vw e).pos
 | .blt b es,N,e=>.Call (.Name (a1Z' b) (vw (vw e).e0).pos) (emL es N (vw e).es) [] (vw e).pos
 | .fst ps,N,e=>.JoinedStr (emF ps N (vw e).es) (vw e).pos
 | .sel fs i es,N,e=>.Call (.Subscript (.List (emNs fs (vw (vw (vw e).e0).e0).es) (vw (vw (vw e).e0).e0).pos) (emE i N (vw (vw e).e0).e1) (vw (vw e).e0).pos) (emL es N (vw e).es) [] (vw e).pos
 | .tix o es,N,e=>.Call (.Attribute (emE o N (vw (vw e).e0).e0) "index" (vw (vw e).e0).pos) (emL es N (vw e).es) [] (vw e).pos
 | .meth m o es,N,e=>.Call (.Attribute (emE o N (vw (vw e).e0).e0) (a4i' m) (vw (vw e).e0).pos) (emL es N (vw e).es) [] (vw e).pos
 | .lenset _,_,e=>e
 | .sset _,_,e=>e
 | .sumL _,_,e=>e
 | .rng _ _ _,_,e=>e
 | .comp _ N' _ tg it ifs body,N,e=>.ListComp (emBe body N' (vw e).e0) (⟨emT tg N' ((vw e).gs.headD dG).target,emI it N ((vw e).gs.headD dG).iter,emL ifs N' ((vw e).gs.headD dG).ifs,0⟩::emBg body N' (vw e).gs.tail) (vw e).sc (vw e).pos
 | .emit _,_,e=>e
 | .inner _ _ _ _,_,e=>e
 | .seq _,_,e=>e
 | .range _,_,e=>e
 | .zip _,_,e=>e
 | .down _,_,e=>e
 | .enum _,_,e=>e
 | .revl _,_,e=>e
 | .by2 _,_,e=>e
def emBe:CE→Ls→Expr→Expr
 | .emit a,N,e=>emE a N e
 | .inner _ _ _ body,N,e=>emBe body N e
 |_,_,e=>e
def emBg:CE→Ls→List Comprehension→List Comprehension
 | .inner tg it ifs body,N,gs=>⟨emT tg N (gs.headD dG).target,emI it N (gs.headD dG).iter,emL ifs N (gs.headD dG).ifs,0⟩::emBg body N gs.tail
 |_,_,_=>[]
def emL:List CE→Ls→Lx→Lx
 | [],_,_=>[]
 |c::cs,N,es=>emE c N (es.headD dE)::emL cs N es.tail
def emI:CE→Ls→Expr→Expr
 | .seq c,N,e=>emE c N e
 | .range es,N,e=>.Call (.Name "range" (vw (vw e).e0).pos) (emL es N (vw e).es) [] (vw e).pos
 | .enum _,_,e=>e
 | .by2 _,_,e=>e
 | .revl _,_,e=>e
 | .down _,_,e=>e
 | .zip es,N,e=>.Call (.Name "zip" (vw (vw e).e0).pos) (emL es N (vw e).es) [] (vw e).pos
 |_,_,e=>e
end
mutual
def sdE:CE→Ls→Sc→Expr→Bool
 | .var i,N,sc,_=>N[i]?==some (N.getD i "")&&(visB sc (N.getD i "")&&a2j' (N.getD i ""))
 | .dct,_,_,_=>true
 | .rv0 _ _ _,_,_,_=>false
 | .odd _ _ _,_,_,_=>false
 | .rev _ _,_,_,_=>false
 | .lit d,_,_,_=>litIs d (a7F' d)
 | .glob y,_,sc,_=>gloB sc y
 | .ty n,_,sc,_=>gloB sc (Str.ofString n)&&a2s'.contains n
 | .bin _ a b,N,sc,e=>sdE a N sc (vw e).e0&&sdE b N sc (vw e).e1
 | .binB _ _,_,_,_=>false
 | .neg a,N,sc,e=>sdE a N sc (vw e).e0
 | .cmp op a b,N,sc,e=>sdE a N sc (vw e).e0&&(sdE b N sc ((vw e).es.headD dE)&& !behindInMarks op (emE b N ((vw e).es.headD dE)))
 | .chain _ op' a b c,N,sc,e=>sdE a N sc (vw e).e0&&(sdE b N sc ((vw e).es.headD dE)&&(sdE c N sc ((vw e).es.tail.headD dE)&& !behindInMarks op' (emE c N ((vw e).es.tail.headD dE))))
 | .band a b,N,sc,e=>sdE a N sc ((vw e).es.headD dE)&&cond ((vw e).es.length==2) (sdE b N sc ((vw e).es.tail.headD dE)) (a8A' b&&sdE b N sc (.BoolOp .And (vw e).es.tail (vw e).pos))
 | .bor a b,N,sc,e=>sdE a N sc ((vw e).es.headD dE)&&cond ((vw e).es.length==2) (sdE b N sc ((vw e).es.tail.headD dE)) (isBor b&&sdE b N sc (.BoolOp .Or (vw e).es.tail (vw e).pos))
 | .bnot a,N,sc,e=>sdE a N sc (vw e).e0
 | .ite c a b,N,sc,e=>sdE c N sc (vw e).e0&&(sdE a N sc (vw e).e1&&sdE b N sc (vw e).e2)
 | .tup es,N,sc,e=>sdL es N sc (vw e).es&&decide (es.length<1000)
 | .lst _ es,N,sc,e=>sdL es N sc (vw e).es&&decide (es.length<1000)
 | .idx a b,N,sc,e=>sdE a N sc (vw e).e0&&(sdE b N sc (vw e).e1&&a0X' (emE b N (vw e).e1))
 | .sl a lo hi,N,sc,e=>sdE a N sc (vw e).e0&&(sdL lo N sc (vw (vw e).e1).lo.toList&&(sdL hi N sc (vw (vw e).e1).hi.toList&&(decide (lo.length<2)&&decide (hi.length<2))))
 | .call f es,N,sc,e=>gloB sc f&&(sdL es N sc (vw e).es&& !es.isEmpty)
 | .blt b es,N,sc,e=>gloB sc (a1Z' b)&&(sdL es N sc (vw e).es&&(!es.isEmpty&&bltB b))
 | .fst ps,N,sc,_=>decide (2≤ps.length)&&ps.all (sdP N sc)
 | .sel fs i es,N,sc,e=>(fs.all λf=>gloB sc f)&&(sdE i N sc (vw (vw e).e0).e1&&(a0X' (emE i N (vw (vw e).e0).e1)&&(sdL es N sc (vw e).es&& !es.isEmpty)))
 | .tix o es,N,sc,e=>isNm (emE o N (vw (vw e).e0).e0)&&((vw (vw e).e0).pos.endLine==(vw e).pos.line&&(sdE o N sc (vw (vw e).e0).e0&&(sdL es N sc (vw e).es&&decide (es.length=1))))
 | .meth m o es,N,sc,e=>isNm (emE o N (vw (vw e).e0).e0)&&((vw (vw e).e0).pos.endLine==(vw e).pos.line&&(sdE o N sc (vw (vw e).e0).e0&&(sdL es N sc (vw e).es&&decide (es.length<20))))
 | .lenset _,_,_,_=>false
 | .sset _,_,_,_=>false
 | .sumL _,_,_,_=>false
 | .rng _ _ _,_,_,_=>false
 | .comp _ N' fr tg it ifs body,N,sc,e=>scB (vw e).sc sc&&(frB (vw e).sc.names N' N fr&&(a4H' N'&&(sdT (ownB (vw e).sc.names) N' (relB (vw e).sc.names sc) tg&&(sdI it N sc tg ((vw e).gs.headD dG).iter&&(a6T' (emI it N ((vw e).gs.headD dG).iter)&&(sdL ifs N' (relB (vw e).sc.names sc) ((vw e).gs.headD dG).ifs&&sdB body (ownB (vw e).sc.names) N' (relB (vw e).sc.names sc) (vw e).gs.tail (vw e).e0))))))
 | .emit _,_,_,_=>false
 | .inner _ _ _ _,_,_,_=>false
 | .seq _,_,_,_=>false
 | .range _,_,_,_=>false
 | .zip _,_,_,_=>false
 | .down _,_,_,_=>false
 | .enum _,_,_,_=>false
 | .revl _,_,_,_=>false
 | .by2 _,_,_,_=>false
def sdB:CE→(Str→Bool)→Ls→Sc→List Comprehension→Expr→Bool
 | .emit a,_,N,sc,_,e=>sdE a N sc e
 | .inner tg it ifs body,cell,N,sc,gs,e=>sdT cell N sc tg&&(sdI it N sc tg (gs.headD dG).iter&&(a6T' (emI it N (gs.headD dG).iter)&&(sdL ifs N sc (gs.headD dG).ifs&&sdB body cell N sc gs.tail e)))
 |_,_,_,_,_,_=>false
def sdL:List CE→Ls→Sc→Lx→Bool
 | [],_,_,_=>true
 |c::cs,N,sc,es=>sdE c N sc (es.headD dE)&&(a0w' (emE c N (es.headD dE))&&sdL cs N sc es.tail)
def sdI:CE→Ls→Sc→CT→Expr→Bool
 | .seq c,N,sc,_,e=>sdE c N sc e
 | .range es,N,sc,_,e=>gloB sc "range"&&(sdL es N sc (vw e).es&&(es.length==1||es.length==2))
 | .enum _,_,_,_,_=>false
 | .by2 _,_,_,_,_=>false
 | .revl _,_,_,_,_=>false
 | .down _,_,_,_,_=>false
 | .zip es,N,sc,t,e=>gloB sc "zip"&&(sdL es N sc (vw e).es&&(es.length==2&&a6U' t))
 |_,_,_,_,_=>false
end
theorem andB{a b:Bool}(h:(a&&b)=true):a=true∧b=true:=Bool.and_eq_true_iff.mp h
theorem decB{p:Prop} [Decidable p] (h:decide p=true):p:=of_decide_eq_true h
theorem notB{a:Bool}(h:(!a)=true):a=false:=by cases a;rfl;cases h
end Py
variable {sc:Py.Sc}
namespace Py
def spOf(K:Fg)(mg:Mg)(n:Nat)(φ:List D→Store→Res D):Sp:=λvs H Q E=>vs.length=n∧∃F μ S ds,SOk K ⟨mg,F⟩ μ S H∧RepL K ⟨mg,F⟩ μ H ds vs∧WantG K ⟨mg,F⟩ E (Rep K ⟨mg,F⟩) μ H Q (φ ds S)
structure FOk (P:Program)(w:World)(K:Fg)(mg:Mg)(base:Heap)(CX:CXT)(k:Nat)(f:Str)(φ:List D→Store→Res D):Prop where
 ex:∃fa fd ps,mg f=some (.ref fa)∧PySem.W.keepIn K (.ref fa)=true∧Binds K fd ps []∧FnOk P w K mg base CX k fa fd ps (spOf K mg ps.length φ)∧∀ds S,φ ds S≠.fail→ds.length=ps.length
def a0Y':Ls:=["len","tuple","list","int","min","max","isinstance","all","any","sorted","bool","str","dict","range","zip","set","sum","reversed","repr","abs","enumerate"]
structure MOk (P:Program)(w:World)(K:Fg)(mg:Mg)(base:Heap)(CX:CXT)(Φ:FT)(Γ:Str→Option D)(k:Nat):Prop where
 fns:∀f φ,Φ f=some φ→FOk P w K mg base CX k f φ
 gl:∀x d,Γ x=some d→∃v u,mg x=some u∧RelV v u∧∀F μ H,Rep K ⟨mg,F⟩ μ H d v
 bl:∀x∈a0Y',mg x=none
structure XOk (X:Cx)(cell:Str→Bool)(N:Ls)(sc:Sc)(CX:CXT)(E:XK)(Φ:FT)(Γ:Str→Option D)(k:Nat):Prop where
 n:X.N=N
 nd:N.Nodup
 sc:X.env.scope.names=sc
 kd:X.env.scope.kind=.function
 calm:X.calm=true
 room:Room k X.A
 fn:∀x,cell x=true→X.fn x=true
 mod:MOk X.prog X.w X.K X.mg X.base CX Φ Γ k
 pass:a5i' CX X E
 cx0:∀outer H s e s',CX outer H s E0 e s'→False
section
variable {E:XK}{l r:Expr}{pos:Pos}{a b c:CE}
theorem s_bin{op:Operator}(ha:PE X l (tE X.K X.mg E Φ Γ a))(hb:PE X r (tE X.K X.mg E Φ Γ b)):PE X (.BinOp l op r pos) (tE X.K X.mg E Φ Γ (.bin op a b)):=
 weakE (pe_op (op_D op) ha hb) λσ H Q zz=>ex43 zz λF μ ρ S sk en w=>
  ⟨F,μ,ρ,S,sk,en,(WantG.bind w).mono λv1 H1 zz=>ex34 zz λμ1 S1 d1 x1 s1 r1 w1=>⟨F,μ1,ρ,S1,s1,en.mono x1,(WantG.bind w1).mono λv2 H2 zz=>ex34 zz λμ2 S2 d2 x2 s2 r2 w2=>⟨F,μ2,S2,d1,d2,s2,Rep.mono x2 _ _ r1,r2,a0U' w2⟩⟩⟩
theorem s_cmp{op:CmpOp}(hu:X.A.units+64<cLine)(ha:PE X l (tE X.K X.mg E Φ Γ a))(hb:PE X r (tE X.K X.mg E Φ Γ b))(hm:behindInMarks op r=false):PE X (.Compare l [op] [r] pos) (tE X.K X.mg E Φ Γ (.cmp op a b)):=
 weakE (pe_cmpR (cmp_D op hu) ha hb hm) λσ H Q zz=>ex43 zz λF μ ρ S sk en w=>
  ⟨F,μ,ρ,S,sk,en,(WantG.bind w).mono λv1 H1 zz=>ex34 zz λμ1 S1 d1 x1 s1 r1 w1=>⟨F,μ1,ρ,S1,s1,en.mono x1,(WantG.bind w1).mono λv2 H2 zz=>ex34 zz λμ2 S2 d2 x2 s2 r2 w2=>⟨F,μ2,S2,d1,d2,s2,Rep.mono x2 _ _ r1,r2,a0U' w2⟩⟩⟩
theorem a2t'{mg:GS}{E:XK}{Rel:La→Hp→α→β→Prop}{Q:β→Hp→Prop}{f:Bool→Res α}
  (w:WantG K mg E Rel μ H Q (onBl d f)) (r:Rep K mg μ H d v):∃k,v=.bl k∧d=.bl k∧WantG K mg E Rel μ H Q (f k):=by
 cases d with
 |bl k=>exact⟨k,a2W' r,rfl,w⟩
 |_=>exact w.elim
theorem t_cmp{op:CmpOp}(hu:X.A.units+64<cLine)(ha:PE X l (tE X.K X.mg E Φ Γ a))(hb:PE X r (tE X.K X.mg E Φ Γ b))(hm:behindInMarks op r=false):PT X (.Compare l [op] [r] pos) (tT X.K X.mg E Φ Γ (.cmp op a b)):=
 weakT (a7x' (cmp_D op hu) ha hb hm) λσ H Q zz=>ex43 zz λF μ ρ S sk en w=>
  ⟨F,μ,ρ,S,sk,en,(WantG.bind w).mono λv1 H1 zz=>ex34 zz λμ1 S1 d1 x1 s1 r1 w1=>⟨F,μ1,ρ,S1,s1,en.mono x1,(WantG.bind w1).mono λv2 H2 zz=>ex34 zz λμ2 S2 d2 x2 s2 r2 w2=>
   ⟨F,μ2,S2,d1,d2,s2,Rep.mono x2 _ _ r1,r2,a0U' ((WantG.bind w2).mono λv3 H3 zz=>ex34 zz λμ3 S3 d3 x3 s3 r3 w3=>by obtain⟨k,rfl,rfl,w4⟩:=a2t' w3 r3;exact⟨k,rfl,w4 μ3 H3 k .refl s3 rfl⟩)⟩⟩⟩
theorem s_chain{op:CmpOp}(hu:X.A.units+64<cLine)(ha:PE X l (tE X.K X.mg E Φ Γ a))(hb:PE X r (tE X.K X.mg E Φ Γ b))(hc:PE X r' (tE X.K X.mg E Φ Γ c))(hm:behindInMarks op' r'=false):PE X (.Compare l [op,op'] [r,r'] pos) (tE X.K X.mg E Φ Γ (.chain op op' a b c)):=
 weakE (a8e' (cmp_D op hu) (cmp_D op' hu) ha hb hc hm) λσ H Q zz=>ex43 zz λF μ ρ S sk en w=>
  ⟨F,μ,ρ,S,sk,en,(WantG.bind w).mono λv1 H1 zz=>ex34 zz λμ1 S1 d1 x1 s1 r1 w1=>⟨F,μ1,ρ,S1,s1,en.mono x1,(WantG.bind w1).mono λv2 H2 zz=>ex34 zz λμ2 S2 d2 x2 s2 r2 w2=>
   ⟨F,μ2,S2,d1,d2,s2,Rep.mono x2 _ _ r1,r2,a0U' ((WantG.bind w2).mono λv3 H3 zz=>ex34 zz λμ3 S3 d3 x3 s3 r3 w3=>by
    obtain⟨k,rfl,rfl,w4⟩:=a2t' w3 r3;refine⟨k,rfl,?_⟩;cases k with
    |true=>rw[if_pos rfl]at w4⊢;exact⟨F,μ3,ρ,S3,s3,(en.mono x1).mono (x2.trans x3),(WantG.bind w4).mono λv4 H4 zz=>ex34 zz λμ4 S4 d4 x4 s4 r4 w5=>⟨F,μ4,S4,d2,d4,s4,Rep.mono (x3.trans x4) _ _ r2,r4,a0U' w5⟩⟩
    |false=>rw[if_neg (by decide)]at w4⊢;exact w4 μ3 H3 _ .refl s3 repBl)⟩⟩⟩
theorem t_chain{op:CmpOp}(hu:X.A.units+64<cLine)(ha:PE X l (tE X.K X.mg E Φ Γ a))(hb:PE X r (tE X.K X.mg E Φ Γ b))(hc:PE X r' (tE X.K X.mg E Φ Γ c))(hm:behindInMarks op' r'=false):PT X (.Compare l [op,op'] [r,r'] pos) (tT X.K X.mg E Φ Γ (.chain op op' a b c)):=
 weakT (a8f' (cmp_D op hu) (cmp_D op' hu) ha hb hc hm) λσ H Q zz=>ex43 zz λF μ ρ S sk en w=>
  ⟨F,μ,ρ,S,sk,en,(WantG.bind w).mono λv1 H1 zz=>ex34 zz λμ1 S1 d1 x1 s1 r1 w1=>⟨F,μ1,ρ,S1,s1,en.mono x1,(WantG.bind w1).mono λv2 H2 zz=>ex34 zz λμ2 S2 d2 x2 s2 r2 w2=>
   ⟨F,μ2,S2,d1,d2,s2,Rep.mono x2 _ _ r1,r2,a0U' ((WantG.bind w2).mono λv3 H3 zz=>ex34 zz λμ3 S3 d3 x3 s3 r3 w3=>by
    obtain⟨k,rfl,rfl,w4⟩:=a2t' w3 r3;refine⟨k,rfl,?_⟩;cases k with
    |true=>rw[if_pos rfl]at w4⊢;exact⟨F,μ3,ρ,S3,s3,(en.mono x1).mono (x2.trans x3),(WantG.bind w4).mono λv4 H4 zz=>ex34 zz λμ4 S4 d4 x4 s4 r4 w5=>⟨F,μ4,S4,d2,d4,s4,Rep.mono (x3.trans x4) _ _ r2,r4,a0U' ((WantG.bind w5).mono λv5 H5 zz=>ex34 zz λμ5 S5 d5 x5 s5 r5 w6=>by obtain⟨k,rfl,rfl,w7⟩:=a2t' w6 r5;exact⟨k,rfl,w7 μ5 H5 k .refl s5 rfl⟩)⟩⟩
    |false=>rw[if_neg (by decide)]at w4⊢;exact⟨false,rfl,w4 μ3 H3 _ .refl s3 rfl⟩)⟩⟩⟩
theorem s_and(ha:PE X l (tE X.K X.mg E Φ Γ a))(hb:PE X (.BoolOp .And (r::rest) pos) (tE X.K X.mg E Φ Γ b)):PE X (.BoolOp .And (l::r::rest) pos) (tE X.K X.mg E Φ Γ (.band a b)):=
 weakE (pe_and ha hb) λσ H Q zz=>ex43 zz λF μ ρ S sk en w=>
  ⟨F,μ,ρ,S,sk,en,(WantG.bind w).mono λv1 H1 zz=>ex34 zz λμ1 S1 d1 x1 s1 r1 w1=>by
   obtain⟨k,rfl,rfl,w2⟩:=a2t' w1 r1;refine⟨k,rfl,?_⟩;cases k with
   |true=>rw[if_pos rfl]at w2⊢;exact⟨F,μ1,ρ,S1,s1,en.mono x1,w2⟩
   |false=>rw[if_neg (by decide)]at w2⊢;exact w2 μ1 H1 _ .refl s1 repBl⟩
theorem s_or(ha:PE X l (tE X.K X.mg E Φ Γ a))(hb:PE X (.BoolOp .Or (r::rest) pos) (tE X.K X.mg E Φ Γ b)):PE X (.BoolOp .Or (l::r::rest) pos) (tE X.K X.mg E Φ Γ (.bor a b)):=
 weakE (pe_or ha hb) λσ H Q zz=>ex43 zz λF μ ρ S sk en w=>
  ⟨F,μ,ρ,S,sk,en,(WantG.bind w).mono λv1 H1 zz=>ex34 zz λμ1 S1 d1 x1 s1 r1 w1=>by
   obtain⟨k,rfl,rfl,w2⟩:=a2t' w1 r1;refine⟨k,rfl,?_⟩;cases k with
   |true=>rw[if_pos rfl]at w2⊢;exact w2 μ1 H1 _ .refl s1 repBl
   |false=>rw[if_neg (by decide)]at w2⊢;exact⟨F,μ1,ρ,S1,s1,en.mono x1,w2⟩⟩
theorem pe_notT(ha:PE X l ta):PE X (.UnaryOp .Not l pos) (λσ H Q=>ta σ H λx H'=>∃k,TruV X.K x H' k∧Q (.bl (!k)) H'):=by intro pq s σ H Q I h;refine UnaryOp_ (thn (ha pq s σ H _ I h) λv s1 ⟨x,H1,I1,r1,k,t1,q1⟩=>?_);refine not_of (thn (tru_ok pq s1 σ H1 x v (λk H'=>Q (.bl (!k)) H') I1 r1 ⟨k,t1,q1⟩) λk' s2 ⟨H2,I2,q2⟩=>?_);exact⟨.bl (!k'),H2,I2,rfl,q2⟩
theorem a5G'{mg:GS}{E:XK}{Rel:La→Hp→α→β→Prop}{Q:β→Hp→Prop}{f:Bool→Res α}
  (w:WantG K mg E Rel μ H Q (match truD S d with|some k=>f k|none=>.fail)):∃k,truD S d=some k∧WantG K mg E Rel μ H Q (f k):=by
 cases e:truD S d with
 |none=>rw[e]at w;exact w.elim
 |some k=>rw[e]at w;exact⟨k,rfl,w⟩
theorem s_not(ha:PE X l (tE X.K X.mg E Φ Γ a)):PE X (.UnaryOp .Not l pos) (tE X.K X.mg E Φ Γ (.bnot a)):=
 weakE (pe_notT ha) λσ H Q zz=>ex43 zz λF μ ρ S sk en w=>⟨F,μ,ρ,S,sk,en,(WantG.bind w).mono λv1 H1 zz=>ex34 zz λμ1 S1 d1 x1 s1 r1 w1=>by obtain⟨k,e,w2⟩:=a5G' w1;exact⟨k,tru_D s1 r1 e,w2 μ1 H1 _ .refl s1 repBl⟩⟩
theorem s_neg(ha:PE X l (tE X.K X.mg E Φ Γ a)):PE X (.UnaryOp .USub l pos) (tE X.K X.mg E Φ Γ (.neg a)):=
 weakE (pe_un un_neg ha) λσ H Q zz=>ex43 zz λF μ ρ S sk en w=>⟨F,μ,ρ,S,sk,en,(WantG.bind w).mono λv1 H1 zz=>ex34 zz λμ1 S1 d1 x1 s1 r1 w1=>by
  cases d1 with
  |int i=>exact⟨i,a0a' r1,w1 μ1 H1 _ .refl s1 a0H'⟩
  |_=>exact w1.elim⟩
theorem t_and(ha:PT X l (tT X.K X.mg E Φ Γ a))(hb:PW X (.BoolOp .And (r::rest) pos) (tT X.K X.mg E Φ Γ b)):PW X (.BoolOp .And (l::r::rest) pos) (tT X.K X.mg E Φ Γ (.band a b)):=λwh pq s σ H Q I zz=>ex43 zz λF μ ρ S sk en w=>
 pw_and ha hb wh pq s σ H Q I ⟨F,μ,ρ,S,sk,en,(WantG.bind w).mono λk H1 zz=>ex34 zz λμ1 S1 k' x1 s1 e1 w1=>by
  subst e1;cases k' with
  |true=>rw[if_pos rfl]at w1⊢;exact⟨F,μ1,ρ,S1,s1,en.mono x1,w1⟩
  |false=>rw[if_neg (by decide)]at w1⊢;exact w1 μ1 H1 _ .refl s1 rfl⟩
theorem t_or(ha:PT X l (tT X.K X.mg E Φ Γ a))(hb:PW X (.BoolOp .Or (r::rest) pos) (tT X.K X.mg E Φ Γ b)):PW X (.BoolOp .Or (l::r::rest) pos) (tT X.K X.mg E Φ Γ (.bor a b)):=λwh pq s σ H Q I zz=>ex43 zz λF μ ρ S sk en w=>
 pw_or ha hb wh pq s σ H Q I ⟨F,μ,ρ,S,sk,en,(WantG.bind w).mono λk H1 zz=>ex34 zz λμ1 S1 k' x1 s1 e1 w1=>by
  subst e1;cases k' with
  |true=>rw[if_pos rfl]at w1⊢;exact w1 μ1 H1 _ .refl s1 rfl
  |false=>rw[if_neg (by decide)]at w1⊢;exact⟨F,μ1,ρ,S1,s1,en.mono x1,w1⟩⟩
theorem t_not(ha:PT X l (tT X.K X.mg E Φ Γ a)):PT X (.UnaryOp .Not l pos) (tT X.K X.mg E Φ Γ (.bnot a)):=
 weakT (pt_not ha) λσ H Q zz=>ex43 zz λF μ ρ S sk en w=>⟨F,μ,ρ,S,sk,en,(WantG.bind w).mono λk H1 zz=>ex34 zz λμ1 S1 k' x1 s1 e1 w1=>by subst e1;exact w1 μ1 H1 _ .refl s1 rfl⟩
theorem s_ite{t x y:Expr}(hc:PT X t (tT X.K X.mg E Φ Γ c))(ha:PE X x (tE X.K X.mg E Φ Γ a))(hb:PE X y (tE X.K X.mg E Φ Γ b)):PE X (.IfExp t x y pos) (tE X.K X.mg E Φ Γ (.ite c a b)):=
 weakE (a8a' hc ha hb) λσ H Q zz=>ex43 zz λF μ ρ S sk en w=>⟨F,μ,ρ,S,sk,en,(WantG.bind w).mono λk H1 zz=>ex34 zz λμ1 S1 k' x1 s1 e1 w1=>by
  subst e1;cases k' with
  |true=>rw[if_pos rfl]at w1⊢;exact⟨F,μ1,ρ,S1,s1,en.mono x1,w1⟩
  |false=>rw[if_neg (by decide)]at w1⊢;exact⟨F,μ1,ρ,S1,s1,en.mono x1,w1⟩⟩
theorem s_nil:PA X [] (tL X.K X.mg E Φ Γ []):=weakA a2S' λσ H Q zz=>ex43 zz λF μ ρ S sk en w=>w μ H [] .refl sk .nil
theorem a0j'(h:a0w' e=true):starEach (e::es) env=(false,eval e env)::starEach es env:=by cases e<;>first|rfl|cases h
theorem s_cons{cs:List CE}(hn:a0w' e=true)(ha:PE X e (tE X.K X.mg E Φ Γ a))(hr:PA X es (tL X.K X.mg E Φ Γ cs)):PA X (e::es) (tL X.K X.mg E Φ Γ (a::cs)):=
 weakA (a1n' ha hr (a0j' hn)) λσ H Q zz=>ex43 zz λF μ ρ S sk en w=>⟨F,μ,ρ,S,sk,en,(WantG.bind w).mono λv1 H1 zz=>ex34 zz λμ1 S1 d1 x1 s1 r1 w1=>
  ⟨F,μ1,ρ,S1,s1,en.mono x1,(WantG.bind w1).mono λvs H2 zz=>ex34 zz λμ2 S2 ds x2 s2 r2 w2=>w2 μ2 H2 _ .refl s2 (.cons (Rep.mono x2 _ _ r1) r2)⟩⟩
end
theorem a4j':∀{cs:List CE} {N:Ls} {es:Lx},(emL cs N es).length=cs.length
 | [],N,es=>rfl
 |c::cs,N,es=>congrArg Nat.succ (a4j' (cs:=cs) (N:=N) (es:=es.tail))
theorem a0K':∀{cs:List CE} {N:Ls} {sc:Sc} {es:Lx},sdL cs N sc es=true→∀e∈emL cs N es,a0w' e=true
 | [],N,sc,es,h,e,he=>absurd he List.not_mem_nil
 |c::cs,N,sc,es,h,e,he=>by
  rcases Zo.mp he with rfl|he
  ·exact(andB (andB h).2).1
  ·exact a0K' (andB (andB h).2).2 e he
theorem a0S':∀{es:Lx} {env:Env} {pos:Pos},(∀e∈es,a0w' e=true)→(backTo pos (starEach es env)).any (·.1)=false
 | [],env,pos,h=>rfl
 |e::es,env,pos,h=>by rw[a0j' (h e Zc)];show(false||(backTo pos (starEach es env)).any (·.1))=false;rw[a0S' λe he=>h e (Zb _ he)];rfl
theorem a2H':∀{es:Lx} {env:Env} {pos:Pos},(∀e∈es,a0w' e=true)→(backTo pos (starEach es env)).all (λx=> !x.1)=true
 | [],env,pos,h=>rfl
 |e::es,env,pos,h=>by rw[a0j' (h e Zc)];show(!false&&(backTo pos (starEach es env)).all (λx=> !x.1))=true;rw[a2H' λe he=>h e (Zb _ he)];rfl
theorem a3H':∀{cs:List CE} {ρ:Rho} {S S':Store} {ds:List D},denL Φ Γ cs ρ S=.ok ds S'→ds.length=cs.length
 | [],ρ,S,S',ds,h=>by unfold denL at h;cases h;rfl
 |c::cs,ρ,S,S',ds,h=>by
  unfold denL at h;cases e:den Φ Γ c ρ S with
  |ok d S1=>
   rw[e]at h;cases e2:denL Φ Γ cs ρ S1 with
   |ok ds1 S2=>simp only[Res.bind,e2]at h;cases h;simp[a3H' e2]
   |err x S2=>simp only[Res.bind,e2]at h;cases h
   |fail=>simp only[Res.bind,e2]at h;cases h
  |err x S1=>rw[e]at h;cases h
  |fail=>rw[e]at h;cases h
theorem a4k'{x:Str}{s:Scope}(hs:s.names=sc)(h:visB sc x=true):Vis s x:=by unfold Vis;rw[hs];unfold visB at h;split at h<;>simp_all
theorem a0v'{x:Str}(h:a2j' x=true):(x==("__debug__":Str))=false∧(x==("__classdict__":Str))=false:=by unfold a2j' at h;simp only[ZA,Bool.not_eq_true']at h;exact h
theorem a0n'{x:Str}(h:gloB sc x=true):sc.lookup x=some .globalImplicit∧(x==("__debug__":Str))=false∧x≠"__name__":=by unfold gloB at h;simp only[ZA,Bool.not_eq_true',beq_iff_eq]at h;refine⟨h.1.1,h.1.2,λz=>?_⟩;subst z;exact absurd h.2 (by decide)
section
variable {E:XK}{l r:Expr}{pos:Pos}{a b c:CE}{cs:List CE}{x:Str}
theorem XOk.gl(O:XOk X cell N sc CX E Φ Γ k)(h:sc.lookup x=some .globalImplicit):Gl X x:=by show X.env.scope.names.lookup x=_;rw[O.sc];exact h
theorem s_var(O:XOk X cell N sc CX E Φ Γ k){i:Nat}(h1:(N[i]?==some x)=true)(h2:visB sc x=true)(h3:a2j' x=true):PE X (.Name x pos) (tE X.K X.mg E Φ Γ (.var i)):=by
 refine weakE (a6A' (i:=i) (by rw[O.n];simpa using h1) (a4k' O.sc h2) (a0v' h3).1 (a0v' h3).2) λσ H Q zz=>ex43 zz λF μ ρ S sk en w=>?_;simp only[den]at w;split at w
 ·rename_i d e;obtain⟨v,e1,r1⟩:=en.2 i d e;exact⟨v,e1,w μ H v .refl sk r1⟩
 ·exact w.elim
theorem s_lit{cn:Const}{j}(h:litIs d cn=true):PE X (.Constant cn j pos) (tE X.K X.mg E Φ Γ (.lit d)):=by
 unfold litIs at h;split at h
 ·exact weakE pe_non λσ H Q zz=>ex43 zz λF μ ρ S sk en w=>w μ H _ .refl sk a6K'
 ·have e:=(beq_iff_eq).mp h;subst e;exact weakE pe_bl λσ H Q zz=>ex43 zz λF μ ρ S sk en w=>w μ H _ .refl sk repBl
 ·have e:=(beq_iff_eq).mp h;subst e;exact weakE pe_int λσ H Q zz=>ex43 zz λF μ ρ S sk en w=>w μ H _ .refl sk a0H'
 ·have e:=(beq_iff_eq).mp h;subst e;exact weakE a7Z' λσ H Q zz=>ex43 zz λF μ ρ S sk en w=>w μ H _ .refl sk a6J'
 ·cases h
theorem s_glob(O:XOk X cell N sc CX E Φ Γ k)(h:gloB sc x=true):PE X (.Name x pos) (tE X.K X.mg E Φ Γ (.glob x)):=by
 obtain⟨h1,h2,h3⟩:=a0n' h;cases e:Γ x with
 |none=>intro pq s σ H Q I ⟨F,μ,ρ,S,sk,en,w⟩;simp only[den]at w;rw[e]at w;exact w.elim
 |some d=>obtain⟨v,u,m1,m2,m3⟩:=O.mod.gl x d e;refine weakE (a5b' (O.gl h1) m1 m2 h2) λσ H Q zz=>ex43 zz λF μ ρ S sk en w=>?_;simp only[den]at w;rw[e]at w;exact w μ H v .refl sk (m3 F μ H)
theorem tyN_blt{n:String}(h:a2s'.contains n=true):(Str.ofString n)∈a0Y':=by simp[a2s']at h;rcases h with rfl|rfl|rfl|rfl|rfl|rfl<;>decide+kernel
theorem s_ty(O:XOk X cell N sc CX E Φ Γ k){n:String}(h:gloB sc (Str.ofString n)=true)(h2:a2s'.contains n=true):PE X (.Name (Str.ofString n) pos) (tE X.K X.mg E Φ Γ (.ty n)):=by obtain⟨h1,h3,h4⟩:=a0n' h;refine weakE (a7w' (v:=.ty n) (O.gl h1) (O.mod.bl _ (tyN_blt h2)) (ty_boot h2) rfl h4 h3) λσ H Q zz=>ex43 zz λF μ ρ S sk en w=>?_;exact w μ H (.ty n) .refl sk (by unfold Rep;rfl)
theorem len_of{mg:GS}{Q:List V→Hp→Prop}(hl:cs.length<1000)(w:WantG K mg E (RepL K mg) μ H Q (denL Φ Γ cs ρ S)):WantG K mg E (RepL K mg) μ H (λvs H'=>vs.length≤sizeLine∧Q vs H') (denL Φ Γ cs ρ S):=by
 cases e:denL Φ Γ cs ρ S with
 |ok ds S'=>rw[e]at w;intro μ' H' vs x s r;refine⟨?_,w μ' H' vs x s r⟩;rw[←r.length,a3H' e];exact Nat.le_of_lt (Zv hl (by decide))
 |err y S'=>rw[e]at w;exact w
 |fail=>rw[e]at w;exact w
theorem s_tup{x1}(hl:cs.length<1000)(h:PA X es (tL X.K X.mg E Φ Γ cs)):PE X (.Tuple es x1 pos) (tE X.K X.mg E Φ Γ (.tup cs)):=
 weakE (pe_tup h) λσ H Q zz=>ex43 zz λF μ ρ S sk en w=>⟨F,μ,ρ,S,sk,en,(len_of hl (WantG.bind w)).mono λvs H1 ⟨hz,μ1,S1,ds,x1,s1,r1,w1⟩=>⟨hz,λp hp=>by exact Want.tup (show Want X.K ⟨X.mg,F⟩ μ1 H1 Q (.ok (.tup ds) S1)from w1) s1 r1 p hp⟩⟩
theorem s_lst{box:Bool}(hl:cs.length<1000)(h:PA X es (tL X.K X.mg E Φ Γ cs)):PE X (.List es pos) (tE X.K X.mg E Φ Γ (.lst box cs)):=
 weakE (a4E' h) λσ H Q zz=>ex43 zz λF μ ρ S sk en w=>⟨F,μ,ρ,S,sk,en,(len_of hl (WantG.bind w)).mono λvs H1 ⟨hz,μ1,S1,ds,x1,s1,r1,w1⟩=>⟨hz,λp hp=>by
  cases box with
  |true=>exact Want.box (show Want X.K ⟨X.mg,F⟩ μ1 H1 Q (.ok (.ref S1.length) (S1++[ds]))from w1) s1 r1 p hp
  |false=>exact Want.lst (show Want X.K ⟨X.mg,F⟩ μ1 H1 Q (.ok (.lst ds) S1)from w1) s1 r1 p hp⟩⟩
theorem s_dct:PE X (.Dict [] [] pos) (tE X.K X.mg E Φ Γ .dct):=λpq s σ H Q I zz=>ex43 zz λF μ ρ S sk en w=>by
 have hlt:mainGlobals<s.heap.objs.size:=Zv I.mod.glob.lt (ZE I.ok.bsz I.sz);have hp:H s.heap.objs.size=none:=I.hok.fresh (Zi _);refine wpAny_Dict_empty ⟨.ref s.heap.objs.size,upd H s.heap.objs.size (.dK []),I.laid (t':=s.toks) (o:=.dK []) (λb ob q=>Zd _ q) (Zi _) ?_,rfl,?_⟩
 ·refine⟨Nat.zero_le _,?_,[],.nil,_, #[],_,Zn _ rfl,⟨rfl,rfl,rfl⟩,rfl,λe he=>by simp at he,.nil,.nil⟩;have h3:mainGlobals=3:=rfl;have h1:sysModules=1:=rfl;rw[beq_eq_false_iff_ne];intro z;rw[z,h1,h3]at hlt;exact absurd hlt (by decide)
 ·exact w μ _ _ (.laid hp) (sk.laid hp) (by unfold Rep;exact⟨_,rfl,a0h'⟩)
theorem s_idx(hs:a0X' r=true)(ha:PE X l (tE X.K X.mg E Φ Γ a))(hb:PE X r (tE X.K X.mg E Φ Γ b)):PE X (.Subscript l r pos) (tE X.K X.mg E Φ Γ (.idx a b)):=
 weakE (pe_ix ix_D ha hb (a5F' hs)) λσ H Q zz=>ex43 zz λF μ ρ S sk en w=>
  ⟨F,μ,ρ,S,sk,en,(WantG.bind w).mono λv1 H1 zz=>ex34 zz λμ1 S1 d1 x1 s1 r1 w1=>⟨F,μ1,ρ,S1,s1,en.mono x1,(WantG.bind w1).mono λv2 H2 zz=>ex34 zz λμ2 S2 d2 x2 s2 r2 w2=>⟨F,μ2,S2,d1,d2,s2,Rep.mono x2 _ _ r1,r2,a0U' w2⟩⟩⟩
def tPt(K:Fg)(mg:Mg)(E:XK)(Φ:FT)(Γ:Str→Option D)(cs:List CE):TO:=λσ H Q=>∃F μ ρ S,SOk K ⟨mg,F⟩ μ S H∧EnvR K ⟨mg,F⟩ μ H ρ σ∧
 WantG K ⟨mg,F⟩ E (λ_ _ o o'=>o=o') μ H Q ((denL Φ Γ cs ρ S).bind optL)
theorem s_part0:PO X none (tPt X.K X.mg E Φ Γ []):=by intro pq s σ H Q I ⟨F,μ,ρ,S,sk,en,w⟩;exact po_none pq s σ H Q I (w μ H none .refl sk rfl)
theorem s_part1(ha:PE X e (tE X.K X.mg E Φ Γ a)):PO X (some e) (tPt X.K X.mg E Φ Γ [a]):=by
 intro pq s σ H Q I ⟨F,μ,ρ,S,sk,en,w⟩;refine po_some ha pq s σ H Q I ⟨F,μ,ρ,S,sk,en,?_⟩
 have w':WantG X.K ⟨X.mg,F⟩ E (λ_ _ o o'=>o=o') μ H Q ((den Φ Γ a ρ S).bind λd S1=>optL [d] S1):=by
  have e1:(denL Φ Γ [a] ρ S).bind optL=(den Φ Γ a ρ S).bind λd S1=>optL [d] S1:=by rw[denL];cases den Φ Γ a ρ S<;>rfl
  rw[←e1];exact w
 refine(WantG.bind w').mono λv H1 zz=>ex34 zz λμ1 S1 d x1 s1 r1 w1=>?_;cases d with
 |int i=>exact⟨i,a0a' r1,w1 μ1 H1 (some i) .refl s1 rfl⟩
 |_=>exact w1.elim
theorem s_sl{lo hi:Option Expr}{cl ch:List CE}(ha:PE X l (tE X.K X.mg E Φ Γ a))(hl:PO X lo (tPt X.K X.mg E Φ Γ cl))(hh:PO X hi (tPt X.K X.mg E Φ Γ ch)):PE X (.Subscript l (.Slice lo hi none p2) pos) (tE X.K X.mg E Φ Γ (.sl a cl ch)):=
 weakE (a8i' sl_D ha hl hh) λσ H Q zz=>ex43 zz λF μ ρ S sk en w=>⟨F,μ,ρ,S,sk,en,(WantG.bind w).mono λv1 H1 zz=>ex34 zz λμ1 S1 d1 x1 s1 r1 w1=>⟨F,μ1,ρ,S1,s1,en.mono x1,
  (WantG.bind w1).mono λo H2 zz=>ex34 zz λμ2 S2 o' x2 s2 e2 w2=>⟨F,μ2,ρ,S2,s2,(en.mono x1).mono x2,(WantG.bind w2).mono λo2 H3 zz=>ex34 zz λμ3 S3 o2' x3 s3 e3 w3=>by subst e2;subst e3;exact⟨F,μ3,S3,d1,s3,Rep.mono (x2.trans x3) _ _ r1,a0U' w3⟩⟩⟩⟩
theorem s_call(O:XOk X cell N sc CX E Φ Γ k){f:Str}(h:gloB sc f=true)(hst:∀x∈e::es,a0w' x=true)(ha:PA X (e::es) (tL X.K X.mg E Φ Γ cs)):PE X (.Call (.Name f p2) (e::es) [] pos) (tE X.K X.mg E Φ Γ (.call f cs)):=by
 obtain⟨h1,h2,h3⟩:=a0n' h;cases ef:Φ f with
 |none=>intro pq s σ H Q I ⟨F,μ,ρ,S,sk,en,w⟩;simp only[den]at w;rw[ef]at w;exact w.elim
 |some φ=>obtain⟨fa,fd,ps,m1,m2,m3,m4,m5⟩:=(O.mod.fns f φ ef).ex;refine weakE (pe_call (E:=E) m4 O.room (O.gl h1) m1 m2 m3 .nil O.pass ha h2 (a0j' (hst e Zc)) (a0S' λx hx=>hst x (Zb _ hx))) λσ H Q zz=>ex43 zz λF μ ρ S sk en w=>?_;simp only[den]at w;rw[ef]at w;refine⟨F,μ,ρ,S,sk,en,(WantG.bind w).mono λvs H1 zz=>ex34 zz λμ1 S1 ds x1 s1 r1 w1=>?_⟩;rw[List.append_nil];refine⟨?_,F,μ1,S1,ds,s1,r1,w1⟩;rw[←r1.length];exact m5 ds S1 λz=>by rw[z]at w1;exact w1
theorem s_blt(O:XOk X cell N sc CX E Φ Γ k){b:Blt}(hb:CallR X (bltIs b) (rC X.K X.mg (bltD b)))(h:gloB sc (a1Z' b)=true)(hst:∀x∈e::es,a0w' x=true)(ha:PA X (e::es) (tL X.K X.mg E Φ Γ cs)):PE X (.Call (.Name (a1Z' b) p2) (e::es) [] pos) (tE X.K X.mg E Φ Γ (.blt b cs)):=by
 obtain⟨h1,h2,h3⟩:=a0n' h
 have hm:X.mg (a1Z' b)=none:=O.mod.bl _ (by
  cases b with
  |list box=>show(Str.ofString "list")∈a0Y';decide+kernel
  |sorted box t=>show(Str.ofString "sorted")∈a0Y';decide+kernel
  |_=>decide+kernel)
 have key:PE X (.Call (.Name (a1Z' b) p2) (e::es) [] pos) (tCB (rC X.K X.mg (bltD b)) (tL X.K X.mg E Φ Γ cs)):=by
  have s1:=a0j' (env:=X.env) (es:=es) (hst e Zc);have s2:=a0S' (env:=X.env) (pos:=pos) λx hx=>hst x (Zb _ hx);have hv:=a8z' b;cases b with
  |tuple=>exact a2C' hb (O.gl h1) hm hv ha h3 h2 s1 s2
  |list box=>exact a2C' hb (O.gl h1) hm hv ha h3 h2 s1 s2
  |int=>exact a2C' hb (O.gl h1) hm hv ha h3 h2 s1 s2
  |_=>exact a3y' hb (O.gl h1) hm hv ha h3 h2 s1 s2
 refine weakE key λσ H Q zz=>ex43 zz λF μ ρ S sk en w=>⟨F,μ,ρ,S,sk,en,(WantG.bind w).mono λvs H1 zz=>ex34 zz λμ1 S1 ds x1 s1 r1 w1=>⟨F,μ1,S1,ds,s1,r1,a0U' w1⟩⟩
theorem a5H'{mg:GS}(s:SOk K mg μ S H)(r:Rep K mg μ H (.ref n) v):tyV K "list" v H:=by
 unfold Rep at r;obtain⟨a,rfl,h⟩:=r;have hl:n<S.length:=by rw[←s.len];exact(Ze.mp h).1
 obtain⟨vs,h1,q⟩:=s.at_ n a _ h (Zh hl);exact .inl ⟨rfl,vs,.of h1⟩
def mthId:Mth→String
 | .append=>"list.append"| .extend=>"list.extend"| .pop=>"list.pop"| .count=>"list.count"| .insert=>"list.insert"
theorem mth_ok(m:Mth):MtR X (mthId m) (rM X.K X.mg (methD m)):=by
 cases m with
 |append=>exact a8t'
 |count=>exact count_D
 |insert=>exact λ_ _ _ _ _ _ _ _ _ _ _ _ ⟨_,_,_,_,_,_,_,_,w⟩=>w.elim
 |extend=>exact λ_ _ _ _ _ _ _ _ _ _ _ _ ⟨_,_,_,_,_,_,_,_,w⟩=>w.elim
 |pop=>exact λ_ _ _ _ _ _ _ _ _ _ _ _ ⟨_,_,_,_,_,_,_,_,w⟩=>w.elim
theorem a5I'(m:Mth):Slot "list" (a4i' m) (mthId m):=by
 cases m with
 |append=>exact PySem.F.slot_list_append
 |count=>exact PySem.F.slot_list_count
 |insert=>exact PySem.F.slot_list_insert
 |extend=>exact PySem.F.slot_list_extend
 |pop=>exact PySem.F.slot_list_pop
theorem a5J'(m:Mth):typeOf (.builtin (mthId m))=pure (.type "method_descriptor"):=by
 cases m with
 |append=>exact PySem.F.type_list_append
 |count=>exact PySem.F.type_list_count
 |insert=>exact PySem.F.type_list_insert
 |extend=>exact PySem.F.type_list_extend
 |pop=>exact PySem.F.type_list_pop
theorem s_meth{m:Mth}{o:Expr}(hn:isNm o=true)(hl:(apos.endLine==pos.line)=true)(hst:∀x∈es,a0w' x=true)(hz:es.length<20)(hcs:cs.length=es.length)(ho:PE X o (tE X.K X.mg E Φ Γ a))(ha:PA X es (tL X.K X.mg E Φ Γ cs)):
  PE X (.Call (.Attribute o (a4i' m) apos) es [] pos) (tE X.K X.mg E Φ Γ (.meth m a cs)):=by
 have hbase:attributeBase o (a4i' m) X.env (eval o X.env)=eval o X.env:=by cases o<;>first|rfl|cases hn
 have key:∀{F μ1 S1 H1 ρ d1 Q v1},SOk X.K ⟨X.mg,F⟩ μ1 S1 H1→Rep X.K ⟨X.mg,F⟩ μ1 H1 d1 v1→WantG X.K ⟨X.mg,F⟩ E (Rep X.K ⟨X.mg,F⟩) μ1 H1 Q (match d1 with
   | .ref n=>(denL Φ Γ cs ρ S1).bind λds S2=>(methD m (.ref n) ds S2).noErr
   |_=>.fail)→tyV X.K "list" v1 H1∧WantG X.K ⟨X.mg,F⟩ E (RepL X.K ⟨X.mg,F⟩) μ1 H1 (λvs H2=>rM X.K X.mg (methD m) v1 vs H2 Q) (denL Φ Γ cs ρ S1):=by
  intro F μ1 S1 H1 ρ d1 Q v1 s1 r1 w1;cases d1 with
  |ref n=>exact⟨a5H' s1 r1,(WantG.bind w1).mono λvs H2 zz=>ex34 zz λμ2 S2 ds x2 s2 r2 w2=>⟨F,μ2,S2,_,ds,s2,Rep.mono x2 _ _ r1,r2,a0U' w2⟩⟩
  |_=>exact w1.elim
 cases es with
 |nil=>have e:cs=[]:=Zt hcs;subst e;refine weakE (pe_bm0 PySem.F.plainAttrs_list (a5I' m) (a5J' m) (mth_ok m) ho hbase hl) λσ H Q zz=>ex43 zz λF μ ρ S sk en w=>⟨F,μ,ρ,S,sk,en,(WantG.bind w).mono λv1 H1 zz=>ex34 zz λμ1 S1 d1 x1 s1 r1 w1=>?_⟩;obtain⟨k1,k2⟩:=key s1 r1 w1;exact⟨k1,k2 μ1 H1 [] .refl s1 .nil⟩
 |cons e es=>
  refine weakE (pe_bm PySem.F.plainAttrs_list (a5I' m) (a5J' m) (mth_ok m) ho ha hbase ?_ hl (a0j' (hst e Zc)) (a0S' λx hx=>hst x (Zb _ hx))) λσ H Q zz=>ex43 zz λF μ ρ S sk en w=>⟨F,μ,ρ,S,sk,en,(WantG.bind w).mono λv1 H1 zz=>ex34 zz λμ1 S1 d1 x1 s1 r1 w1=>?_⟩
  ·rw[a2H' hst];have e1:(backToKw pos (keywordEach [] X.env)).all (λx=>x.1.isSome)=true:=rfl;rw[e1];simp only[Bool.true_and,decide_eq_true_eq];have e2:(if([]:List Keyword).isEmpty then 0 else 1)=0:=rfl;rw[e2];simp only[List.length_nil];omega
  ·obtain⟨k1,k2⟩:=key s1 r1 w1;exact⟨k1,F,μ1,ρ,S1,s1,en.mono x1,k2⟩
theorem pe_tm{id:String}{r:V→List V→Hp→VK→Prop}{o:Expr}{t:TA}(slot:Slot "tuple" name id)(hty:typeOf (.builtin id)=pure (.type "method_descriptor"))(hm:MtR X id r)(ho:PE X o to)(ha:PA X (e::es) t)
  (hbase:attributeBase o name X.env (eval o X.env)=eval o X.env)
  (hfew:((backTo cpos (starEach (e::es) X.env)).all (λx=> !x.1)&&(backToKw cpos (keywordEach [] X.env)).all (λx=>x.1.isSome)
   &&decide ((e::es).length+([]:List Keyword).length+(if([]:List Keyword).isEmpty then 0 else 1)<30))=true)
  (hline:(apos.endLine==cpos.line)=true) (hs:starEach (e::es) X.env=(false,eval e X.env)::starEach es X.env) (hplain:(backTo cpos (starEach es X.env)).any (·.1)=false):
  PE X (.Call (.Attribute o name apos) (e::es) [] cpos) (λσ H Q=>to σ H λx H1=>(∃a vs,x=.ref a∧SqT X.K H1 a vs)∧t σ H1 λxs H2=>r x xs H2 Q):=by
 intro pq s σ H Q I h;refine wpAny_Call_method_late hbase hfew hline rfl (thn (ho pq s σ H _ I h) λv s1 ⟨x,H1,I1,r1,ty,q1⟩=>?_);obtain⟨a,vs,rfl,hq⟩:=ty;cases r1;obtain⟨its,_,⟨ob,e1,e2,_⟩,_⟩:=I1.tuple hq;refine⟨"tuple",id,PySem.F.plainAttrs_tuple,slot,hty,⟨ob,e1,e2⟩,(λb eb=>by cases eb;exact I1.noD hq),?_⟩;have hA:=ha cpos pq s1 σ H1 _ I1 q1;rw[hs]at hA⊢;refine Calls.callWith_builtin (by show(false||(backTo cpos (starEach es X.env)).any (·.1))=false;rw[hplain]<;>rfl) (Calls.evalArgs_plain ?_);exact thn hA λus s2 ⟨vs,H2,I2,r2,q2⟩=>hm pq s2 σ H2 (.ref a) vs _ us Q I2 rfl r2 q2
theorem s_tix{o:Expr}(hn:isNm o=true)(hl:(apos.endLine==pos.line)=true)(hst:∀x∈es,a0w' x=true)(hz:es.length=1)(ho:PE X o (tE X.K X.mg E Φ Γ a))(ha:PA X es (tL X.K X.mg E Φ Γ cs)):
  PE X (.Call (.Attribute o "index" apos) es [] pos) (tE X.K X.mg E Φ Γ (.tix a cs)):=by
 have hbase:attributeBase o "index" X.env (eval o X.env)=eval o X.env:=by cases o<;>first|rfl|cases hn
 cases es with
 |nil=>cases hz
 |cons e es=>
  refine weakE (pe_tm PySem.F.slot_tuple_index PySem.F.type_tuple_index tix_D ho ha hbase ?_ hl (a0j' (hst e Zc)) (a0S' λx hx=>hst x (Zb _ hx))) λσ H Q zz=>ex43 zz λF μ ρ S sk en w=>⟨F,μ,ρ,S,sk,en,(WantG.bind w).mono λv1 H1 zz=>ex34 zz λμ1 S1 d1 x1 s1 r1 w1=>?_⟩
  ·rw[a2H' hst];have e1:(backToKw pos (keywordEach [] X.env)).all (λx=>x.1.isSome)=true:=rfl;rw[e1];simp only[Bool.true_and,decide_eq_true_eq];have e2:(if([]:List Keyword).isEmpty then 0 else 1)=0:=rfl;rw[e2];simp only[List.length_nil];omega
  ·cases d1 with
   |tup xs=>obtain⟨a,vs,e1,h1,h2⟩:=a0m' r1;exact⟨⟨a,vs,e1,h1⟩,F,μ1,ρ,S1,s1,en.mono x1,(WantG.bind w1).mono λvs H2 zz=>ex34 zz λμ2 S2 ds x2 s2 r2 w2=>⟨F,μ2,S2,_,ds,s2,Rep.mono x2 _ _ r1,r2,a0U' w2⟩⟩
   |_=>exact w1.elim
end
theorem a5K'{t:Addr}{i:Nat}{x:Value}(hit:s.heap.IsTupleIter it t i)(ht:s.heap.IsTuple t items)(hx:items[i]?=some x)
  (hQ:∀h',h'.IsTupleIter it t (i+1)→Heap.SameBut it s.heap h'→Q x {s with heap:=h'}):wpAny (model prog w) A (Builtin.SmallTypes.nextOf (.ref it)) Q E s:=by
 obtain⟨o,ho,hc,hd⟩:=id hit;obtain⟨ol,hol,_,nl,hdl⟩:=ht;unfold Builtin.SmallTypes.nextOf;refine Za (wpAny_callSpecial?_slot (name:=Str.ofString "__next__") hit.typeIs F.slot_tuple_iterator_next (wpAny_call_entry F.slot_tuple_iterator_next hit.typeIs F.entry_tuple_iterator_next ?_ (F.args_tuple_iterator_next_1 _)));show wpAny _ _ (field (.ref it) 0>>=_) _ _ s;refine Za (ZX ho hd (x:=.ref t) rfl ?_);show wpAny _ _ (if(Value.ref t==Value.none)=true then _ else _) _ _ s;rw[if_neg (show ¬((Value.ref t==Value.none)=true)from ZU)];show wpAny _ _ (field (.ref it) 1>>=_) _ _ s;refine Za (ZX ho hd (x:=.int i 0) rfl ?_);show wpAny _ _ (seqItems? (.ref t)>>=_) _ _ s;refine Za (wpAny_seqItems hol hdl ?_);simp only[Int.toNat_natCast,hx];refine Za (wpAny_setField ho hd (by simp) (Zg ⟨x,rfl,Zg (hQ _ ?_ (Heap.SameBut.update ..))⟩));exact⟨_,Heap.get?_update_self _ ho (Obj.isFreed_of_fields (Obj.data_mapFields hd _)),(Obj.cls_mapFields ..).trans hc,by rw[Obj.data_mapFields hd];simp[rawInt]⟩
theorem a4l'{t:Addr}{i:Nat}{Q:Vs}(hh:A.handled=none)(hit:s.heap.IsTupleIter it t i)(ht:s.heap.IsTuple t items)(hx:items[i]?=none)
  (hE:∀h' e,Heap.ExtBut it s.heap h'→(∃o,h'.get? e=some o∧o.cls=.type "StopIteration")→E (.ref e) {s with heap:=h'}):wpAny (model prog w) A (Builtin.SmallTypes.nextOf (.ref it)) Q E s:=by
 obtain⟨o,ho,hc,hd⟩:=id hit;obtain⟨ol,hol,_,nl,hdl⟩:=ht;unfold Builtin.SmallTypes.nextOf;refine Za (wpAny_callSpecial?_slot (name:=Str.ofString "__next__") hit.typeIs F.slot_tuple_iterator_next (wpAny_call_entry F.slot_tuple_iterator_next hit.typeIs F.entry_tuple_iterator_next ?_ (F.args_tuple_iterator_next_1 _)));show wpAny _ _ (field (.ref it) 0>>=_) _ _ s;refine Za (ZX ho hd (x:=.ref t) rfl ?_);show wpAny _ _ (if(Value.ref t==Value.none)=true then _ else _) _ _ s;rw[if_neg (show ¬((Value.ref t==Value.none)=true)from ZU)];show wpAny _ _ (field (.ref it) 1>>=_) _ _ s;refine Za (ZX ho hd (x:=.int i 0) rfl ?_);show wpAny _ _ (seqItems? (.ref t)>>=_) _ _ s;refine Za (wpAny_seqItems hol hdl ?_);simp only[Int.toNat_natCast,hx];refine Za (wpAny_rule (Za (wpAny_setField ho hd (by simp) ?_)));show wpAny _ _ (newExc (.type "StopIteration") []>>=_) _ _ _;refine Za ?_;simp only[newExc,newTuple];refine Za (wpAny_newObj_type ?_ (by size_fits));refine Za (m:=firstArgMember _ _) (wpAny_of_eq (a:=Value.none) (by first|rfl| (simp only[firstArgMember];rfl)) ?_);refine wpAny_newObj_type ?_ (by size_fits);simp only[raiseNew];refine Za (wpAny_handled ?_)
 first|rw[show A.in1.handled=none from hh]|rw[hh]
 refine Za (Zg (wpAny_throw ?_));exact hE _ _ (((Heap.SameBut.update ..).extBut.push _).push _) ⟨_,Zn _ rfl,rfl⟩
def IsSq(b:Bool)(h:Heap)(l:Addr)(xs:Av):Prop:=match b with
 |true=>h.IsList l xs
 |false=>h.IsTuple l xs
def IsIt(b:Bool)(h:Heap)(it l:Addr)(i:Nat):Prop:=match b with
 |true=>h.IsListIter it l i
 |false=>h.IsTupleIter it l i
theorem IsSq.at{b:Bool}{l:Addr}{xs:Av}(q:IsSq b h l xs)(k:∀o,h.get? l=some o→h'.get? l=some o):IsSq b h' l xs:=by
 cases b with
 |true=>exact Heap.IsList.at q k
 |false=>obtain⟨o,e,r⟩:=q;exact⟨o,k o e,r⟩
theorem IsIt.at{b:Bool}{l:Addr}{i:Nat}(q:IsIt b h it l i)(k:∀o,h.get? it=some o→h'.get? it=some o):IsIt b h' it l i:=by
 cases b with
 |true=>exact Heap.IsListIter.at q k
 |false=>exact Heap.IsTupleIter.at q k
theorem IsIt.obj{b:Bool}{l:Addr}{i:Nat}(q:IsIt b h it l i):∃o,h.get? it=some o∧∀v,o.data≠.cell v:=by
 cases b with
 |true=>obtain⟨o,e,c,d⟩:=q;exact⟨o,e,λv z=>by rw[d]at z;cases z⟩
 |false=>obtain⟨o,e,c,d⟩:=q;exact⟨o,e,λv z=>by rw[d]at z;cases z⟩
theorem draws(hh:A.handled=none)(b:Bool)(it l:Addr)(hne:l≠it)(items:Av):
  Draws prog w A it [it,l] items.size (λi v=>items[i]?=some v) (λi h=>IsIt b h it l i∧IsSq b h l items):=by
 cases b with
 |true=>exact Draws.list hh it l hne items
 |false=>exact{
   live:=λ_ _ st=>let⟨o,ho,_⟩:=st.1;⟨o,ho⟩
   frame:=λ_ _ _ st hk=>⟨st.1.at λo e=>hk it (by simp) o e,st.2.at λo e=>hk l (by simp) o e⟩
   item:=λi s Q E hi st hQ=>by refine a5K' st.1 st.2 (x:=items[i]) (by simp[hi]) λh' hit' hs'=>?_;exact hQ _ h' s.toks (by simp[hi]) ⟨hit',st.2.at λo e=>hs'.extBut _ _ hne e⟩ hs'
   done:=λs Q E st hE=>a4l' hh st.1 st.2 (by simp) hE}
structure ZApart (z TI TO i1 i2 l1 l2:Addr):Prop where
 TIz:TI≠z
 TOz:TO≠z
 i1z:i1≠z
 i2z:i2≠z
 TITO:TI≠TO
 TIi1:TI≠i1
 TIi2:TI≠i2
 TOi1:TO≠i1
 TOi2:TO≠i2
 i12:i1≠i2
 l1:l1≠z∧l1≠TO∧l1≠i1∧l1≠i2
 l2:l2≠z∧l2≠TO∧l2≠i1∧l2≠i2
theorem a3a'{prog:Program}{w:World}{b:Bool}{t:Addr}{i:Nat}{Q:Vs}(hh:A.handled=none)(hit:IsIt b s.heap it t i)(ht:IsSq b s.heap t items)(hx:items[i]?=none)
  (hE:∀h' e,Heap.ExtBut it s.heap h'→(∃o,h'.get? e=some o∧o.cls=.type "StopIteration")→E (.ref e) {s with heap:=h'}):wpAny (model prog w) A (Builtin.SmallTypes.nextOf (.ref it)) Q E s:=by
 cases b with
 |true=>exact wpAny_nextOf_list_end hh hit ht hx hE
 |false=>exact a4l' hh hit ht hx hE
section
variable {z TI TO i1 i2 l1 l2:Addr}{k1 k2:Nat}{xs ys:Av}{a b:Value}
theorem zip_go(D:ZApart z TI TO i1 i2 l1 l2)(hh:A.handled=none){x y:Value}
  (hz:IsZip s.heap z TI TO .none) (hTI:IsPair s.heap TI (.ref i1) (.ref i2)) (hTO:IsPair s.heap TO a b)
  (h1:IsIt b1 s.heap i1 l1 k1) (h2:IsIt b2 s.heap i2 l2 k2) (hl1:IsSq b1 s.heap l1 xs) (hl2:IsSq b2 s.heap l2 ys) (hx:xs[k1]?=some x) (hy:ys[k2]?=some y)
  (hQ:∀h',IsZip h' z TI TO (rawInt s.heap.objs.size)→IsPair h' TO x y→IsIt b1 h' i1 l1 (k1+1)→IsIt b2 h' i2 l2 (k2+1)→IsPair h' s.heap.objs.size x y→h'.objs.size=s.heap.objs.size+1→
   (∀c o,c≠z→c≠TO→c≠i1→c≠i2→s.heap.get? c=some o→h'.get? c=some o)→∀tk,Q (.ref s.heap.objs.size) {s with heap:=h',toks:=tk}):
  wpAny (model prog w) A (Builtin.«zip.__next__» ⟨[.ref z],[]⟩) (λfin s'=>∃v,fin=.done (.ret v)∧Q v s') E s:=by
 have D1:=draws (prog:=prog) (w:=w) (A:=A) hh b1 i1 l1 D.l1.2.2.1 xs;have D2:=draws (prog:=prog) (w:=w) (A:=A) hh b2 i2 l2 D.l2.2.2.2 ys;have n1:k1<xs.size:=(Array.getElem?_eq_some_iff.mp hx).1;have n2:k2<ys.size:=(Array.getElem?_eq_some_iff.mp hy).1;show wpAny _ _ (field (.ref z) 2>>=_) _ _ _;refine Za (ZX hz rfl (x:=.bool false) rfl ?_);show wpAny _ _ (field (.ref z) 3>>=_) _ _ _;refine Za (ZX hz rfl (x:=.ref TI) rfl ?_);refine Za (wpAny_seqItems hTI rfl ?_);show wpAny _ _ (Builtin.SmallTypes.ownedTupleIsFree (.ref z)>>=_) _ _ _;refine Za ?_;unfold Builtin.SmallTypes.ownedTupleIsFree;refine Za (ZX hz rfl (x:=.none) rfl (Zg ?_));simp only[if_true];refine Za (wpAny_rule ?_);refine Za (ZX hz rfl (x:=.ref TO) rfl ?_);refine Za (wpAny_setField_rec hz (by simp) λh₁ hz₁ hs₁=>?_);replace hz₁:IsZip h₁ z TI TO .ellipsis:=hz₁;refine Za ?_;simp only[List.zipIdx_cons,List.zipIdx_nil,List.forIn_cons,List.forIn_nil];refine Za (Za (wpAny_onRaise ?_));show wpAny _ _ (Builtin.SmallTypes.nextOf (.ref i1)>>=_) _ _ _;refine Za (D1.item k1 _ _ _ n1 ⟨h1.at λo e=>hs₁.extBut _ _ D.i1z e,hl1.at λo e=>hs₁.extBut _ _ D.l1.1 e⟩ λx' h₂ tk hx' st₂ hs₂=>Zg ?_);rw[hx]at hx';cases hx';have hTO₂:IsPair h₂ TO a b:=hs₂.extBut _ _ D.TOi1 (hs₁.extBut _ _ D.TOz hTO);refine Za (wpAny_seqItems hTO₂ rfl ?_);refine Za (wpAny_updateSeq_pair hTO₂ λh₃ hTO₃ hs₃=>?_);replace hTO₃:IsPair h₃ TO x b:=hTO₃;refine Za (wpAny_letGo (Zg ?_));refine Za (Za (wpAny_onRaise ?_));show wpAny _ _ (Builtin.SmallTypes.nextOf (.ref i2)>>=_) _ _ _;refine Za (D2.item k2 _ _ _ n2 ⟨h2.at λo e=>hs₃.extBut _ _ D.TOi2.symm (hs₂.extBut _ _ D.i12.symm (hs₁.extBut _ _ D.i2z e)),hl2.at λo e=>hs₃.extBut _ _ D.l2.2.1 (hs₂.extBut _ _ D.l2.2.2.1 (hs₁.extBut _ _ D.l2.1 e))⟩ λy' h₄ tk2 hy' st₄ hs₄=>Zg ?_);rw[hy]at hy';cases hy';have hTO₄:IsPair h₄ TO x b:=hs₄.extBut _ _ D.TOi2 hTO₃;refine Za (wpAny_seqItems hTO₄ rfl ?_);refine Za (wpAny_updateSeq_pair hTO₄ λh₅ hTO₅ hs₅=>?_);replace hTO₅:IsPair h₅ TO x y:=hTO₅;refine Za (wpAny_letGo (Zg (Zg ?_)));refine Za (wpAny_seqItems hTO₅ rfl ?_);refine Za (wpAny_newTuple ?_);have hsz:h₅.objs.size=s.heap.objs.size:=by rw[hs₅.1,hs₄.1,hs₃.1,hs₂.1,hs₁.1]
 have hz₅:IsZip h₅ z TI TO .ellipsis:=hs₅.extBut _ _ D.TOz.symm (hs₄.extBut _ _ D.i2z.symm (hs₃.extBut _ _ D.TOz.symm (hs₂.extBut _ _ D.i1z.symm hz₁)));have hk₅:∀c o,c≠z→c≠TO→c≠i1→c≠i2→s.heap.get? c=some o→h₅.get? c=some o:=λc o c1 c2 c3 c4 e=>hs₅.extBut _ _ c2 (hs₄.extBut _ _ c4 (hs₃.extBut _ _ c2 (hs₂.extBut _ _ c3 (hs₁.extBut _ _ c1 e))));have g1:IsIt b1 h₅ i1 l1 (k1+1):=st₂.1.at λo e=>hs₅.extBut _ _ D.TOi1.symm (hs₄.extBut _ _ D.i12 (hs₃.extBut _ _ D.TOi1.symm e));have g2:IsIt b2 h₅ i2 l2 (k2+1):=st₄.1.at λo e=>hs₅.extBut _ _ D.TOi2.symm e;have hzlt:z<h₅.objs.size:=Zk hz₅;show wpAny _ _ (Builtin.SmallTypes.ownedTupleHandOut (.ref z) (.ref h₅.objs.size)>>=_) _ _ _;refine Za ?_;unfold Builtin.SmallTypes.ownedTupleHandOut;have hz₆:IsZip (h₅.push {cls:=.type "tuple",data:=.seq #[x,y]}) z TI TO .ellipsis:=Zd _ hz₅;refine Za (wpAny_setField_rec hz₆ (by simp) λh₇ hz₇ hs₇=>?_);replace hz₇:IsZip h₇ z TI TO (rawInt h₅.objs.size):=hz₇;refine wpAny_setField_rec hz₇ (by simp) λh₈ hz₈ hs₈=>?_;replace hz₈:IsZip h₈ z TI TO (rawInt h₅.objs.size):=hz₈;have up:∀c o,c≠z→h₅.get? c=some o→h₈.get? c=some o:=λc o c1 e=>hs₈.extBut _ _ c1 (hs₇.extBut _ _ c1 (Zd _ e));have hT₈:IsPair h₈ h₅.objs.size x y:=hs₈.extBut _ _ (Nat.ne_of_gt hzlt) (hs₇.extBut _ _ (Nat.ne_of_gt hzlt) (Zn _ rfl));have hz8:h₈.objs.size=h₅.objs.size+1:=by rw[hs₈.1,hs₇.1,Heap.size_push]
 rw[hsz]at hz₈ hT₈ hz8;refine Zg ⟨_,rfl,?_⟩;show Q (.ref h₅.objs.size) _;rw[hsz];exact hQ h₈ hz₈ (up _ _ D.TOz hTO₅) (g1.at λo e=>up _ o D.i1z e) (g2.at λo e=>up _ o D.i2z e) hT₈ hz8 (λc o c1 c2 c3 c4 e=>up c o c1 (hk₅ c o c1 c2 c3 c4 e)) _
theorem a8B'(D:ZApart z TI TO i1 i2 l1 l2)(hh:A.handled=none){Q:Fin→Shared→Prop}
  (hz:IsZip s.heap z TI TO .none) (hTI:IsPair s.heap TI (.ref i1) (.ref i2)) (hTO:IsPair s.heap TO a b)
  (h1:IsIt b1 s.heap i1 l1 k1) (h2:IsIt b2 s.heap i2 l2 k2) (hl1:IsSq b1 s.heap l1 xs) (hl2:IsSq b2 s.heap l2 ys) (hend:xs[k1]?=none∨ys[k2]?=none)
  (hE:∀h' e tk,(∀c o,c≠z→c≠TO→c≠i1→c≠i2→s.heap.get? c=some o→h'.get? c=some o)→(∃o,h'.get? e=some o∧o.cls=.type "StopIteration")→E (.ref e) {s with heap:=h',toks:=tk}):
  wpAny (model prog w) A (Builtin.«zip.__next__» ⟨[.ref z],[]⟩) Q E s:=by
 have D1:=draws (prog:=prog) (w:=w) (A:=A) hh b1 i1 l1 D.l1.2.2.1 xs;have D2:=draws (prog:=prog) (w:=w) (A:=A) hh b2 i2 l2 D.l2.2.2.2 ys;show wpAny _ _ (field (.ref z) 2>>=_) _ _ _;refine Za (ZX hz rfl (x:=.bool false) rfl ?_);show wpAny _ _ (field (.ref z) 3>>=_) _ _ _;refine Za (ZX hz rfl (x:=.ref TI) rfl ?_);refine Za (wpAny_seqItems hTI rfl ?_);show wpAny _ _ (Builtin.SmallTypes.ownedTupleIsFree (.ref z)>>=_) _ _ _;refine Za ?_;unfold Builtin.SmallTypes.ownedTupleIsFree;refine Za (ZX hz rfl (x:=.none) rfl (Zg ?_));simp only[if_true];refine Za (wpAny_rule ?_);refine Za (ZX hz rfl (x:=.ref TO) rfl ?_);refine Za (wpAny_setField_rec hz (by simp) λh₁ hz₁ hs₁=>?_);replace hz₁:IsZip h₁ z TI TO .ellipsis:=hz₁;refine Za ?_;simp only[List.zipIdx_cons,List.zipIdx_nil,List.forIn_cons,List.forIn_nil];refine Za (Za (wpAny_onRaise ?_));show wpAny _ _ (Builtin.SmallTypes.nextOf (.ref i1)>>=_) _ _ _;by_cases n1:k1<xs.size
 ·have hy:ys[k2]?=none:=hend.resolve_left (by simp[n1]);refine Za (D1.item k1 _ _ _ n1 ⟨h1.at λo e=>hs₁.extBut _ _ D.i1z e,hl1.at λo e=>hs₁.extBut _ _ D.l1.1 e⟩ λx h₂ tk hx st₂ hs₂=>Zg ?_);have hTO₂:IsPair h₂ TO a b:=hs₂.extBut _ _ D.TOi1 (hs₁.extBut _ _ D.TOz hTO);refine Za (wpAny_seqItems hTO₂ rfl ?_);refine Za (wpAny_updateSeq_pair hTO₂ λh₃ hTO₃ hs₃=>?_);refine Za (wpAny_letGo (Zg ?_));refine Za (Za (wpAny_onRaise ?_));show wpAny _ _ (Builtin.SmallTypes.nextOf (.ref i2)>>=_) _ _ _;refine Za (a3a' hh (h2.at λo e=>hs₃.extBut _ _ D.TOi2.symm (hs₂.extBut _ _ D.i12.symm (hs₁.extBut _ _ D.i2z e))) (hl2.at λo e=>hs₃.extBut _ _ D.l2.2.1 (hs₂.extBut _ _ D.l2.2.2.1 (hs₁.extBut _ _ D.l2.1 e))) hy λh₄ e hs₄ he=>?_);obtain⟨oe,hoe,hce⟩:=he;have hz₄:IsZip h₄ z TI TO .ellipsis:=hs₄ _ _ D.i2z.symm (hs₃.extBut _ _ D.TOz.symm (hs₂.extBut _ _ D.i1z.symm hz₁));have hez:e≠z:=λx=>by subst x;rw[hz₄]at hoe;cases hoe;simp at hce
  exact wpAny_setField_rec hz₄ (by simp) λh₅ _ hs₅=>hE h₅ e _ (λc o c1 c2 c3 c4 x=>hs₅.extBut _ _ c1 (hs₄ _ _ c4 (hs₃.extBut _ _ c2 (hs₂.extBut _ _ c3 (hs₁.extBut _ _ c1 x))))) ⟨oe,hs₅.extBut _ _ hez hoe,hce⟩
 ·have hx:xs[k1]?=none:=by simp;omega
  refine Za (a3a' hh (h1.at λo e=>hs₁.extBut _ _ D.i1z e) (hl1.at λo e=>hs₁.extBut _ _ D.l1.1 e) hx λh₂ e hs₂ he=>?_);obtain⟨oe,hoe,hce⟩:=he;have hz₂:IsZip h₂ z TI TO .ellipsis:=hs₂ _ _ D.i1z.symm hz₁;have hez:e≠z:=λx=>by subst x;rw[hz₂]at hoe;cases hoe;simp at hce
  exact wpAny_setField_rec hz₂ (by simp) λh₃ _ hs₃=>hE h₃ e _ (λc o c1 _ c3 _ x=>hs₃.extBut _ _ c1 (hs₂ _ _ c3 (hs₁.extBut _ _ c1 x))) ⟨oe,hs₃.extBut _ _ hez hoe,hce⟩
theorem a4I'(D:ZApart z TI TO i1 i2 l1 l2)(hh:A.handled=none){x y:Value}{Q:Ov→Shared→Prop}
  (hz:IsZip s.heap z TI TO .none) (hTI:IsPair s.heap TI (.ref i1) (.ref i2)) (hTO:IsPair s.heap TO a b)
  (h1:IsIt b1 s.heap i1 l1 k1) (h2:IsIt b2 s.heap i2 l2 k2) (hl1:IsSq b1 s.heap l1 xs) (hl2:IsSq b2 s.heap l2 ys) (hx:xs[k1]?=some x) (hy:ys[k2]?=some y)
  (hQ:∀h',IsZip h' z TI TO (rawInt s.heap.objs.size)→IsPair h' TO x y→IsIt b1 h' i1 l1 (k1+1)→IsIt b2 h' i2 l2 (k2+1)→IsPair h' s.heap.objs.size x y→h'.objs.size=s.heap.objs.size+1→
   (∀c o,c≠z→c≠TO→c≠i1→c≠i2→s.heap.get? c=some o→h'.get? c=some o)→∀tk,Q (some (.ref s.heap.objs.size)) {s with heap:=h',toks:=tk}):
  wpAny (model prog w) A (pyNext (.ref z)) Q E s:=by
 have hT:s.TypeIs (.ref z) "zip":=⟨_,hz,rfl⟩;unfold pyNext
 exact Za (wpAny_attempt (wpAny_callSpecial?_slot (name:=Str.ofString "__next__") hT F.slot_zip_next
  (wpAny_call_entry F.slot_zip_next hT F.entry_zip_next (zip_go D (show A.in1.handled=none from hh) hz hTI hTO h1 h2 hl1 hl2 hx hy λh' a1 a2 a3 a4 a5 a6 a7 tk=>Zg (hQ h' a1 a2 a3 a4 a5 a6 a7 tk)) (F.args_zip_next_1 _))))
theorem a3b'(D:ZApart z TI TO i1 i2 l1 l2)(hh:A.handled=none){Q:Ov→Shared→Prop}
  (hz:IsZip s.heap z TI TO .none) (hTI:IsPair s.heap TI (.ref i1) (.ref i2)) (hTO:IsPair s.heap TO a b)
  (h1:IsIt b1 s.heap i1 l1 k1) (h2:IsIt b2 s.heap i2 l2 k2) (hl1:IsSq b1 s.heap l1 xs) (hl2:IsSq b2 s.heap l2 ys) (hend:xs[k1]?=none∨ys[k2]?=none)
  (hQ:∀h' tk,(∀c o,c≠z→c≠TO→c≠i1→c≠i2→s.heap.get? c=some o→h'.get? c=some o)→Q none {s with heap:=h',toks:=tk}):wpAny (model prog w) A (pyNext (.ref z)) Q E s:=by
 have hT:s.TypeIs (.ref z) "zip":=⟨_,hz,rfl⟩;unfold pyNext
 refine Za (wpAny_attempt (wpAny_callSpecial?_slot (name:=Str.ofString "__next__") hT F.slot_zip_next
  (wpAny_call_entry F.slot_zip_next hT F.entry_zip_next (a8B' D (show A.in1.handled=none from hh) hz hTI hTO h1 h2 hl1 hl2 hend λh' e tk hk he=>?_) (F.args_zip_next_1 _))))
 obtain⟨o,ho,hc⟩:=he;refine Za (wpAny_isInstance (T:="StopIteration") (b:=true) ⟨o,ho,hc⟩ isSubtype_stop ?_);exact Zg (hQ _ tk hk)
end
def itObj(b:Bool)(l:Addr):Obj:={cls:=.type (match b with|true=>"list_iterator"|false=>"tuple_iterator"),data:=.fields #[.ref l,.int 0 0]}
def zH1(h:Heap)(b1:Bool)(l1:Addr):Heap:=h.push (itObj b1 l1)
def zH2(h:Heap)(b1 b2:Bool)(l1 l2:Addr):Heap:=(zH1 h b1 l1).push (itObj b2 l2)
def zH3(h:Heap)(b1 b2:Bool)(l1 l2:Addr):Heap:=(zH2 h b1 b2 l1 l2).push {cls:=.type "tuple",data:=.seq #[.ref h.objs.size,.ref (zH1 h b1 l1).objs.size]}
def zH4(h:Heap)(b1 b2:Bool)(l1 l2:Addr):Heap:=(zH3 h b1 b2 l1 l2).push {cls:=.type "tuple",data:=.seq #[.none,.none]}
def zH5(h:Heap)(b1 b2:Bool)(l1 l2:Addr):Heap:=(zH4 h b1 b2 l1 l2).push {cls:=.type "zip",data:=.fields #[.none,.bool false,.bool false,.ref (zH2 h b1 b2 l1 l2).objs.size,.ref (zH3 h b1 b2 l1 l2).objs.size]}
theorem zip_new(b1 b2:Bool)(l1 l2:Addr)(xs ys:Av):
  Meets (Builtin.«zip.__new__» ⟨[.type "zip",.ref l1,.ref l2],[]⟩) (λ_ R s=>IsSq b1 s.heap l1 xs∧IsSq b2 s.heap l2 ys∧R (.ok (.ret (.ref (zH4 s.heap b1 b2 l1 l2).objs.size))) {s with heap:=zH5 s.heap b1 b2 l1 l2}):=
 .of_wp λprog w A R s h=>by
  obtain⟨hp,g,d,tk,os⟩:=s;obtain⟨hl1,hl2,h⟩:=h;have hsub:=sub_zip;have hL2:IsSq b2 (zH1 hp b1 l1) l2 ys:=hl2.at λo e=>Zd _ e;cases b1 with
  |true=>
   have hL1:Heap.IsList (Shared.heap ⟨hp,g,d,tk,os⟩) l1 xs:=hl1;cases b2 with
   |true=>
    have hL2:Heap.IsList (Shared.heap ⟨hp.push {cls:=.type "list_iterator",data:=.fields #[.ref l1,.int 0 0]},g,d,tk,os⟩) l2 ys:=hL2
    wp_walk using wpAny_pyIter_list hL1,wpAny_pyIter_list hL2
    exact⟨_,rfl,h⟩
   |false=>
    have hL2:Heap.IsTuple (Shared.heap ⟨hp.push {cls:=.type "list_iterator",data:=.fields #[.ref l1,.int 0 0]},g,d,tk,os⟩) l2 ys:=hL2
    wp_walk using wpAny_pyIter_list hL1,wpAny_pyIter_tuple hL2
    exact⟨_,rfl,h⟩
  |false=>
   have hL1:Heap.IsTuple (Shared.heap ⟨hp,g,d,tk,os⟩) l1 xs:=hl1;cases b2 with
   |true=>
    have hL2:Heap.IsList (Shared.heap ⟨hp.push {cls:=.type "tuple_iterator",data:=.fields #[.ref l1,.int 0 0]},g,d,tk,os⟩) l2 ys:=hL2
    wp_walk using wpAny_pyIter_tuple hL1,wpAny_pyIter_list hL2
    exact⟨_,rfl,h⟩
   |false=>
    have hL2:Heap.IsTuple (Shared.heap ⟨hp.push {cls:=.type "tuple_iterator",data:=.fields #[.ref l1,.int 0 0]},g,d,tk,os⟩) l2 ys:=hL2
    wp_walk using wpAny_pyIter_tuple hL1,wpAny_pyIter_tuple hL2
    exact⟨_,rfl,h⟩
theorem a5L'{b:Bool}{l:Addr}(e:h.get? it=some (itObj b l)):IsIt b h it l 0:=by
 cases b with
 |true=>exact⟨_,e,rfl,rfl⟩
 |false=>exact⟨_,e,rfl,rfl⟩
theorem a8C'{l1 l2:Addr}{xs ys:Av}(hl1:IsSq b1 s.heap l1 xs)(hl2:IsSq b2 s.heap l2 ys)
  (h:∀h',IsZip h' (s.heap.objs.size+4) (s.heap.objs.size+2) (s.heap.objs.size+3) .none→IsPair h' (s.heap.objs.size+2) (.ref s.heap.objs.size) (.ref (s.heap.objs.size+1))→
   IsPair h' (s.heap.objs.size+3) .none .none→IsIt b1 h' s.heap.objs.size l1 0→IsIt b2 h' (s.heap.objs.size+1) l2 0→h'.objs.size=s.heap.objs.size+5→
   (∀c o,s.heap.get? c=some o→h'.get? c=some o)→Q (.ref (s.heap.objs.size+4)) {s with heap:=h'}):
  wpAny (model prog w) A (call (.type "zip") [.ref l1,.ref l2]) Q E s:=by
 refine callType_new F.called_zip (by decide) (F.typeCall_zip_2 _ _) (F.newCall_zip_2 _ _) (λobj=>F.args_object_init_3 obj _ _) F.entry_zip_new (zip_new b1 b2 l1 l2 xs ys) ⟨hl1,hl2,?_⟩;have z1:(zH1 s.heap b1 l1).objs.size=s.heap.objs.size+1:=Heap.size_push ..;have z2:(zH2 s.heap b1 b2 l1 l2).objs.size=s.heap.objs.size+2:=by unfold zH2;rw[Heap.size_push,z1]
 have z3:(zH3 s.heap b1 b2 l1 l2).objs.size=s.heap.objs.size+3:=by unfold zH3;rw[Heap.size_push,z2]
 have z4:(zH4 s.heap b1 b2 l1 l2).objs.size=s.heap.objs.size+4:=by unfold zH4;rw[Heap.size_push,z3]
 have z5:(zH5 s.heap b1 b2 l1 l2).objs.size=s.heap.objs.size+5:=by unfold zH5;rw[Heap.size_push,z4]
 have g5:(zH5 s.heap b1 b2 l1 l2).get? (zH4 s.heap b1 b2 l1 l2).objs.size=some _:=Zn _ rfl;have g4:(zH5 s.heap b1 b2 l1 l2).get? (zH3 s.heap b1 b2 l1 l2).objs.size=some _:=Zd _ (Zn _ rfl);have g3:(zH5 s.heap b1 b2 l1 l2).get? (zH2 s.heap b1 b2 l1 l2).objs.size=some _:=Zd _ (Zd _ (Zn _ rfl));have g2:(zH5 s.heap b1 b2 l1 l2).get? (zH1 s.heap b1 l1).objs.size=some (itObj b2 l2):=Zd _ (Zd _ (Zd _ (Zn _ (by cases b2<;>rfl))));have g1:(zH5 s.heap b1 b2 l1 l2).get? s.heap.objs.size=some (itObj b1 l1):=Zd _ (Zd _ (Zd _ (Zd _ (Zn _ (by cases b1<;>rfl)))));show _∧_;rw[z2,z3,z4]at g5;rw[z1,z2]at g3;rw[z3]at g4;rw[z1]at g2;rw[z4]
 exact⟨⟨_,g5,rfl⟩,h _ g5 g3 g4 (a5L' g1) (a5L' g2) z5 λc o x=>
  Zd _ (Zd _ (Zd _ (Zd _ (Zd _ x))))⟩
def SqB(b:Bool)(K:Fg)(H:Hp)(l:Addr)(xs:List V):Prop:=match b with
 |true=>SqL K H l xs
 |false=>SqT K H l xs
def Itz(K:Fg)(b1 b2:Bool)(l1 l2:Addr):It:=
 ⟨λi H=>∃xs ys x y,SqB b1 K H l1 xs∧SqB b2 K H l2 ys∧xs[i]?=some x∧ys[i]?=some y,
  λi H v H'=>∃T x y,v=.ref T∧H T=none∧H'=upd H T (.tup [x,y])∧(∀xs,SqB b1 K H l1 xs→xs[i]?=some x)∧(∀ys,SqB b2 K H l2 ys→ys[i]?=some y),
  λi H=>∃xs ys,SqB b1 K H l1 xs∧SqB b2 K H l2 ys∧(xs.length≤i∨ys.length≤i)⟩
theorem a4J'{b:Bool}{l:Addr}(I:Inv X pq σ H s)(h:SqB b X.K H l xs):∃its,Vals xs its∧IsSq b s.heap l its.toArray:=by
 cases b with
 |true=>obtain⟨its,r,p,_⟩:=I.list h;exact⟨its,r,p.isList⟩
 |false=>obtain⟨its,r,p,_⟩:=I.tuple h;exact⟨its,r,p⟩
theorem a7G'{b:Bool}{l:Addr}(I:Inv X pq σ H s)(h:SqB b X.K H l xs)(h':SqB b X.K H l ys):xs=ys:=by
 cases b with
 |true=>exact I.list_inj h h'
 |false=>exact I.tuple_inj h h'
theorem a1i'{b:Bool}{l c:Addr}(I:Inv X pq σ H s)(h:SqB b X.K H l xs)(hf:FpOk X pq H c):l≠c:=by
 have kl:∀{o:Obj},X.K.lookup l=some o→l≠c:=λ{o} e=>by
  have e1:X.base.get? l=some o:=I.mod.kin l o e;rintro rfl;rcases hf.2.2.2.1 with z|z
  ·exact I.ok.noex l o e1 z
  ·exact absurd (Zv (Zk e1) (ZE I.ok.bsz z)) (Nat.lt_irrefl _)
 have hl:∀{o:HO},H l=some o→l≠c:=λ{o} e=>by rintro rfl;rw[hf.1]at e;cases e
 cases b with
 |true=>
  rcases h with(h| ⟨o,h⟩)| ⟨o,its,n,h,_⟩
  ·exact hl h
  ·exact hl h
  ·exact kl h
 |false=>
  rcases h with(h| ⟨o,h⟩)| ⟨o,its,n,h,_⟩
  ·exact hl h
  ·exact hl h
  ·exact kl h
theorem a5M'{t':Nat}(I:Inv X pq σ H s)(k:∀b o,b∉ch→s.heap.get? b=some o→h'.get? b=some o)(hf:∀b∈ch,FpOk X pq H b):Inv X pq σ H {s with heap:=h',toks:=t'}:=by
 have nit:∀b u,H b=some u→b∉ch:=λb u e z=>by rw[(hf b z).1]at e;cases e
 refine I.step (g':=s.gens) (d':=s.drawn) (ch:=ch) (λb hb=>?_) (λb o _ _ hc e _=>k b o hc e) (λb o _ _ hc e _=>⟨o.slots,k b o hc e⟩) (λ_ _ _ _ n=>n)
  (λb o hc e=>⟨o,k b o hc e⟩) (λ_ _ e=>e) (λ_ _ _ e=>e) (λb ps e=>⟨#[],by rw[e];simp⟩) (λm hm=>?_) (λb u e=>?_) I.bare
 ·obtain⟨_,f1,_,f3,f4,f5⟩:=hf b hb;exact⟨f3,f1,f4,f5⟩
 ·obtain⟨o,es,ep,ho,r⟩:=hm;exact⟨o,es,ep,k _ o (λz=>(hf _ z).2.1 rfl) ho,r⟩
 ·refine(I.hok b u e).stay (λc v hc q=>k c v ?_ q) (λ_ q=>q) λ_ _ q=>q;rcases hc with z|z
  ·rw[z];exact nit b u e
  ·exact nit c _ z
def ztn(b b':Bool)(z TI TO i1 i2 l1 l2:Addr)(i:Nat)(h:Heap):Prop:=IsZip h z TI TO .none∧IsPair h TI (.ref i1) (.ref i2)∧(∃a b,IsPair h TO a b)∧IsIt b h i1 l1 i∧IsIt b' h i2 l2 i
theorem a8D'{x1}{pos:Pos}(b b':Bool)(z TI TO i1 i2 l1 l2:Addr)(n1:TI≠z)(n2:TO≠z)(n3:i1≠z)(n4:i2≠z)(n5:TI≠TO)(n6:TI≠i1)(n7:TI≠i2)(n8:TO≠i1)(n9:TO≠i2)(n10:i1≠i2):
  Turn P w K (.Tuple es x1 pos) (Itz K b b' l1 l2) [z,TI,TO,i1,i2] z (ztn b b' z TI TO i1 i2 l1 l2) where
 mem:=by simp
 obj:=λi h ⟨hz,hTI,⟨a,c,hTO⟩,h1,h2⟩ d hd=>by
  simp only[Zo,List.not_mem_nil,or_false]at hd;rcases hd with rfl|rfl|rfl|rfl|rfl
  ·exact⟨_,hz,λv q=>by have q':Data.fields _=Data.cell v:=q;cases q'⟩
  ·exact⟨_,hTI,λv q=>by have q':Data.seq _ _=Data.cell v:=q;cases q'⟩
  ·exact⟨_,hTO,λv q=>by have q':Data.seq _ _=Data.cell v:=q;cases q'⟩
  ·exact h1.obj
  ·exact h2.obj
 keep:=λi h h' ⟨hz,hTI,⟨a,c,hTO⟩,h1,h2⟩ k=>⟨k z (by simp) _ hz,k TI (by simp) _ hTI,⟨a,c,k TO (by simp) _ hTO⟩,h1.at λo e=>k i1 (by simp) o e,h2.at λo e=>k i2 (by simp) o e⟩
 item:=by
  intro X hP hw hK hc i pq s σ H E I hf st hg;subst hP hw hK;obtain⟨hz,hTI,⟨a,c,hTO⟩,h1,h2⟩:=st;obtain⟨xs,ys,x,y,q1,q2,ex,ey⟩:=hg;obtain⟨us,r1,s1⟩:=a4J' I q1;obtain⟨ws,r2,s2⟩:=a4J' I q2;obtain⟨u,eu,ru⟩:=r1.get ex;obtain⟨v,ev,rv⟩:=r2.get ey
  have Dp:ZApart z TI TO i1 i2 l1 l2:=⟨n1,n2,n3,n4,n5,n6,n7,n8,n9,n10,⟨a1i' I q1 (hf z (by simp)),a1i' I q1 (hf TO (by simp)),a1i' I q1 (hf i1 (by simp)),a1i' I q1 (hf i2 (by simp))⟩,
   ⟨a1i' I q2 (hf z (by simp)),a1i' I q2 (hf TO (by simp)),a1i' I q2 (hf i1 (by simp)),a1i' I q2 (hf i2 (by simp))⟩⟩
  refine a4I' Dp (I.ok.hd hc) hz hTI hTO h1 h2 s1 s2 (x:=u) (y:=v) (by simpa using eu) (by simpa using ev) λh' a1 a2 a3 a4 a5 a6 kk tk=>?_;refine⟨_,rfl,?_⟩;refine wpAny_letOwnedTupleGo_zip (s:={s with heap:=h',toks:=tk}) a1 λh2' b1 sb=>?_;have hTn:H s.heap.objs.size=none:=I.hok.fresh (Zi _)
  have kk2:∀c o,c∉[z,TI,TO,i1,i2]→s.heap.get? c=some o→h2'.get? c=some o:=λc o hc e=>by simp only[Zo,List.not_mem_nil,or_false,not_or]at hc;exact(sb.2 c hc.1).trans (kk c o hc.1 hc.2.2.1 hc.2.2.2.1 hc.2.2.2.2 e)
  have I1:Inv X pq σ H {s with heap:=h2',toks:=tk}:=a5M' I kk2 hf
  have hTz:∀c∈[z,TI,TO,i1,i2],s.heap.objs.size≠c:=λc hc e=>by
   obtain⟨o,q,_⟩:∃o,s.heap.get? c=some o∧True:=by
    simp only[Zo,List.not_mem_nil,or_false]at hc;rcases hc with rfl|rfl|rfl|rfl|rfl
    ·exact⟨_,hz,trivial⟩
    ·exact⟨_,hTI,trivial⟩
    ·exact⟨_,hTO,trivial⟩
    ·exact⟨_,h1.obj.choose_spec.1,trivial⟩
    ·exact⟨_,h2.obj.choose_spec.1,trivial⟩
   exact absurd (Zk q) (by rw[e];exact Nat.lt_irrefl _)
  have hT2:IsPair h2' s.heap.objs.size u v:=(sb.2 _ (hTz z (by simp))).trans a5
  have I2:Inv X pq σ (upd H s.heap.objs.size (.tup [x,y])) {s with heap:=h2',toks:=tk}:=by
   have Im:Inv X pq σ (upd H s.heap.objs.size (.tup [x,y])) {s with heap:=s.heap.push {cls:=.type "tuple",data:=.seq #[u,v]},toks:=s.toks}:=
    I.laid (λb o e=>Zd _ e) (Zi _) ⟨by show 2≤sizeLine;decide,[u,v],.cons ru (.cons rv .nil),⟨_,Zn _ rfl,rfl,_,rfl⟩,_,Zn _ rfl,rfl⟩
   refine a5M' (s:={s with heap:=s.heap.push {cls:=.type "tuple",data:=.seq #[u,v]},toks:=s.toks}) Im (ch:=[z,TI,TO,i1,i2]) (λb o hb e=>?_) λb hb=>?_
   ·rcases Heap.get?_push_cases e with⟨rfl,rfl⟩|e'
    ·exact hT2
    ·exact kk2 b o hb e'
   ·obtain⟨f0,f1⟩:=hf b hb;exact⟨by rw[a0e' (λe=>hTz b hb e.symm)];exact f0,f1⟩
  refine⟨.ref s.heap.objs.size,upd H s.heap.objs.size (.tup [x,y]),I2,rfl,⟨s.heap.objs.size,x,y,rfl,hTn,rfl,λzs hq=>by rw[a7G' I hq q1];exact ex,λzs hq=>by rw[a7G' I hq q2];exact ey⟩,
   ⟨b1,(sb.2 TI n1).trans (kk TI _ n1 n5 n6 n7 hTI),⟨u,v,(sb.2 TO n2).trans a2⟩,a3.at λo e=>(sb.2 i1 n3).trans e,a4.at λo e=>(sb.2 i2 n4).trans e⟩,λc hc=>?_⟩
  rw[a0e' (λe=>hTz c hc e.symm)];exact(hf c hc).1
 done:=by
  intro X hP hw hK hc i pq s σ H E I hf st hg;subst hP hw hK;obtain⟨hz,hTI,⟨a,c,hTO⟩,h1,h2⟩:=st;obtain⟨xs,ys,q1,q2,en⟩:=hg;obtain⟨us,r1,s1⟩:=a4J' I q1;obtain⟨ws,r2,s2⟩:=a4J' I q2;have hl1:=r1.length;have hl2:=r2.length
  have Dp:ZApart z TI TO i1 i2 l1 l2:=⟨n1,n2,n3,n4,n5,n6,n7,n8,n9,n10,⟨a1i' I q1 (hf z (by simp)),a1i' I q1 (hf TO (by simp)),a1i' I q1 (hf i1 (by simp)),a1i' I q1 (hf i2 (by simp))⟩,
   ⟨a1i' I q2 (hf z (by simp)),a1i' I q2 (hf TO (by simp)),a1i' I q2 (hf i1 (by simp)),a1i' I q2 (hf i2 (by simp))⟩⟩
  refine a3b' Dp (I.ok.hd hc) hz hTI hTO h1 h2 s1 s2 (en.elim (λen=>.inl (by simp;omega)) λen=>.inr (by simp;omega)) λh' tk kk=>?_;refine⟨rfl,a5M' I (ch:=[z,TI,TO,i1,i2]) (λc o hc e=>?_) hf⟩;simp only[Zo,List.not_mem_nil,or_false,not_or]at hc;exact kk c o hc.1 hc.2.2.1 hc.2.2.2.1 hc.2.2.2.2 e
 self:=λ_ _ _ _ _ st h=>wpAny_pyIter_zip st.1 h
structure Chg (K:Fg)(F:La)(μ:La)(H:Hp)(F':La)(μ':La)(H':Hp):Prop where
 tup:∀a vs,SqT K H a vs→SqT K H' a vs
 lst:∀a vs,H a=some (.lst vs)→a∉μ→a∉F→H' a=some (.lst vs)∧a∉μ'∧a∉F'
 frz:∀a vs,Frz K H a vs→Frz K H' a vs
 box:∀(n:Nat) a,μ[n]?=some a→μ'[n]?=some a
 dct:∀a,H a=some (.dK [])→H' a=some (.dK [])
section
variable {F':La}
mutual
theorem Rep.chg(x:Chg K F μ H F' μ' H'):∀(d:D) (v:V),Rep K ⟨mg,F⟩ μ H d v→Rep K ⟨mg,F'⟩ μ' H' d v
 | .non,_,h=>h
 | .bl _,_,h=>h
 | .int _,_,h=>h
 | .str _,_,h=>h
 | .tup ds,v,h=>by unfold Rep at h⊢;obtain⟨a,vs,e,q,r⟩:=h;exact⟨a,vs,e,x.tup a vs q,RepL.chg x ds vs r⟩
 | .lst ds,v,h=>by unfold Rep at h⊢;obtain⟨a,vs,e,q,n,r⟩:=h;obtain⟨h1,h2,h3⟩:=x.lst a vs q n.1 n.2;exact⟨a,vs,e,h1,⟨h2,h3⟩,RepL.chg x ds vs r⟩
 | .scr ds,v,h=>by unfold Rep at h⊢;obtain⟨a,vs,e,q,r⟩:=h;exact⟨a,vs,e,x.frz a vs q,RepL.chg x ds vs r⟩
 | .ref n,v,h=>by unfold Rep at h⊢;obtain⟨a,e,q⟩:=h;exact⟨a,e,x.box n a q⟩
 | .fn y,v,h=>h
 | .ty y,v,h=>h
 | .dct,v,h=>by unfold Rep at h⊢;obtain⟨a,e,q⟩:=h;exact⟨a,e,x.dct a q⟩
theorem RepL.chg(x:Chg K F μ H F' μ' H'):∀(ds:List D) (vs:List V),RepL K ⟨mg,F⟩ μ H ds vs→RepL K ⟨mg,F'⟩ μ' H' ds vs
 | [],vs,h=>h
 |d::ds,vs,h=>by unfold RepL at h⊢;obtain⟨w,ws,e,r,q⟩:=h;exact⟨w,ws,e,Rep.chg x d w r,RepL.chg x ds ws q⟩
end
theorem EnvR.chg(x:Chg K F μ H F' μ' H')(h:EnvR K ⟨mg,F⟩ μ H ρ σ):EnvR K ⟨mg,F'⟩ μ' H' ρ σ:=
 ⟨h.1,λi d e=>let⟨v,a,b⟩:=h.2 i d e;⟨v,a,Rep.chg x _ _ b⟩⟩
theorem Chg.start(h:H acc=none):Chg K F μ H (acc::F) μ (upd H acc o):=by
 have x:Ext μ H μ (upd H acc o):=.laid h;refine⟨λa vs q=>x.sqT q,λa vs q h1 h2=>⟨(x.lst q h1).1,h1,λz=>?_⟩,λa vs q=>x.frz q,λn a q=>q,λa q=>x.keep _ _ q (.inl λ_ z=>by cases z)⟩;rcases Zo.mp z with rfl|z
 ·rw[h]at q;cases q
 ·exact h2 z
theorem Chg.more(ha:acc∈F)(h:H acc=some (.lst xs)):Chg K F μ H F μ (upd H acc (.lst ys)):=by
 have ne:∀{a:Addr} {o:HO},H a=some o→(∀zs,o≠.lst zs)→a≠acc:=λe n z=>by subst z;rw[h]at e;cases e;exact n _ rfl
 refine⟨λa vs q=>?_,λa vs q h1 h2=>⟨?_,h1,h2⟩,λa vs q=>?_,λn a q=>q,λa q=>?_⟩
 ·rcases q with(q| ⟨o,q⟩)|q
  ·exact .inl (.inl (by rw[a0e' (ne q λ_ z=>by cases z)];exact q))
  ·exact .inl (.inr ⟨o,by rw[a0e' (ne q λ_ z=>by cases z)];exact q⟩)
  ·exact .inr q
 ·have:a≠acc:=λz=>by subst z;exact h2 ha
  rw[a0e' this];exact q
 ·rcases q with⟨o,q⟩|q
  ·exact .inl ⟨o,by rw[a0e' (ne q λ_ z=>by cases z)];exact q⟩
  ·exact .inr q
 ·rw[a0e' (ne q λ_ z=>by cases z)];exact q
theorem Chg.out:Chg K (acc::F) μ H F μ H:=
 ⟨λ_ _ q=>q,λa vs q h1 h2=>⟨q,h1,λz=>h2 (Zb _ z)⟩,λ_ _ q=>q,λ_ _ q=>q,λ_ q=>q⟩
theorem Chg.outBox:Chg K (acc::F) μ H F (μ++[acc]) H:=by
 refine⟨λ_ _ q=>q,λa vs q h1 h2=>⟨q,λz=>?_,λz=>h2 (Zb _ z)⟩,λ_ _ q=>q,λn a q=>?_,λ_ q=>q⟩
 ·rcases ZC.mp z with z|z
  ·exact h1 z
  ·have:a=acc:=by simpa using z
   subst this;exact h2 Zc
 ·rw[Zm (Ze.mp q).1];exact q
theorem SOk.start(s:SOk K ⟨mg,F⟩ μ S H)(h:H acc=none):SOk K ⟨mg,acc::F⟩ μ S (upd H acc o):=by
 have x:Ext μ H μ (upd H acc o):=.laid h;refine⟨λa ha=>?_,s.len,s.nd,λn a ds h1 h2=>?_⟩
 ·rcases Zo.mp ha with rfl|ha
  ·exact⟨o,a0h'⟩
  ·obtain⟨o',q⟩:=s.live a ha;exact x.there a o' q
 ·obtain⟨vs,q,r⟩:=s.at_ n a ds h1 h2;exact⟨vs,by rw[a0e' (a0c' q h)];exact q,RepL.chg (.start h) _ _ r⟩
theorem SOk.more(s:SOk K ⟨mg,F⟩ μ S H)(ha:acc∈F)(hm:acc∉μ)(h:H acc=some (.lst xs)):SOk K ⟨mg,F⟩ μ S (upd H acc (.lst ys)):=by
 refine⟨λa hb=>?_,s.len,s.nd,λn a ds h1 h2=>?_⟩
 ·by_cases e:a=acc
  ·subst e;exact⟨_,a0h'⟩
  ·obtain⟨o',q⟩:=s.live a hb;exact⟨o',by rw[a0e' e];exact q⟩
 ·obtain⟨vs,q,r⟩:=s.at_ n a ds h1 h2;have:a≠acc:=λz=>by subst z;exact hm (Zw h1)
  exact⟨vs,by rw[a0e' this];exact q,RepL.chg (.more ha h) _ _ r⟩
theorem SOk.out(s:SOk K ⟨mg,acc::F⟩ μ S H):SOk K ⟨mg,F⟩ μ S H:=
 ⟨λa ha=>s.live a (Zb _ ha),s.len,s.nd,λn a ds h1 h2=>by obtain⟨vs,q,r⟩:=s.at_ n a ds h1 h2;exact⟨vs,q,RepL.chg .out _ _ r⟩⟩
theorem SOk.outBox{ys:List D}{vs:List V}(s:SOk K ⟨mg,acc::F⟩ μ S H)(hm:acc∉μ)(h:H acc=some (.lst vs))(r:RepL K ⟨mg,acc::F⟩ μ H ys vs):SOk K ⟨mg,F⟩ (μ++[acc]) (S++[ys]) H:=by
 refine⟨λa ha=>s.live a (Zb _ ha),by simp[s.len],?_,λn a es h1 h2=>?_⟩
 ·rw[List.nodup_append]
  exact⟨s.nd,by simp,λa ha b hb=>by
   have:b=acc:=by simpa using hb
   subst this;intro z;subst z;exact hm ha⟩
 ·have hl:=s.len;by_cases hn:n<μ.length
  ·rw[Zm hn]at h1;rw[Zm (by omega)]at h2;obtain⟨ws,q,r'⟩:=s.at_ n a es h1 h2;exact⟨ws,q,RepL.chg .outBox _ _ r'⟩
  ·have e1:n=μ.length:=by
    have:=(Ze.mp h1).1;simp at this;omega
   subst e1;rw[Zr (Zi _)]at h1;rw[Zr (by omega)]at h2;simp[hl]at h1 h2;subst h1;subst h2;exact⟨vs,h,RepL.chg .outBox _ _ r⟩
theorem Ext.more(x:Ext μ H μ1 H1)(h:H acc=none):Ext μ H μ1 (upd H1 acc o):=
 ⟨x.pre,λa u e c=>by rw[a0e' (a0c' e h)];exact x.keep a u e c,λa u e=>by rw[a0e' (a0c' e h)];exact x.there a u e,x.fresh⟩
theorem Ext.outBox(x:Ext μ H μ1 H1)(h:H acc=none):Ext μ H (μ1++[acc]) H1:=by
 obtain⟨r,e⟩:=x.pre;refine⟨⟨r++[acc],by rw[e,Zs]⟩,x.keep,x.there,λa ha=>?_⟩;rcases ZC.mp ha with ha|ha
 ·exact x.fresh a ha
 ·have:a=acc:=by simpa using ha
  subst this;exact .inr h
end
def getOf:Its→Store→Nat→Option (Option D)
 | .items xs=>λ_ i=>some xs[i]?
 | .live _ get=>get
def ItOk(K:Fg)(mg:GS)(J:It)(get:Store→Nat→Option (Option D))(μ:La)(H:Hp):Prop:=
 ∀(i:Nat) μ' S' H' F',Chg K mg.F μ H F' μ' H'→SOk K ⟨mg.mg,F'⟩ μ' S' H'→
  (∀x,get S' i=some (some x)→J.go i H'∧∀y H'',J.yld i H' y H''→Ext μ' H' μ' H''∧SOk K ⟨mg.mg,F'⟩ μ' S' H''∧Rep K ⟨mg.mg,F'⟩ μ' H'' x y)∧(get S' i=some none→J.stop i H')
def tI(K:Fg)(mg:Mg)(E:XK)(Φ:FT)(Γ:Str→Option D)(c:CE):TI:=λσ H R=>∃F μ ρ S,SOk K ⟨mg,F⟩ μ S H∧EnvR K ⟨mg,F⟩ μ H ρ σ∧WantG K ⟨mg,F⟩ E (λμ' H' its J=>ItOk K ⟨mg,F⟩ J (getOf its) μ' H') μ H R (denI Φ Γ c ρ S)
theorem Chg.refl:Chg K F μ H F μ H:=⟨λ_ _ q=>q,λ_ _ q h1 h2=>⟨q,h1,h2⟩,λ_ _ q=>q,λ_ _ q=>q,λ_ q=>q⟩
theorem Chg.trans{F1 F2 μ2:La}{H2:Hp}(a:Chg K F μ H F1 μ1 H1)(b:Chg K F1 μ1 H1 F2 μ2 H2):Chg K F μ H F2 μ2 H2:=
 ⟨λx vs q=>b.tup x vs (a.tup x vs q),λx vs q h1 h2=>by obtain⟨p1,p2,p3⟩:=a.lst x vs q h1 h2;exact b.lst x vs p1 p2 p3,λx vs q=>b.frz x vs (a.frz x vs q),λn x q=>b.box n x (a.box n x q),λx q=>b.dct x (a.dct x q)⟩
theorem Chg.of_ext{F':La}(x:Ext μ H μ' H')(hF:∀a∈F',a∈F∨H a=none):Chg K F μ H F' μ' H':=by
 refine⟨λa vs q=>x.sqT q,λa vs q h1 h2=>⟨(x.lst q h1).1,(x.lst q h1).2,λz=>?_⟩,λa vs q=>x.frz q,λn a q=>x.get q,λa q=>x.keep _ _ q (.inl λ_ z=>by cases z)⟩;rcases hF a z with z|z
 ·exact h2 z
 ·rw[q]at z;cases z
section
variable {E:XK}{l:Expr}{pos:Pos}{c:CE}
theorem a2I'{R:It→Hp→Prop}(I:Inv X pq σ H s)(hq:SqL X.K H a xs)(q:R (Itl X.K a) H):wpAny (model X.prog X.w) X.A (pyIter (.ref a)) (PIE X pq σ tg R) E' s:=by
 obtain⟨its,rv,p,hz⟩:=I.list hq;refine wpAny_pyIter_list p.isList ?_;refine⟨s.heap.objs.size,[s.heap.objs.size],_,_,H,rfl,I.kept (t':=s.toks) λb o e=>Zd _ e,a6C' a _,⟨_,Zn _ rfl,rfl,rfl⟩,λb hb=>?_,q⟩;have e:b=s.heap.objs.size:=by simpa using hb
 subst e;exact I.fpOk (Zi _) (I.hok.fresh (Zi _))
theorem a8E'{R:It→Hp→Prop}(I:Inv X pq σ H s)(hq:SqT X.K H a xs)(q:R (Itt X.K a) H):wpAny (model X.prog X.w) X.A (pyIter (.ref a)) (PIE X pq σ tg R) E' s:=by
 obtain⟨its,rv,p,hz⟩:=I.tuple hq;refine wpAny_pyIter_tuple (show s.heap.IsTuple a its.toArray from p) ?_;refine⟨s.heap.objs.size,[s.heap.objs.size],_,_,H,rfl,I.kept (t':=s.toks) λb o e=>Zd _ e,a5c' a _,⟨_,Zn _ rfl,rfl,rfl⟩,λb hb=>?_,q⟩;have e:b=s.heap.objs.size:=by simpa using hb
 subst e;exact I.fpOk (Zi _) (I.hok.fresh (Zi _))
theorem a4m'{mg:GS}{vs:List V}{i:Nat}(r:RepL K mg μ H ds vs)(h:getOf (.items ds) S i=some none):vs.length≤i:=by
 have h1:ds[i]?=none:=by simpa[getOf]using h
 have h2:=List.getElem?_eq_none_iff.mp h1;have hl:=r.length;omega
theorem a4n'{mg:GS}{vs:List V}(hq:∀F' μ' H',Chg K mg.F μ H F' μ' H'→SqL K H' a vs)(r:RepL K mg μ H ds vs):ItOk K mg (Itl K a) (getOf (.items ds)) μ H:=by
 intro i μ' S' H' F' ch sk;have hl:=r.length;refine⟨λy hy=>?_,λhi=>⟨vs,hq _ _ _ ch,a4m' r hi⟩⟩;have hy:ds[i]?=some y:=by simpa[getOf]using hy
 obtain⟨v,h1,h2⟩:=r.get hy;refine⟨⟨vs,v,hq _ _ _ ch,h1⟩,λz H'' hz=>?_⟩;obtain⟨rfl,hz⟩:=hz;have e:=hz vs (hq _ _ _ ch);rw[h1]at e;cases e;exact⟨.refl,sk,Rep.chg ch _ _ h2⟩
theorem a8F'{mg:GS}{vs:List V}(hq:SqT K H a vs)(r:RepL K mg μ H ds vs):ItOk K mg (Itt K a) (getOf (.items ds)) μ H:=by
 intro i μ' S' H' F' ch sk;have hl:=r.length;refine⟨λy hy=>?_,λhi=>⟨vs,ch.tup _ _ hq,a4m' r hi⟩⟩;have hy:ds[i]?=some y:=by simpa[getOf]using hy
 obtain⟨v,h1,h2⟩:=r.get hy;refine⟨⟨vs,v,ch.tup _ _ hq,h1⟩,λz H'' hz=>?_⟩;obtain⟨rfl,hz⟩:=hz;have e:=hz vs (ch.tup _ _ hq);rw[h1]at e;cases e;exact⟨.refl,sk,Rep.chg ch _ _ h2⟩
theorem a8G'{mg:GS}(hn:μ[n]?=some a):ItOk K mg (Itl K a) (a6Q' n) μ H:=by
 intro i μ' S' H' F' ch sk;have hl:n<S'.length:=by rw[←sk.len];exact(Ze.mp (ch.box _ _ hn)).1
 have hy:S'[n]?=some S'[n]:=Zh hl;obtain⟨vs,h1,r⟩:=sk.at_ n a _ (ch.box _ _ hn) hy;have hl:=r.length;refine⟨λy hy'=>?_,λhi=>⟨vs,.of h1,?_⟩⟩
 ·unfold a6Q' at hy';rw[hy]at hy';simp only[Option.map_some,Option.some.injEq]at hy';obtain⟨v,h2,h3⟩:=r.get hy';refine⟨⟨vs,v,.of h1,h2⟩,λz H'' hz=>?_⟩;obtain⟨rfl,hz⟩:=hz;have e:=hz vs (.of h1);rw[h2]at e;cases e;exact⟨.refl,sk,h3⟩
 ·unfold a6Q' at hi;rw[hy]at hi;simp only[Option.map_some,Option.some.injEq]at hi;have:=List.getElem?_eq_none_iff.mp hi;omega
theorem i_seq(ha:PE X l (tE X.K X.mg E Φ Γ c)):PI X tg l (tI X.K X.mg E Φ Γ (.seq c)):=by
 intro pq s σ H R I h;obtain⟨F,μ,ρ,S,sk,en,w⟩:=h;refine thn (ha pq s σ H _ I ⟨F,μ,ρ,S,sk,en,WantG.bind w⟩) λu s1 ⟨v,H1,I1,rv,μ1,S1,d,x1,s1k,rd,w1⟩=>?_;cases d with
 |tup ds=>obtain⟨a,vs,rfl,hq,r⟩:=a0m' rd;cases rv;exact a8E' I1 hq (w1 μ1 H1 _ .refl s1k (a8F' hq r))
 |lst ds=>unfold Rep at rd;obtain⟨a,vs,rfl,hq,hn,r⟩:=rd;cases rv;exact a2I' I1 (.of hq) (w1 μ1 H1 _ .refl s1k (a4n' (λF' μ' H' ch=>.of (ch.lst a vs hq hn.1 hn.2).1) r))
 |scr ds=>unfold Rep at rd;obtain⟨a,vs,rfl,hq,r⟩:=rd;cases rv;exact a2I' I1 hq.sq (w1 μ1 H1 _ .refl s1k (a4n' (λF' μ' H' ch=>(ch.frz a vs hq).sq) r))
 |ref n=>
  have rd':=rd;unfold Rep at rd;obtain⟨a,rfl,hn⟩:=rd;cases rv;have hl:n<S1.length:=by rw[←s1k.len];exact(Ze.mp hn).1
  obtain⟨vs,h1,r⟩:=s1k.at_ n a _ hn (Zh hl);exact a2I' I1 (.of h1) (w1 μ1 H1 _ .refl s1k (a8G' hn))
 |_=>exact w1.elim
theorem a1K'(lo:Int)(n:Nat):(a2i' lo n).length=n:=by
 induction n generalizing lo with
 |zero=>rfl
 |succ n ih=>unfold a2i';rw[ZF,ih]
theorem a5N'(lo:Int)(n i:Nat)(h:i<n):(a2i' lo n)[i]?=some (.int (lo+i)):=by
 induction n generalizing lo i with
 |zero=>omega
 |succ n ih=>
  unfold a2i';cases i with
  |zero=>simp
  |succ i=>rw[List.getElem?_cons_succ,ih (lo+1) i (by omega)];congr 2;omega
theorem a3c'{mg:GS}(lo:Int)(n:Nat):ItOk K mg (Itr lo n) (getOf (.items (a2i' lo n))) μ H:=by
 intro i μ' S' H' F' ch sk;refine⟨λy hy=>?_,λhi=>?_⟩
 ·have hy:(a2i' lo n)[i]?=some y:=by simpa[getOf]using hy
  have hi:i<n:=by have:=(Ze.mp hy).1;rwa [a1K']at this
  rw[a5N' lo n i hi]at hy;cases hy;refine⟨hi,λz H'' hz=>?_⟩;obtain⟨rfl,rfl⟩:=hz;exact⟨.refl,sk,a0H'⟩
 ·have:(a2i' lo n)[i]?=none:=by simpa[getOf]using hi
  have:=List.getElem?_eq_none_iff.mp this;rw[a1K']at this;exact this
variable {cs:List CE}{a b:CE}{r:Expr}
theorem len_is{mg:GS}{Q:List V→Hp→Prop}(w:WantG K mg E (RepL K mg) μ H Q (denL Φ Γ cs ρ S)):WantG K mg E (RepL K mg) μ H (λvs H'=>vs.length=cs.length∧Q vs H') (denL Φ Γ cs ρ S):=by
 cases e:denL Φ Γ cs ρ S with
 |ok ds S'=>rw[e]at w;intro μ' H' vs x s r;refine⟨?_,w μ' H' vs x s r⟩;rw[←r.length,a3H' e]
 |err y S'=>rw[e]at w;exact w
 |fail=>rw[e]at w;exact w
theorem a8H'(O:XOk X cell N sc CX E Φ Γ k)(h:gloB sc "range"=true)(hn:a0w' l=true)(hcs:cs.length=1)(ha:PA X [l] (tL X.K X.mg E Φ Γ cs)):PI X tg (.Call (.Name "range" p2) [l] [] pos) (tI X.K X.mg E Φ Γ (.range cs)):=by
 obtain⟨h1,_,_⟩:=a0n' h;intro pq s σ H R I ⟨F,μ,ρ,S,sk,en,w⟩;refine a6D' (O.gl h1) (O.mod.bl _ (by decide+kernel)) ha (by rw[a0j' hn];rfl) pq s σ H R I ⟨F,μ,ρ,S,sk,en,(len_is (WantG.bind w)).mono λvs H1 ⟨hl,μ1,S1,ds,x1,s1,r1,w1⟩=>?_⟩;have hl2:=r1.length;split at w1
 ·rename_i j;split at w1
  ·rename_i hj;obtain⟨v,rfl,rv⟩:=r1.one;cases a0a' rv;exact⟨j,rfl,hj.1,hj.2,w1 μ1 H1 _ .refl s1 (a3c' 0 j.toNat)⟩
  ·exact w1.elim
 ·simp only[ZF,List.length_nil]at hl2;omega
 ·exact w1.elim
theorem a8I'(O:XOk X cell N sc CX E Φ Γ k)(h:gloB sc "range"=true)(hn:a0w' l=true)(hn2:a0w' r=true)(hcs:cs.length=2)(ha:PA X [l,r] (tL X.K X.mg E Φ Γ cs)):PI X tg (.Call (.Name "range" p2) [l,r] [] pos) (tI X.K X.mg E Φ Γ (.range cs)):=by
 obtain⟨h1,_,_⟩:=a0n' h;intro pq s σ H R I ⟨F,μ,ρ,S,sk,en,w⟩;refine a6E' (O.gl h1) (O.mod.bl _ (by decide+kernel)) ha (by rw[a0j' hn,a0j' hn2];rfl) (by rw[a0j' hn2];rfl) pq s σ H R I ⟨F,μ,ρ,S,sk,en,(len_is (WantG.bind w)).mono λvs H1 ⟨hl,μ1,S1,ds,x1,s1,r1,w1⟩=>?_⟩;have hl2:=r1.length;split at w1
 ·simp only[ZF,List.length_nil]at hl2;omega
 ·rename_i i j;split at w1
  ·rename_i hj;obtain⟨v,v',rfl,rv,rv'⟩:=r1.two;cases a0a' rv;cases a0a' rv';exact⟨i,j,rfl,hj,w1 μ1 H1 _ .refl s1 (a3c' i (j-i).toNat)⟩
  ·exact w1.elim
 ·exact w1.elim
theorem a5O'{mg:GS}{xs:List D}(s:SOk K mg μ S H)(r:Rep K mg μ H d v)(e:seqOf S d=some xs):∃a,v=.ref a∧
  ∀μ' S' H' F',Chg K mg.F μ H F' μ' H'→SOk K ⟨mg.mg,F'⟩ μ' S' H'→∃ys vs,seqOf S' d=some ys∧SqB (isLst d) K H' a vs∧RepL K ⟨mg.mg,F'⟩ μ' H' ys vs:=by
 cases d with
 |tup ds=>obtain⟨a,vs,rfl,hq,q⟩:=a0m' r;exact⟨a,rfl,λμ' S' H' F' ch sk=>⟨ds,vs,rfl,ch.tup _ _ hq,RepL.chg ch _ _ q⟩⟩
 |lst ds=>unfold Rep at r;obtain⟨a,vs,rfl,hq,hn,q⟩:=r;exact⟨a,rfl,λμ' S' H' F' ch sk=>⟨ds,vs,rfl,SqL.of (ch.lst a vs hq hn.1 hn.2).1,RepL.chg ch _ _ q⟩⟩
 |scr ds=>unfold Rep at r;obtain⟨a,vs,rfl,hq,q⟩:=r;exact⟨a,rfl,λμ' S' H' F' ch sk=>⟨ds,vs,rfl,(ch.frz a vs hq).sq,RepL.chg ch _ _ q⟩⟩
 |ref n=>
  unfold Rep at r;obtain⟨a,rfl,hn⟩:=r;refine⟨a,rfl,λμ' S' H' F' ch sk=>?_⟩;have hl:n<S'.length:=by rw[←sk.len];exact(Ze.mp (ch.box _ _ hn)).1
  obtain⟨vs,h1,q⟩:=sk.at_ n a _ (ch.box _ _ hn) (Zh hl);exact⟨_,vs,Zh hl,SqL.of h1,q⟩
 |_=>unfold seqOf at e;cases e
theorem a1w'{xs:List D}(h:a6R' d=some xs)(S:Store):seqOf S d=some xs:=by unfold a6R' at h;split at h<;>first|exact h|cases h
theorem a6V'{e:D}{its:Its}(h:zipOf S d e=some its):(∃xs ys,seqOf S d=some xs∧seqOf S e=some ys)∧∀S' i,(∃xs ys,seqOf S' d=some xs∧seqOf S' e=some ys)→getOf its S' i=a6S' d e S' i:=by
 unfold zipOf at h;split at h
 ·rename_i xs ys e1 e2;cases h;refine⟨⟨xs,ys,a1w' e1 S,a1w' e2 S⟩,λS' i _=>?_⟩;show some (List.zipWith (λx y=>D.tup [x,y]) xs ys)[i]?=_;unfold a6S';rw[a1w' e1 S',a1w' e2 S',List.getElem?_zipWith]
  show some _=some (match xs[i]?,ys[i]? with
   |some x,some y=>some (D.tup [x,y])
   |_,_=>none)
  cases xs[i]? <;>cases ys[i]? <;>rfl
 ·split at h
  ·rename_i xs ys e1 e2;cases h;exact⟨⟨xs,ys,e1,e2⟩,λS' i _=>rfl⟩
  ·cases h
theorem a8J'{mg:GS}{e:D}{u:V}{its:Its}(sk:SOk K mg μ S H)(rd:Rep K mg μ H d v)(re:Rep K mg μ H e u)(h:zipOf S d e=some its):
  ∃a b,v=.ref a∧u=.ref b∧(∃vs,SqB (isLst d) K H a vs)∧(∃vs,SqB (isLst e) K H b vs)∧ItOk K mg (Itz K (isLst d) (isLst e) a b) (getOf its) μ H:=by
 obtain⟨⟨xs,ys,e1,e2⟩,hg⟩:=a6V' h;obtain⟨a,rfl,ka⟩:=a5O' sk rd e1;obtain⟨b,rfl,kb⟩:=a5O' sk re e2;obtain⟨_,va,_,qa,_⟩:=ka μ S H mg.F .refl sk;obtain⟨_,vb,_,qb,_⟩:=kb μ S H mg.F .refl sk;refine⟨a,b,rfl,rfl,⟨va,qa⟩,⟨vb,qb⟩,λi μ' S' H' F' ch sk'=>?_⟩;obtain⟨xs',vs,f1,q1,r1⟩:=ka μ' S' H' F' ch sk';obtain⟨ys',ws,f2,q2,r2⟩:=kb μ' S' H' F' ch sk';rw[hg S' i ⟨xs',ys',f1,f2⟩];unfold a6S';rw[f1,f2];have l1:=r1.length;have l2:=r2.length;refine⟨λy hy=>?_,λhy=>⟨vs,ws,q1,q2,?_⟩⟩
 ·have hy:=ZL hy;cases g1:xs'[i]? with
  |none=>rw[g1]at hy;cases hy
  |some p=>
   cases g2:ys'[i]? with
   |none=>rw[g1,g2]at hy;cases hy
   |some q=>rw[g1,g2]at hy;cases hy;obtain⟨v1,k1,rp⟩:=r1.get g1;obtain⟨v2,k2,rq⟩:=r2.get g2;refine⟨⟨vs,ws,v1,v2,q1,q2,k1,k2⟩,λz H'' hz=>?_⟩;obtain⟨T,x',y',rfl,hT,rfl,z1,z2⟩:=hz;have e3:=z1 vs q1;rw[k1]at e3;cases e3;have e4:=z2 ws q2;rw[k2]at e4;cases e4;refine⟨.laid hT,sk'.laid hT,?_⟩;unfold Rep;exact⟨T,[v1,v2],rfl,SqT.of a0h',.cons (Rep.mono (.laid hT) _ _ rp) (.cons (Rep.mono (.laid hT) _ _ rq) .nil)⟩
 ·have hy:=ZL hy;cases g1:xs'[i]? with
  |none=>exact .inl (by have:=List.getElem?_eq_none_iff.mp g1;omega)
  |some p=>
   cases g2:ys'[i]? with
   |none=>exact .inr (by have:=List.getElem?_eq_none_iff.mp g2;omega)
   |some q=>rw[g1,g2]at hy;cases hy
theorem ne5{i j:Nat}(h:i≠j):n+i≠n+j:=λe=>h (Nat.add_left_cancel e)
theorem ne5'{j:Nat}(h:0≠j):n≠n+j:=λe=>h (Nat.add_left_cancel (n:=n) (by rw[Nat.add_zero];exact e))
theorem ne5''{j:Nat}(h:0≠j):n+j≠n:=λe=>ne5' h e.symm
theorem a8K':bootBuiltins "zip"=some (.type "zip"):=by decide+kernel
theorem i_zip(O:XOk X cell N sc CX E Φ Γ k)(h:gloB sc "zip"=true)(ht:isTup tg=true)(hn:a0w' l=true)(hn2:a0w' r=true)(ha:PA X [l,r] (tL X.K X.mg E Φ Γ cs)):PI X tg (.Call (.Name "zip" p2) [l,r] [] pos) (tI X.K X.mg E Φ Γ (.zip cs)):=by
 obtain⟨h1,_,_⟩:=a0n' h;intro pq s σ H R I ⟨F,μ,ρ,S,sk,en,w⟩;refine Call_ (a4B' I (O.gl h1) (O.mod.bl _ (by decide+kernel)) a8K' (PyProof.Rows.callWith_type1 (thn (ha pos pq s σ H _ I ⟨F,μ,ρ,S,sk,en,WantG.bind w⟩) λus s1 ⟨vs,H1,I1,rv,μ1,S1,ds,x1,s1k,r1,w1⟩=>?_) (a0j' hn) (by rw[a0j' hn2];rfl)));split at w1
 ·rename_i d e;obtain⟨v,u,rfl,rd,re⟩:=r1.two;cases ez:zipOf S1 d e with
  |none=>rw[ez]at w1;exact w1.elim
  |some its=>
   rw[ez]at w1;obtain⟨a,b,rfl,rfl,⟨va,qa⟩,⟨vb,qb⟩,ok⟩:=a8J' s1k rd re ez;cases rv with
   |cons p q=>
    cases q with
    |cons p' q'=>
     cases q';cases p;cases p';obtain⟨as,ra,sa⟩:=a4J' I1 qa;obtain⟨bs,rb,sb⟩:=a4J' I1 qb;refine a8C' sa sb λh' z1 z2 z3 z4 z5 z6 kk=>?_;refine wpAny_pyIter_zip z1 ?_;have I2:Inv X pq σ H1 {s1 with heap:=h'}:=I1.kept (t':=s1.toks) kk;cases tg with
     |Tuple ts x1 tp=>
      refine⟨s1.heap.objs.size+4,[s1.heap.objs.size+4,s1.heap.objs.size+2,s1.heap.objs.size+3,s1.heap.objs.size,s1.heap.objs.size+1],_,_,H1,rfl,I2,
       a8D' (isLst d) (isLst e) (s1.heap.objs.size+4) (s1.heap.objs.size+2) (s1.heap.objs.size+3) s1.heap.objs.size (s1.heap.objs.size+1) a b (ne5 (by decide)) (ne5 (by decide)) (ne5' (by decide)) (ne5 (by decide)) (ne5 (by decide)) (ne5'' (by decide)) (ne5 (by decide)) (ne5'' (by decide)) (ne5 (by decide)) (ne5' (by decide)),⟨z1,z2,⟨_,_,z3⟩,z4,z5⟩,λc hc=>?_,w1 μ1 H1 _ .refl s1k ok⟩
      have hc':s1.heap.objs.size≤c:=by
       simp only[Zo,List.not_mem_nil,or_false]at hc;rcases hc with rfl|rfl|rfl|rfl|rfl
       ·exact Nat.le_add_right _ _
       ·exact Nat.le_add_right _ _
       ·exact Nat.le_add_right _ _
       ·exact Zi _
       ·exact Nat.le_add_right _ _
      exact I1.fpOk hc' (I1.hok.fresh hc')
     |_=>cases ht
 ·exact w1.elim
end
def a3d'(ifs:Lx)(env:Env):Sem Bool:=forIn ifs true (λc r=>if r=true then do let ok ←isTrue c env (eval c env);pure (ForInStep.yield ok)else pure (ForInStep.yield r))
def cRest(elt:Expr)(gens:List Comprehension)(scope:Scope)(pos:Pos)(d:Nat)(acc:Value)(env:Env):Sem Unit:=match gens[d+1]? with
 |some g'=>do
   let x ←eval g'.iter env
   standAt g'.iter.pos
   let x ←if g'.is_async !=0 then foldedIterable g'.iter x else foldedSetIterable g'.iter env x
   let _ ←runOwn (.compStart (.ListComp elt gens scope pos) (d+1) (←holding [x] (if g'.is_async !=0 then asyncIter x else pyIter x)) acc env) env
 |none=>do let _ ←call (.builtin "list.append") [acc,←eval elt env]
theorem a1B'{pos:Pos}{d:Nat}{it acc:Value}{t i:Expr}{fs:Lx}(h:gens[d]?=some ⟨t,i,fs,0⟩):
  compTurn (.ListComp elt gens scope pos) d it acc env=(standAt i.pos>>=λ_=>pyNext it>>=λr=>match r with
   |none=>pure (.done .next)
   |some v=>letOwnedTupleGo t it v>>=λ_=>assign t env v>>=λ_=>(a3d' fs env>>=λok=>if ok=true then cRest elt gens scope pos d acc env else pure ())>>=λ_=>
    again (.compLoop (.ListComp elt gens scope pos) d it acc env)):=by
 unfold compTurn;simp only[h];show(standAt i.pos>>=λ_=>pyNext it>>=_)=_;congr 1;funext _;congr 1;funext r;cases r with
 |none=>rfl
 |some v=>
  show(letOwnedTupleGo t it v>>=λ_=>assign t env v>>=λ_=>_>>=λok=>_)=_;congr 1;funext _;congr 1;funext _
  conv=>rhs;rw[bind_assoc]
  unfold a3d';refine congrArg (λk=>_>>=k) (funext λok=>?_);cases ok with
  |true=>
   simp only[if_true];unfold cRest;cases gens[d+1]? with
   |none=>rfl
   |some g'=>
    by_cases hb:(g'.is_async !=0)=true
    ·simp only[if_pos hb,bind_assoc,pure_bind]
    ·simp only[if_neg hb,bind_assoc,pure_bind]
  |false=>simp only[ZD,if_false,pure_bind]
theorem a3I'{R:Result→Shared→Prop}{pos:Pos}{d:Nat}{it acc:Value}{t i:Expr}{fs:Lx}(hg:gens[d]?=some ⟨t,i,fs,0⟩)
  (h0:codeAny (model prog w) A (.compLoop (.ListComp elt gens scope pos) d it acc env) R s)
  (h:wpAny (model prog w) A (pyIter it) (λit' s'=>codeAny (model prog w) A (.compLoop (.ListComp elt gens scope pos) d it' acc env) R s') (notedBy (model prog w) A env λx s'=>R (.error x) s') s):
  codeAny (model prog w) A (.compStart (.ListComp elt gens scope pos) d it acc env) R s:=by
 refine codeAny_of_tree ?_;show wpAny _ _ ((compStart (.ListComp elt gens scope pos) d it acc env).onRaise (λx=>do noteFrame x env;standAt theWindowsPlace)) _ _ s;refine wpAny_notedAt ?_;unfold compStart;have e1:(clausesOf (.ListComp elt gens scope pos))[d]?=some ⟨t,i,fs,0⟩:=hg;rw[e1];show wpAny _ _ (ask>>=_) _ _ s;refine Za (wpAny_askSetting (wpAny_ite ?_));split
 ·first
   |exact Za (Zg (Zg (And.intro rfl h0)))
   |exact Zg (And.intro rfl h0)
 ·first
   |exact Za (wpAny_rule (Za (wpAny_standAt (Za (ZV h (λit' s' h'=>Zg (And.intro rfl h')) λ_ _ x=>x)))))
   | (refine Za (wpAny_rule ?_);show wpAny _ _ (standAt i.pos>>=_) _ _ s;exact Za (wpAny_standAt (Za (ZV h (λit' s' h'=>Zg (And.intro rfl h')) λ_ _ x=>x))))
section
variable {pos:Pos}{d:Nat}
theorem pb_when{fs:Lx}{ts:List TT}{tu:TU}(ht:PTs X fs ts)(hb:PB X (cRest elt gens scope pos d (.ref acc) X.env) tu):
  PB X (a3d' fs X.env>>=λok=>if ok=true then cRest elt gens scope pos d (.ref acc) X.env else pure ()) (tWhen ts tu):=by
 intro pq s σ H Q I h;refine Za (thn (a5B' fs ts ht pq s σ H _ I h) λb s1 ⟨H1,I1,q1⟩=>?_);cases b with
 |false=>rw[if_neg (by decide)]at q1;rw[if_neg (by decide)];exact Zg ⟨σ,H1,I1,q1⟩
 |true=>rw[if_pos rfl]at q1;rw[if_pos rfl];exact hb pq s1 σ H1 Q I1 q1
theorem pb_last(hg:gens[d+1]?=none)(he:PE X elt te):PB X (cRest elt gens scope pos d (.ref acc) X.env) (tEmit acc te):=by intro pq s σ H Q I h;unfold cRest;rw[hg];show wpAny _ _ (eval elt X.env>>=λx=>call (.builtin "list.append") [.ref acc,x]>>=λ_=>pure ()) _ _ s;refine Za (thn (he pq s σ H _ I h) λu s2 ⟨v,H2,I2,r2,ys,ha,hz,q2⟩=>?_);refine Za (thn (a4d' pq s2 σ H2 (.ref acc) [v] (.ref acc) [u] (λ_ H'=>Q σ H') I2 rfl (.cons r2 .nil) ⟨acc,ys,v,rfl,rfl,ha,hz,q2⟩) λ_ s3 ⟨_,H3,I3,_,q3⟩=>?_);exact Zg ⟨σ,H3,I3,q3⟩
theorem a8L'{t i:Expr}{fs:Lx}{tb:TU}(hx:X.xe=λ_ _=>False)(hc:X.calm=true)(hg:gens[d+1]?=some ⟨t,i,fs,0⟩)(hi:PI X t i wi)(hs:∀x,foldedSetIterable i X.env x=pure x)(hgt:PG X t g)
  (hb:PB X (a3d' fs X.env>>=λok=>if ok=true then cRest elt gens scope pos (d+1) (.ref acc) X.env else pure ()) tb):PB X (cRest elt gens scope pos d (.ref acc) X.env) (tInner wi g tb):=by
 intro pq s σ H Q I h;unfold cRest;rw[hg];show wpAny _ _ (eval i X.env>>=λx=>standAt i.pos>>=λ_=>foldedSetIterable i X.env x>>=λx=>holding [x] (pyIter x)>>=λit=>runOwn (.compStart (.ListComp elt gens scope pos) (d+1) it (.ref acc) X.env) X.env>>=λ_=>pure ()) _ _ s;refine Za (thn (hi pq s σ H _ I h) λv s1 h1=>Za (wpAny_standAt (Za ?_)));rw[hs];refine Zg (Za (wpAny_holding (thn h1 λitv s2 h2=>Za ?_)));obtain⟨it,fp,tn,J,H2,e,I2,T,st2,f2,W⟩:=h2;subst e
 have loop:codeAny (model X.prog X.w) X.A (.compLoop (.ListComp elt gens scope pos) (d+1) (.ref it) (.ref acc) X.env) (λr s'=>match r with
   | .ok f=>∃σ' H',Inv X pq σ' H' s'∧Q σ' H'
   | .error e=>cameBackBy (model X.prog X.w) X.A X.env X.xe e s') s2:=
  a4f' (Fin:=Q) hx hc (a1B' hg) T hgt hb I2 st2 f2 W λs' σ' H' I' _ q=>⟨σ',H',I',q⟩
 refine wpAny_runOwn (h:=none) ?_
 refine codeAny_mono (R:=λr s'=>match r with
   | .ok f=>∃σ' H',Inv X pq σ' H' s'∧Q σ' H'
   | .error e=>cameBackBy (model X.prog X.w) X.A X.env X.xe e s') (a3I' hg loop (T.self _ 0 _ _ _ st2 loop)) λr s' q=>?_
 cases r with
 |ok f=>exact Zg q
 |error e=>exact q
end
def gVs:List CT→TGs
 | []=>gNil
 |t::ts=>match t with
  | .var i=>gCons (gName i) (gVs ts)
  | .tup _=>λ_ _ _ _=>False
def gCT(K:Fg):CT→TG
 | .var i=>gName i
 | .tup ts=>gTup K ts.length (gVs ts)
section
variable {E:XK}
theorem nm_ok(O:XOk X cell N sc CX E Φ Γ k){i:Nat}{p:Pos}(h:sdT cell N sc (.var i)=true):PG X (.Name (N.getD i "") p) (gName i):=by
 have h1:=(andB h).1;have h2:=(andB h).2;generalize N.getD i ""=x at h1 h2;simp only[ZA,Bool.or_eq_true,beq_iff_eq]at h1 h2
 have hl:L2.Loc X.env.scope x:=by
  unfold L2.Loc;rw[O.sc];rcases h2 with z|z
  ·exact .inl z
  ·exact .inr z.2
 refine pg_name (by rw[O.n];exact O.nd) (by rw[O.n];exact h1) hl ?_;rcases h2 with z|z
 ·exact .inr (by rw[O.sc];exact z)
 ·exact .inl (O.fn x z.1)
theorem a2J'{env:Env}:∀{ts:List CT} {es:Lx},((assignEach (emTL ts N es) env).length=ts.length∧(assignEach (emTL ts N es) env).findIdx? (·.1)=none)
 | [],_=>⟨rfl,rfl⟩
 |t::ts,es=>by
  have ih:=a2J' (env:=env) (ts:=ts) (es:=es.tail);have e:assignEach (emTL (t::ts) N es) env=(false,assign (emT t N (es.headD dE)) env)::assignEach (emTL ts N es.tail) env:=by cases t<;>rfl
  rw[e];exact⟨by rw[ZF,ih.1,ZF],by rw[List.findIdx?_cons,ih.2];rfl⟩
theorem gs_pg(O:XOk X cell N sc CX E Φ Γ k):∀{ts:List CT} {es:Lx},sdTL cell N sc ts=true→PGs X (emTL ts N es) (gVs ts)
 | [],es,h=>pgs_nil
 |t::ts,es,h=>by
  cases t with
  |tup _=>exact λ_ _ _ _ _ _ _ _ _ z=>z.elim
  |var i=>exact a8d' (nm_ok O (andB h).1) (gs_pg O (andB h).2)
theorem g_pg(O:XOk X cell N sc CX E Φ Γ k){t:CT}(h:sdT cell N sc t=true):PG X (emT t N e) (gCT X.K t):=by
 cases t with
 |var i=>exact nm_ok O h
 |tup ts=>exact pg_tup O.calm (gs_pg O h) a2J'.1 a2J'.2
theorem gs_do{F μ:La}{H:Hp}{K:Fg}{mg:Mg}{ρ':Rho}{Q:L2.St→Hp→Prop}:∀{ts:List CT} {ds:List D} {vs:List V} {ρ:Rho} {σ:L2.St},asgVs ts ds ρ=some ρ'→RepL K ⟨mg,F⟩ μ H ds vs→EnvR K ⟨mg,F⟩ μ H ρ σ→(∀σ',EnvR K ⟨mg,F⟩ μ H ρ' σ'→Q σ' H)→gVs ts vs σ H Q
 | [],ds,vs,ρ,σ,h,r,en,q=>by
  cases ds with
  |nil=>cases h;unfold RepL at r;exact⟨r,q σ en⟩
  |cons _ _=>cases h
 |t::ts,ds,vs,ρ,σ,h,r,en,q=>by
  cases t with
  |tup _=>cases h
  |var i=>
   cases ds with
   |nil=>cases h
   |cons d ds=>obtain⟨v,w,rfl,r1,rl⟩:=r.uncons;exact⟨v,w,rfl,gs_do (ts:=ts) h rl (en.set r1) q⟩
theorem a2K'{ρ':Rho}:∀{ts:List CT} {ds:List D} {ρ:Rho},asgVs ts ds ρ=some ρ'→ts.length=ds.length∧ρ'.length=ρ.length
 | [],ds,ρ,h=>by
  cases ds with
  |nil=>cases h;exact⟨rfl,rfl⟩
  |cons _ _=>cases h
 |t::ts,ds,ρ,h=>by
  cases t with
  |tup _=>cases h
  |var i=>
   cases ds with
   |nil=>cases h
   |cons d ds=>have:=a2K' (ts:=ts) h;exact⟨congrArg Nat.succ this.1,by rw[this.2,List.length_set]⟩
theorem a4o'{ρ':Rho}{j:Nat}:∀{ts:List CT} {ds:List D} {ρ:Rho},asgVs ts ds ρ=some ρ'→(∀i∈a5C' ts,i≠j)→ρ'[j]?=ρ[j]?
 | [],ds,ρ,h,hj=>by
  cases ds with
  |nil=>cases h;rfl
  |cons _ _=>cases h
 |t::ts,ds,ρ,h,hj=>by
  cases t with
  |tup _=>cases h
  |var i=>
   cases ds with
   |nil=>cases h
   |cons d ds=>rw[a4o' (ts:=ts) h λk hk=>hj k (Zb _ hk),List.getElem?_set_ne (hj i Zc)]
theorem g_do{Q:L2.St→Hp→Prop}{t:CT}(h:asgCT t d ρ=some ρ')(r:Rep K ⟨mg,F⟩ μ H d v)(en:EnvR K ⟨mg,F⟩ μ H ρ σ)
  (q:∀σ',EnvR K ⟨mg,F⟩ μ H ρ' σ'→Q σ' H):gCT K t v σ H Q:=by
 cases t with
 |var i=>cases h;exact q _ (en.set r)
 |tup ts=>
  cases d with
  |tup ds=>obtain⟨a,vs,rfl,hq,rl⟩:=a0m' r;exact⟨a,vs,rfl,hq,by rw[←rl.length];exact(a2K' (ts:=ts) h).1.symm,gs_do (ts:=ts) h rl en q⟩
  |_=>cases h
end
theorem a6W'{l:List Nat}{i:Nat}(h:isNew ρ l=true)(hi:i∈l):ρ[i]?=some none:=by
 unfold isNew at h;have:=Zp.mp h i hi;split at this
 ·assumption
 ·cases this
theorem asg_get{t:CT}(h:asgCT t d ρ=some ρ'):ρ'.length=ρ.length∧∀j,(∀i∈slots t,i≠j)→ρ'[j]?=ρ[j]? :=by
 cases t with
 |var i=>cases h;exact⟨List.length_set,λj hj=>List.getElem?_set_ne (hj i Zc)⟩
 |tup ts=>
  cases d with
  |tup ds=>exact⟨(a2K' (ts:=ts) h).2,λj hj=>a4o' (ts:=ts) h hj⟩
  |_=>cases h
theorem a8M'{mg:GS}{t:CT}(h:a1Y' t d ρ=some ρ')(en:EnvR K mg μ H ρ' σ):EnvR K mg μ H ρ σ:=by
 unfold a1Y' at h;by_cases hn:isNew ρ (slots t)=true
 ·rw[if_pos hn]at h;have g:=asg_get h;refine⟨by rw[←en.1,g.1],λj d' e=>en.2 j d' ?_⟩;rw[g.2 j λi hi z=>by subst z;rw[a6W' hn hi]at e;cases e];exact e
 ·rw[if_neg hn]at h;cases h
theorem a5P'{t:CT}(h:a1Y' t d ρ=some ρ'):asgCT t d ρ=some ρ':=by
 unfold a1Y' at h;split at h
 ·exact h
 ·cases h
structure CSt (K:Fg)(mg:Mg)(F:La)(acc:Addr)(B:La→Hp→Prop)(μ0:La)(H0:Hp)(μ:La)(S:Store)(H:Hp)(ρ:Rho)(σ:L2.St)(ds:List D)(vs:List V):Prop where
 n0:H0 acc=none
 ext:Ext μ0 H0 μ H
 sok:SOk K ⟨mg,acc::F⟩ μ S H
 nin:acc∉μ
 env:EnvR K ⟨mg,acc::F⟩ μ H ρ σ
 at_:H acc=some (.lst vs)
 rep:RepL K ⟨mg,acc::F⟩ μ H ds vs
 b:B μ H
def Keep(K:Fg)(F:La)(B:La→Hp→Prop):Prop:=∀μ H μ1 H1,B μ H→Chg K F μ H F μ1 H1→B μ1 H1
def WantB(K:Fg)(mg:Mg)(F:La)(acc:Addr)(B:La→Hp→Prop)(μ0:La)(H0:Hp)(ρ:Rho)(Q:L2.St→Hp→Prop):Res (List D)→Prop
 | .ok ds' S'=>∀μ' H' σ' vs',CSt K mg F acc B μ0 H0 μ' S' H' ρ σ' ds' vs'→Q σ' H'
 |_=>False
def tB(K:Fg)(mg:Mg)(Φ:FT)(Γ:Str→Option D)(c:CE)(acc:Addr):TU:=λσ H Q=>∃F B μ0 H0 μ ρ S ds vs,Keep K (acc::F) B∧CSt K mg F acc B μ0 H0 μ S H ρ σ ds vs∧WantB K mg F acc B μ0 H0 ρ Q (denB Φ Γ c ρ ds S)
def stepC(Φ:FT)(Γ:Str→Option D)(ifs:List CE)(body:CE)(ρ:Rho)(ds:List D)(S:Store):Res (List D):=(denTs Φ Γ ifs ρ S).bind λk S3=>if k=true then denB Φ Γ body ρ ds S3 else .ok ds S3
def tC(K:Fg)(mg:Mg)(Φ:FT)(Γ:Str→Option D)(ifs:List CE)(c:CE)(acc:Addr):TU:=λσ H Q=>∃F B μ0 H0 μ ρ S ds vs,Keep K (acc::F) B∧CSt K mg F acc B μ0 H0 μ S H ρ σ ds vs∧WantB K mg F acc B μ0 H0 ρ Q (stepC Φ Γ ifs c ρ ds S)
section
variable {vs:List V}
theorem CSt.next(hB:Keep K (acc::F) B)(c:CSt K mg F acc B μ0 H0 μ S H ρ σ ds vs)(x:Ext μ H μ1 H1)(s:SOk K ⟨mg,acc::F⟩ μ1 S1 H1):CSt K mg F acc B μ0 H0 μ1 S1 H1 ρ σ ds vs where
 n0:=c.n0
 ext:=c.ext.trans x
 sok:=s
 nin:=λz=>by
  rcases x.fresh acc z with z|z
  ·exact c.nin z
  ·rw[c.at_]at z;cases z
 env:=c.env.mono x
 at_:=x.keep acc _ c.at_ (.inr c.nin)
 rep:=RepL.mono x _ _ c.rep
 b:=hB μ H μ1 H1 c.b (.of_ext x λ_ z=>.inl z)
theorem CSt.put(hB:Keep K (acc::F) B)(c:CSt K mg F acc B μ0 H0 μ S H ρ σ ds vs)(r:Rep K ⟨mg,acc::F⟩ μ H d v):CSt K mg F acc B μ0 H0 μ S (upd H acc (.lst (vs++[v]))) ρ σ (ds++[d]) (vs++[v]):=by
 have ch:Chg K (acc::F) μ H (acc::F) μ (upd H acc (.lst (vs++[v]))):=.more Zc c.at_
 exact{
  n0:=c.n0
  ext:=c.ext.more c.n0
  sok:=c.sok.more Zc c.nin c.at_
  nin:=c.nin
  env:=c.env.chg ch
  at_:=a0h'
  rep:=RepL.append (RepL.chg ch _ _ c.rep) (.cons (Rep.chg ch _ _ r) .nil)
  b:=hB _ _ _ _ c.b ch}
theorem a6X'{E:XK}:∀{cs:List CE} {σ:L2.St} {Q:Bool→Hp→Prop},SOk X.K ⟨X.mg,F⟩ μ S H→EnvR X.K ⟨X.mg,F⟩ μ H ρ σ→WantG X.K ⟨X.mg,F⟩ E (λ_ _ a b=>a=b) μ H Q (denTs Φ Γ cs ρ S)→a6O' (cs.map (tT X.K X.mg E Φ Γ)) σ H Q:=by
 intro cs
 induction cs generalizing μ H S with
 |nil=>exact λsk en w=>w μ H true .refl sk rfl
 |cons c cs ih=>
  intro σ Q sk en w;unfold denTs at w;refine⟨F,μ,ρ,S,sk,en,(WantG.bind w).mono λk H1 zz=>ex34 zz λμ1 S1 k' x1 s1 e1 w1=>?_⟩;subst e1;cases k' with
  |true=>rw[if_pos rfl]at w1⊢;exact ih s1 (en.mono x1) w1
  |false=>rw[if_neg (by decide)]at w1⊢;exact w1 μ1 H1 _ .refl s1 rfl
end
section
variable {E:XK}
theorem PB.weak{body:Sem Unit}{t t':TU}(h:PB X body t)(w:∀σ H Q,t' σ H Q→t σ H Q):PB X body t':=λpq s σ H Q I q=>h pq s σ H Q I (w σ H Q q)
theorem a4K'{vs:List V}{ifs:List CE}{c:CE}{Q:L2.St→Hp→Prop}
  (hB:Keep K (acc::F) B) (st:CSt K mg F acc B μ0 H0 μ S H ρ σ ds vs) (w:WantB K mg F acc B μ0 H0 ρ Q (stepC Φ Γ ifs c ρ ds S)):
  WantG K ⟨mg,acc::F⟩ E (λ_ _ a b=>a=b) μ H (λb H1=>if b=true then tB K mg Φ Γ c acc σ H1 Q else Q σ H1) (denTs Φ Γ ifs ρ S):=by
 unfold stepC at w;cases e:denTs Φ Γ ifs ρ S with
 |ok k S3=>
  rw[e]at w;intro μ1 H1 b x s eb;subst eb;have st1:=st.next hB x s;cases k with
  |true=>exact⟨F,B,μ0,H0,μ1,ρ,S3,ds,vs,hB,st1,w⟩
  |false=>exact w μ1 H1 σ vs st1
 |err y S3=>rw[e]at w;exact w.elim
 |fail=>rw[e]at w;exact w.elim
theorem a8N'{pos:Pos}{d:Nat}{fs:Lx}{ifs:List CE}{c:CE}(ht:PTs X fs (ifs.map (tT X.K X.mg E Φ Γ)))(hb:PB X (cRest elt gens scope pos d (.ref acc) X.env) (tB X.K X.mg Φ Γ c acc)):
  PB X (a3d' fs X.env>>=λok=>if ok=true then cRest elt gens scope pos d (.ref acc) X.env else pure ()) (tC X.K X.mg Φ Γ ifs c acc):=
 PB.weak (pb_when ht hb) λσ H Q zz=>ex93 zz λF B μ0 H0 μ ρ S ds vs hB st w=>a6X' st.sok st.env (a4K' hB st w)
theorem c_emit{pos:Pos}{d:Nat}{c:CE}(hg:gens[d+1]?=none)(he:PE X elt (tE X.K X.mg E Φ Γ c)):PB X (cRest elt gens scope pos d (.ref acc) X.env) (tB X.K X.mg Φ Γ (.emit c) acc):=
 PB.weak (pb_last hg he) λσ H Q zz=>ex93 zz λF B μ0 H0 μ ρ S ds vs hB st w=>by
  refine⟨acc::F,μ,ρ,S,st.sok,st.env,?_⟩;simp only[denB]at w;cases e:den Φ Γ c ρ S with
  |ok y S1=>
   rw[e]at w;intro μ1 H1 v x s r;have st1:=st.next hB x s;have w':WantB X.K X.mg F acc B μ0 H0 ρ Q (if ds.length<big then .ok (ds++[y]) S1 else .fail):=w;by_cases hl:ds.length<big
   ·rw[if_pos hl]at w';refine⟨vs,st1.at_,by rw[a5o',←st1.rep.length];exact hl,w' μ1 _ σ _ (st1.put hB r)⟩
   ·rw[if_neg hl]at w';exact w'.elim
  |err y S1=>rw[e]at w;exact w.elim
  |fail=>rw[e]at w;exact w.elim
end
def a5Q':Its→Nat
 | .items xs=>xs.length+1
 | .live f _=>f
theorem a2u'(step:D→List D→Store→Res (List D))(xs:List D):∀(n i:Nat) (acc:List D) (S:Store),i+n=xs.length→compB step (λ_ i=>some xs[i]?) (n+1) i acc S=compD step (xs.drop i) acc S
 |0,i,acc,S,h=>by rw[List.drop_eq_nil_of_le (by omega)];unfold compB;have:xs[i]?=none:=List.getElem?_eq_none_iff.mpr (by omega);rw[this];rfl
 |n+1,i,acc,S,h=>by
  have hi:i<xs.length:=by omega
  rw[List.drop_eq_getElem_cons hi];unfold compB;rw[Zh hi];show(step xs[i] acc S).bind _=(step xs[i] acc S).bind _;congr 1;funext acc' S';exact a2u' step xs n (i+1) acc' S' (by omega)
theorem a5R'(step:D→List D→Store→Res (List D))(its:Its)(acc:List D)(S:Store):compI step its acc S=compB step (getOf its) (a5Q' its) 0 acc S:=by
 cases its with
 |items xs=>exact(a2u' step xs xs.length 0 acc S (by omega)).symm
 |live f get=>rfl
def stepN(Φ:FT)(Γ:Str→Option D)(tg:CT)(ifs:List CE)(body:CE)(ρ:Rho):D→List D→Store→Res (List D):=λx acc S2=>match a1Y' tg x ρ with
 |some ρ'=>stepC Φ Γ ifs body ρ' acc S2
 |none=>.fail
theorem CSt.back{B':La→Hp→Prop}{vs:List V}(c:CSt K mg F acc B μ0 H0 μ S H ρ σ ds vs)(b:B' μ H)(e:EnvR K ⟨mg,acc::F⟩ μ H ρ' σ'):CSt K mg F acc B' μ0 H0 μ S H ρ' σ' ds vs:=
 ⟨c.n0,c.ext,c.sok,c.nin,e,c.at_,c.rep,b⟩
theorem a5S'{tg:CT}{ifs:List CE}{body:CE}{x:D}(h:a1Y' tg x ρ=some ρ'):stepN Φ Γ tg ifs body ρ x ds S=stepC Φ Γ ifs body ρ' ds S:=by unfold stepN;rw[h]
theorem a5T'{tg:CT}{ifs:List CE}{body:CE}{x:D}(h:a1Y' tg x ρ=none):stepN Φ Γ tg ifs body ρ x ds S=.fail:=by unfold stepN;rw[h]
theorem a7H'{Fi:La}{μi:La}{Hi:Hp}{get:Store→Nat→Option (Option D)}{tg:CT}{ifs:List CE}{body:CE}{Q:L2.St→Hp→Prop}(hB:Keep K (acc::F) B)(ok:ItOk K ⟨mg,Fi⟩ J get μi Hi)
        {vs:List V} (ch:Chg K Fi μi Hi (acc::F) μ H) (st:CSt K mg F acc B μ0 H0 μ S H ρ σ ds vs) (w:WantB K mg F acc B μ0 H0 ρ Q (compB (stepN Φ Γ tg ifs body ρ) get n 0 ds S)):
  ∃W:Nat→Nat→L2.St→Hp→Prop,(∃m,W 0 m σ H)∧∀i m σ H,W i m σ H→
   (J.stop i H∧Q σ H)∨(J.go i H∧∃Nx:L2.St→Hp→Prop,(∀σ' H',Nx σ' H'→∃m',m'<m∧W (i+1) m' σ' H')∧∀x H',J.yld i H x H'→gCT K tg x σ H' λσ2 H2=>tC K mg Φ Γ ifs body acc σ2 H2 Nx):=by
 refine⟨λi m σ H=>∃μ S ds vs,Chg K Fi μi Hi (acc::F) μ H∧CSt K mg F acc B μ0 H0 μ S H ρ σ ds vs∧WantB K mg F acc B μ0 H0 ρ Q (compB (stepN Φ Γ tg ifs body ρ) get m i ds S),⟨n,μ,S,ds,vs,ch,st,w⟩,?_⟩;rintro i m σ H ⟨μ,S,ds,vs,ch,st,w⟩;cases m with
 |zero=>exact w.elim
 |succ m=>
  unfold compB at w;obtain⟨k1,k2⟩:=ok i μ S H (acc::F) ch st.sok;cases e:get S i with
  |none=>rw[e]at w;exact w.elim
  |some o=>
   cases o with
   |none=>rw[e]at w;exact .inl ⟨k2 e,w μ H σ vs st⟩
   |some x=>
    rw[e]at w;obtain⟨go,yld⟩:=k1 x e;refine .inr ⟨go,λσ' H'=>∃μ S ds vs,Chg K Fi μi Hi (acc::F) μ H'∧CSt K mg F acc B μ0 H0 μ S H' ρ σ' ds vs∧WantB K mg F acc B μ0 H0 ρ Q (compB (stepN Φ Γ tg ifs body ρ) get m (i+1) ds S),λσ' H' q=>⟨m,Nat.lt_succ_self m,q⟩,λy H' hy=>?_⟩;obtain⟨x1,s1,r1⟩:=yld y H' hy;have st1:=st.next hB x1 s1;have ch1:Chg K Fi μi Hi (acc::F) μ H':=ch.trans (.of_ext x1 λ_ z=>.inl z);have w':WantB K mg F acc B μ0 H0 ρ Q ((stepN Φ Γ tg ifs body ρ x ds S).bind λacc' S'=>compB (stepN Φ Γ tg ifs body ρ) get m (i+1) acc' S'):=w;cases ea:a1Y' tg x ρ with
    |none=>rw[a5T' ea]at w';exact w'.elim
    |some ρ'=>
     rw[a5S' ea]at w';refine g_do (a5P' ea) r1 st1.env λσ2 en2=>?_;refine⟨F,λμ H=>B μ H∧Chg K Fi μi Hi (acc::F) μ H,μ0,H0,μ,ρ',S,ds,vs,λμa Ha μb Hb q c=>⟨hB _ _ _ _ q.1 c,q.2.trans c⟩,st1.back (B':=λμ H=>B μ H∧Chg K Fi μi Hi (acc::F) μ H) ⟨st1.b,ch1⟩ en2,?_⟩;cases es:stepC Φ Γ ifs body ρ' ds S with
     |ok ds' S'=>rw[es]at w';intro μ' H2 σ' vs' st';exact⟨μ',S',ds',vs',st'.b.2,st'.back st'.b.1 (a8M' ea st'.env),w'⟩
     |err z S'=>rw[es]at w';exact w'.elim
     |fail=>rw[es]at w';exact w'.elim
section
variable {E:XK}
theorem c_inner{pos:Pos}{d:Nat}{t i:Expr}{fs:Lx}{tg:CT}{it:CE}{ifs:List CE}{body:CE}(hx:X.xe=λ_ _=>False)(hc:X.calm=true)(hg:gens[d+1]?=some ⟨t,i,fs,0⟩)
  (hi:PI X t i (tI X.K X.mg E Φ Γ it)) (hs:∀x,foldedSetIterable i X.env x=pure x) (hgt:PG X t (gCT X.K tg))
  (hb:PB X (a3d' fs X.env>>=λok=>if ok=true then cRest elt gens scope pos (d+1) (.ref acc) X.env else pure ()) (tC X.K X.mg Φ Γ ifs body acc)):PB X (cRest elt gens scope pos d (.ref acc) X.env) (tB X.K X.mg Φ Γ (.inner tg it ifs body) acc):=
 PB.weak (a8L' hx hc hg hi hs hgt hb) λσ H Q zz=>ex93 zz λF B μ0 H0 μ ρ S ds vs hB st w=>by
  refine⟨acc::F,μ,ρ,S,st.sok,st.env,?_⟩;simp only[denB]at w;cases e:denI Φ Γ it ρ S with
  |ok its S1=>rw[e]at w;intro μ1 H1 J x s ok;have st1:=st.next hB x s;have w':WantB X.K X.mg F acc B μ0 H0 ρ Q (compI (stepN Φ Γ tg ifs body ρ) its ds S1):=w;rw[a5R']at w';exact a7H' hB ok .refl st1 w'
  |err y S1=>rw[e]at w;exact w.elim
  |fail=>rw[e]at w;exact w.elim
def csOf(fr:List (Option Nat)):L2.St→L2.St:=λσ=>fr.map λj=>j.bind λj=>(σ[j]?).join
theorem env_cs{mg:GS}(en:EnvR K mg μ H ρ σ):EnvR K mg μ H (fr.map λj=>j.bind λj=>(ρ[j]?).join) (csOf fr σ):=by
 refine⟨by simp[csOf],λi d e=>?_⟩;rw[ZQ]at e;cases e1:fr[i]? with
 |none=>rw[e1]at e;cases e
 |some o=>
  rw[e1]at e;have e:=ZL e;cases o with
  |none=>cases e
  |some j=>
   have e2:(ρ[j]?).join=some d:=e;cases e3:ρ[j]? with
   |none=>rw[e3]at e2;cases e2
   |some o=>rw[e3]at e2;have e4:o=some d:=e2;subst e4;obtain⟨v,k1,k2⟩:=en.2 j d e3;exact⟨v,by unfold csOf;rw[ZQ,e1];show some ((σ[j]?).join)=_;rw[k1];rfl,k2⟩
theorem c_comp{tg0:Expr}{box:Bool}{tg:CT}{it:CE}{ifs:List CE}{body:CE}{Q:VK}(h:tE X.K X.mg E Φ Γ (.comp box N' fr tg it ifs body) σ H Q):
  tComp (csOf fr) (tI X.K X.mg E Φ Γ it) (gCT X.K tg) (tC X.K X.mg Φ Γ ifs body) σ H Q:=by
 obtain⟨F,μ,ρ,S,sk,en,w⟩:=h;refine⟨F,μ,ρ,S,sk,en,?_⟩;simp only[den]at w;refine WantG.mono (Rel:=λμ' H' its J=>ItOk X.K ⟨X.mg,F⟩ J (getOf its) μ' H') (WantG.bind w) λJ H1 h acc hacc=>?_;obtain⟨μ1,S1,its,x1,s1,ok,w1⟩:=h
 have st:CSt X.K X.mg F acc (λμ H=>Chg X.K F μ1 H1 (acc::F) μ H) μ1 H1 μ1 S1 (upd H1 acc (.lst [])) (fr.map λj=>j.bind λj=>(ρ[j]?).join) (csOf fr σ) [] []:={
  n0:=hacc
  ext:=.laid hacc
  sok:=s1.start hacc
  nin:=s1.notin hacc
  env:=(env_cs (en.mono x1)).chg (.start hacc)
  at_:=a0h'
  rep:=.nil
  b:=.start hacc}
 refine a7H' (Q:=λ_ H=>Q (.ref acc) H) (B:=λμ H=>Chg X.K F μ1 H1 (acc::F) μ H) (n:=a5Q' its) (λμa Ha μb Hb q c=>q.trans c) ok (.start hacc) st ?_;have w2:WantG X.K ⟨X.mg,F⟩ E (Rep X.K ⟨X.mg,F⟩) μ1 H1 Q ((compI (stepN Φ Γ tg ifs body (fr.map λj=>j.bind λj=>(ρ[j]?).join)) its [] S1).noErr.bind λys S5=>if box=true then .ok (.ref S5.length) (S5++[ys])else .ok (.lst ys) S5):=w1;rw[a5R']at w2;cases e:compB (stepN Φ Γ tg ifs body (fr.map λj=>j.bind λj=>(ρ[j]?).join)) (getOf its) (a5Q' its) 0 [] S1 with
 |ok ys S5=>
  rw[e]at w2;intro μ' H' σ' vs' st';have hF:acc∉F:=s1.notF hacc;cases box with
  |false=>refine w2 μ' H' (.ref acc) st'.ext st'.sok.out ?_;unfold Rep;exact⟨acc,vs',rfl,st'.at_,⟨st'.nin,hF⟩,RepL.chg .out _ _ st'.rep⟩
  |true=>refine w2 (μ'++[acc]) H' (.ref acc) (st'.ext.outBox hacc) (st'.sok.outBox st'.nin st'.at_ st'.rep) ?_;unfold Rep;refine⟨acc,rfl,?_⟩;have hl:=st'.sok.len;rw[Zr (by omega)];simp[hl]
 |err y S5=>rw[e]at w2;exact w2.elim
 |fail=>rw[e]at w2;exact w2.elim
end
section
variable {R:Result→Shared→Prop}{P:Nat→Value→Prop}{St:Nat→Heap→Prop}
end
section
variable {R:Result→Shared→Prop}{P:Nat→Value→Prop}{St:Nat→Heap→Prop}
end
section
variable {R:Result→Shared→Prop}{P:Nat→Value→Prop}{St:Nat→Heap→Prop}
end
end Py
section
set_option autoImplicit false
namespace Srt
def gallop':Bool→Keyed→Array Keyed→Nat→Nat→Nat→StateT SortSt Sem (Option Nat):=sortPriv%PySem.Builtin.gallop
def a8O':Array Keyed→Array Keyed→StateT SortSt Sem (Array Keyed):=sortPriv%PySem.Builtin.mergeLo
def a8P':Array Keyed→Array Keyed→StateT SortSt Sem (Array Keyed):=sortPriv%PySem.Builtin.mergeHi
def dK:Keyed:=(Value.none,Value.none)
structure Cmp (prog:Program)(w:World)(A:Around)(s:Shared)(κ:SortKind)(P:Keyed→Prop)(K:Keyed→Nat):Prop where
 lt:∀x,P x→∀y,P y→∀(Q:Bool→Shared→Prop) (E:Vs),Q (decide (K x<K y)) s→wpAny (model prog w) A (keyLt' κ x.1 y.1) Q E s
def R(K:Keyed→Nat)(xs:Array Keyed)(i:Nat):Nat:=K (xs.getD i dK)
section
variable {st:SortSt}{P:Keyed→Prop}{K:Keyed→Nat}
theorem getD_of{xs:Array Keyed}{i:Nat}(h:i<xs.size):xs.getD i dK=xs[i]:=by unfold Array.getD;rw[dif_pos h];rfl
theorem R_of{xs:Array Keyed}{i:Nat}(h:i<xs.size):R K xs i=K xs[i]:=by unfold R;rw[getD_of h]
theorem a5U'(C:Cmp prog w A s κ P K){x y:Keyed}(hx:P x)(hy:P y)(hk:kindOf st=κ){Q:Option Bool→SortSt→Prop}(h:Q (some (decide (K x<K y))) st):wpS (model prog w) A E s (lt' x y) Q st:=by rw[lt'_eq];refine Zj (wpS_get ?_);rw[hk];refine Zj (wpS_lift (wpAny_attempt (C.lt x hx y hy _ _ ⟨rfl,?_⟩)));exact Zl h
theorem a0f'{xs:Array Keyed}{i:Nat}(hi:i<xs.size){Q:Keyed→SortSt→Prop}(h:Q xs[i] st):wpS (model prog w) A E s (elem' xs i) Q st:=by rw[elem'_eq,getElem?_pos xs i hi];exact Zl h
def thr(K:Keyed→Nat)(left:Bool)(key:Keyed):Nat:=if left=true then K key else K key+1
theorem a0Z'(C:Cmp prog w A s κ P K){arr:Array Keyed}{i:Nat}(ha:∀x∈arr.toList,P x)(hy:P key)(hk:kindOf st=κ)(hi:i<arr.size){Q:Option Bool→SortSt→Prop}(h:Q (some (decide (R K arr i<thr K left key))) st):
  wpS (model prog w) A E s (elem' arr i>>=λx=>if left=true then lt' x key else lt' key x>>=λr=>pure (r.map λb=> !b)) Q st:=by
 refine Zj (a0f' hi ?_);have hx:P arr[i]:=ha _ (by simp);rw[R_of hi]at h;cases left with
 |true=>exact a5U' C hx hy hk h
 |false=>
  refine Zj (a5U' C hy hx hk ?_);refine Zl ?_;have e:(!decide (K key<K arr[i]))=decide (K arr[i]<thr K false key):=by rw[←decide_not];exact decide_eq_decide.mpr (by show ¬K key<K arr[i]↔K arr[i]<K key+1;lia)
  show Q (some (!decide (K key<K arr[i]))) st;rw[e];exact h
theorem a0M'(C:Cmp prog w A s κ P K){arr:Array Keyed}{base hint:Nat}(ha:∀x∈arr.toList,P x)(hy:P key)(hk:kindOf st=κ)(hz:base+n≤arr.size)(hh:hint<n)
  (hs:∀i j,i≤j→j<n→R K arr (base+i)≤R K arr (base+j)) {Q:Option Nat→SortSt→Prop}
  (h:∀k,k≤n→(∀i,i<k→R K arr (base+i)<thr K left key)→(∀i,k≤i→i<n→thr K left key≤R K arr (base+i))→Q (some k) st):wpS (model prog w) A E s (gallop' left key arr base n hint) Q st:=by
 have last:∀lo hi:Nat,lo≤hi→hi≤n→(∀i,i<lo→R K arr (base+i)<thr K left key)→(∀i,hi≤i→i<n→thr K left key≤R K arr (base+i))→
   ∀{f:Nat→Option (Option Nat)×Nat×Nat→StateT SortSt Sem (ForInStep (Option (Option Nat)×Nat×Nat))} {g:Option (Option Nat)×Nat×Nat→StateT SortSt Sem (Option Nat)},
   (∀x lo hi,lo<hi→hi≤n→∀Q',(R K arr (base+(lo+(hi-lo)/2))<thr K left key→Q' (.yield (none,lo+(hi-lo)/2+1,hi)) st)→(¬R K arr (base+(lo+(hi-lo)/2))<thr K left key→Q' (.yield (none,lo,lo+(hi-lo)/2)) st)→wpS (model prog w) A E s (f x (none,lo,hi)) Q' st)→
   (∀x lo hi,hi≤lo→f x (none,lo,hi)=pure (.done (none,lo,hi)))→(∀lo hi,g (none,lo,hi)=pure (some hi))→wpS (model prog w) A E s (forIn [:n] (none,lo,hi) f>>=g) Q st:=by
  intro lo hi h1 h2 h3 h4 f g hf hd hg
  refine Zj (wpS_mono (ZO (I:=λx c st'=>st'=st∧∃lo hi,c=(none,lo,hi)∧lo≤hi∧hi≤n∧hi-lo≤n-x∧(∀i,i<lo→R K arr (base+i)<thr K left key)∧(∀i,hi≤i→i<n→thr K left key≤R K arr (base+i)))
   (Q:=λc st'=>st'=st∧∃hi,c=(none,hi,hi)∧hi≤n∧(∀i,i<hi→R K arr (base+i)<thr K left key)∧(∀i,hi≤i→i<n→thr K left key≤R K arr (base+i))) ?_ ?_ ⟨rfl,lo,hi,rfl,h1,h2,by lia,h3,h4⟩) ?_)
  ·rintro x c st' _ hx ⟨rfl,lo,hi,rfl,k1,k2,k3,k4,k5⟩;by_cases hlt:hi≤lo
   ·rw[hd x lo hi hlt];have:lo=hi:=by lia
    subst this;exact Zl ⟨rfl,lo,rfl,k2,k4,k5⟩
   ·refine hf x lo hi (by lia) k2 _ (λhm=>⟨rfl,_,_,rfl,by lia,k2,by lia,λi hi'=>?_,k5⟩) (λhm=>⟨rfl,_,_,rfl,by lia,by lia,by lia,k4,λi h1 h2=>?_⟩)
    ·have:=hs i (lo+(hi-lo)/2) (by lia) (by lia);lia
    ·have:=hs (lo+(hi-lo)/2) i (by lia) (by lia);lia
  ·rintro c st' ⟨rfl,lo,hi,rfl,k1,k2,k3,k4,k5⟩;have:lo=hi:=by lia
   subst this;exact⟨rfl,lo,rfl,k2,k4,k5⟩
  ·rintro c st' ⟨rfl,hi,rfl,k2,k4,k5⟩;rw[hg];exact Zl (h hi k2 k4 k5)
 refine Zj (a0Z' C ha hy hk (by lia) ?_);by_cases hr:R K arr (base+hint)<thr K left key
 ·rw[ZS hr]
  refine Zj (wpS_mono (ZO (I:=λx c st'=>st'=st∧∃l o,c=(none,l,o)∧l<o∧x+1≤o∧hint+l<n∧R K arr (base+(hint+l))<thr K left key)
   (Q:=λc st'=>st'=st∧∃l o,c=(none,l,o)∧l<o∧hint+l<n∧R K arr (base+(hint+l))<thr K left key∧(n-hint≤o∨(hint+o<n∧thr K left key≤R K arr (base+(hint+o))))) ?_ ?_ ⟨rfl,0,1,rfl,by lia,by lia,by lia,hr⟩) ?_)
  ·rintro x c st' _ hx ⟨rfl,l,o,rfl,k1,k2,k3,k4⟩;dsimp only;by_cases ho:o≥n-hint
   ·rw[if_pos ho];exact Zl ⟨rfl,l,o,rfl,k1,k3,k4,.inl ho⟩
   ·rw[if_neg ho];refine Zj (a0Z' C ha hy hk (by lia) ?_);by_cases hm:R K arr (base+(hint+o))<thr K left key
    ·rw[ZS hm];exact Zl ⟨rfl,o,2*o+1,rfl,by lia,by lia,by lia,hm⟩
    ·rw[Zy hm];exact Zl ⟨rfl,l,o,rfl,k1,k3,k4,.inr ⟨by lia,by lia⟩⟩
  ·rintro c st' ⟨rfl,l,o,rfl,k1,k2,k3,k4⟩;exact⟨rfl,l,o,rfl,k1,k3,k4,.inl (by lia)⟩
  ·rintro c st' ⟨rfl,l,o,rfl,k1,k3,k4,k5⟩;refine last (hint+l+1) (hint+min o (n-hint)) (by lia) (by lia) (λi hi=>?_) (λi h1 h2=>?_) (λx lo hi h1 h2 Q' q1 q2=>?_) (λx lo hi h1=>if_pos h1) (λlo hi=>rfl)
   ·have:=hs i (hint+l) (by lia) (by lia);lia
   ·rcases k5 with k5| ⟨k5,k6⟩
    ·lia
    ·have:=hs (hint+o) i (by lia) (by lia);lia
   ·dsimp only;rw[if_neg (by lia)];refine Zj (a0Z' C ha hy hk (by lia) ?_);by_cases hm:R K arr (base+(lo+(hi-lo)/2))<thr K left key
    ·rw[ZS hm];exact Zl (q1 hm)
    ·rw[Zy hm];exact Zl (q2 hm)
 ·rw[Zy hr]
  refine Zj (wpS_mono (ZO (I:=λx c st'=>st'=st∧∃l o,c=(none,l,o)∧l<o∧x+1≤o∧l≤hint∧thr K left key≤R K arr (base+(hint-l)))
   (Q:=λc st'=>st'=st∧∃l o,c=(none,l,o)∧l<o∧l≤hint∧thr K left key≤R K arr (base+(hint-l))∧(hint+1≤o∨(o≤hint∧R K arr (base+(hint-o))<thr K left key))) ?_ ?_ ⟨rfl,0,1,rfl,by lia,by lia,by lia,by simpa using hr⟩) ?_)
  ·rintro x c st' _ hx ⟨rfl,l,o,rfl,k1,k2,k3,k4⟩;dsimp only;by_cases ho:o≥hint+1
   ·rw[if_pos ho];exact Zl ⟨rfl,l,o,rfl,k1,k3,k4,.inl ho⟩
   ·rw[if_neg ho];refine Zj (a0Z' C ha hy hk (by lia) ?_);by_cases hm:R K arr (base+(hint-o))<thr K left key
    ·rw[ZS hm];exact Zl ⟨rfl,l,o,rfl,k1,k3,k4,.inr ⟨by lia,hm⟩⟩
    ·rw[Zy hm];exact Zl ⟨rfl,o,2*o+1,rfl,by lia,by lia,by lia,by lia⟩
  ·rintro c st' ⟨rfl,l,o,rfl,k1,k2,k3,k4⟩;exact⟨rfl,l,o,rfl,k1,k3,k4,.inl (by lia)⟩
  ·rintro c st' ⟨rfl,l,o,rfl,k1,k3,k4,k5⟩;refine last (hint+1-min o (hint+1)) (hint-l) (by lia) (by lia) (λi hi=>?_) (λi h1 h2=>?_) (λx lo hi h1 h2 Q' q1 q2=>?_) (λx lo hi h1=>if_pos h1) (λlo hi=>rfl)
   ·rcases k5 with k5| ⟨k5,k6⟩
    ·lia
    ·have:=hs i (hint-o) (by lia) (by lia);lia
   ·have:=hs (hint-l) i (by lia) (by lia);lia
   ·dsimp only;rw[if_neg (by lia)];refine Zj (a0Z' C ha hy hk (by lia) ?_);by_cases hm:R K arr (base+(lo+(hi-lo)/2))<thr K left key
    ·rw[ZS hm];exact Zl (q1 hm)
    ·rw[Zy hm];exact Zl (q2 hm)
end
end Srt
end
section
set_option autoImplicit false
namespace Srt
section
variable {K:Keyed→Nat}
def LS(K:Keyed→Nat)(l:List Keyed):Prop:=l.Pairwise λx y=>K x≤K y
def Good(K:Keyed→Nat)(tot:List Keyed)(r:Array Keyed):Prop:=r.toList.Perm tot∧LS K r.toList
structure MI (K:Keyed→Nat)(tot o ra rb:List Keyed):Prop where
 perm:(o++ra++rb).Perm tot
 so:LS K o
 sa:LS K ra
 sb:LS K rb
 oa:∀x∈o,∀y∈ra,K x≤K y
 ob:∀x∈o,∀y∈rb,K x≤K y
variable {tot o ra rb c:List Keyed}
theorem MI.stepA(h:MI K tot o (c++ra) rb)(hc:∀x∈c,∀y∈rb,K x≤K y):MI K tot (o++c) ra rb:=by
 have sa:=ZB.mp h.sa;refine⟨?_,ZB.mpr ⟨h.so,sa.1,λx hx y hy=>h.oa x hx y (ZG _ hy)⟩,sa.2.1,h.sb,λx hx y hy=>?_,λx hx y hy=>?_⟩
 ·have:=h.perm
  rwa [←Zs]at this
 ·rcases ZC.mp hx with z|z
  ·exact h.oa x z y (Zq _ hy)
  ·exact sa.2.2 x z y hy
 ·rcases ZC.mp hx with z|z
  ·exact h.ob x z y hy
  ·exact hc x z y hy
theorem MI.stepB(h:MI K tot o ra (c++rb))(hc:∀x∈c,∀y∈ra,K x≤K y):MI K tot (o++c) ra rb:=by
 have sb:=ZB.mp h.sb;refine⟨?_,ZB.mpr ⟨h.so,sb.1,λx hx y hy=>h.ob x hx y (ZG _ hy)⟩,h.sa,sb.2.1,λx hx y hy=>?_,λx hx y hy=>?_⟩
 ·refine List.Perm.trans ?_ h.perm;rw[Zs,Zs,Zs];refine List.Perm.append_left _ ?_;rw[←Zs,←Zs];exact List.Perm.append_right _ List.perm_append_comm
 ·rcases ZC.mp hx with z|z
  ·exact h.oa x z y hy
  ·exact hc x z y hy
 ·rcases ZC.mp hx with z|z
  ·exact h.ob x z y (Zq _ hy)
  ·exact sb.2.2 x z y hy
theorem MI.done(h:MI K tot o ra []):(o++ra++[]).Perm tot∧LS K (o++ra++[]):=by refine⟨h.perm,?_⟩;rw[List.append_nil];exact ZB.mpr ⟨h.so,h.sa,h.oa⟩
theorem MI.last(h:MI K tot o ra rb)(hb:∀y∈rb,∀z∈ra,K y≤K z):(o++rb++ra).Perm tot∧LS K (o++rb++ra):=by
 refine⟨List.Perm.trans ?_ h.perm,ZB.mpr ⟨ZB.mpr ⟨h.so,h.sb,h.ob⟩,h.sa,λx hx y hy=>?_⟩⟩
 ·rw[Zs,Zs];exact List.Perm.append_left _ List.perm_append_comm
 ·rcases ZC.mp hx with z|z
  ·exact h.oa x z y hy
  ·exact hb x z y hy
theorem a2L'{a:Array Keyed}{i:Nat}:(a.extract i).toList=a.toList.drop i:=by rw[Array.toList_extract];unfold List.extract;rw[List.take_of_length_le (by simp)]
theorem a5V'{a:Array Keyed}{i:Nat}:(a.extract i (i+k)).toList=(a.toList.drop i).take k:=by rw[Array.toList_extract];unfold List.extract;rw[Nat.add_sub_cancel_left]
theorem a4p'{a:Array Keyed}{i:Nat}(h:i<a.size):a.toList.drop i=a[i]::a.toList.drop (i+1):=by rw[List.drop_eq_getElem_cons (by simpa using h)];rfl
theorem a3e'{a:Array Keyed}{i:Nat}:a.toList.drop i=(a.toList.drop i).take k++a.toList.drop (i+k):=by rw[←List.drop_drop,List.take_append_drop]
theorem LS.mono{a:Array Keyed}(h:LS K a.toList){i j:Nat}(hij:i≤j)(hj:j<a.size):R K a i≤R K a j:=by
 rw[R_of hj,R_of (show i<a.size by lia)];rcases Nat.lt_or_ge i j with z|z
 ·exact List.pairwise_iff_getElem.mp h i j (by simp;lia) (by simpa using hj) z
 ·have:i=j:=by lia
  subst this;exact Zi _
theorem a1a'{a:Array Keyed}{i:Nat}{x:Keyed}(h:x∈(a.toList.drop i).take k):∃j,j<k∧i+j<a.size∧K x=R K a (i+j):=by obtain⟨j,hj,rfl⟩:=ZW.mp h;simp only[ZN,List.length_drop,Zu]at hj;refine⟨j,by lia,by lia,?_⟩;rw[R_of (show i+j<a.size by lia)];simp
theorem a3J'{a:Array Keyed}{i:Nat}{x:Keyed}(h:x∈a.toList.drop i):∃j,i≤j∧j<a.size∧K x=R K a j:=by obtain⟨j,hj,rfl⟩:=ZW.mp h;simp only[List.length_drop,Zu]at hj;refine⟨i+j,by lia,by lia,?_⟩;rw[R_of (show i+j<a.size by lia)];simp
end
def a0s'(st:SortSt)(g:Nat):SortSt:=SortSt.mk' (kindOf st) (arrOf st) (pendingOf st) g (failedOf st)
section
variable {st:SortSt}{P:Keyed→Prop}{K:Keyed→Nat}
structure ML (K:Keyed→Nat)(a b out:Array Keyed)(ia ib:Nat):Prop where
 mi:MI K (a.toList++b.toList) out.toList (a.toList.drop ia) (b.toList.drop ib)
 la:ia+1<a.size
 lb:ib<b.size
variable {a b out:Array Keyed}{ia ib:Nat}
theorem a1Q'(h:MI K (a.toList++b.toList) out.toList (a.toList.drop ia) (b.toList.drop ib))(e:ib=b.size):Good K (a.toList++b.toList) (out++a.extract ia++b.extract ib):=by have e1:b.toList.drop ib=[]:=List.drop_eq_nil_of_le (by simp;lia);unfold Good;rw[ZJ,ZJ,a2L',a2L',e1];rw[e1]at h;exact h.done
theorem a1R'(hl:∀y∈b.toList,K y<R K a (a.size-1))(h:MI K (a.toList++b.toList) out.toList (a.toList.drop ia) (b.toList.drop ib))(e:ia+1=a.size):Good K (a.toList++b.toList) (out++b.extract ib++a.extract ia):=by unfold Good;rw[ZJ,ZJ,a2L',a2L'];refine h.last λy hy z hz=>?_;obtain⟨j,h1,h2,e2⟩:=a3J' (K:=K) hz;have:=hl y (List.mem_of_mem_drop hy);rw[e2,show j=a.size-1 by lia];lia
theorem mi_a(h:MI K (a.toList++b.toList) out.toList (a.toList.drop ia) (b.toList.drop ib))(hi:ia<a.size)(hc:∀y∈b.toList.drop ib,K a[ia]≤K y):MI K (a.toList++b.toList) (out.push a[ia]).toList (a.toList.drop (ia+1)) (b.toList.drop ib):=by
 rw[Array.toList_push];refine MI.stepA (c:=[a[ia]]) ?_ λx hx y hy=>?_
 ·rw[a4p' hi]at h;exact h
 ·rw[List.mem_singleton.mp hx];exact hc y hy
theorem mi_b(h:MI K (a.toList++b.toList) out.toList (a.toList.drop ia) (b.toList.drop ib))(hi:ib<b.size)(hc:∀y∈a.toList.drop ia,K b[ib]≤K y):MI K (a.toList++b.toList) (out.push b[ib]).toList (a.toList.drop ia) (b.toList.drop (ib+1)):=by
 rw[Array.toList_push];refine MI.stepB (c:=[b[ib]]) ?_ λx hx y hy=>?_
 ·rw[a4p' hi]at h;exact h
 ·rw[List.mem_singleton.mp hx];exact hc y hy
theorem mi_as(h:MI K (a.toList++b.toList) out.toList (a.toList.drop ia) (b.toList.drop ib))(hc:∀i,i<k→∀y∈b.toList.drop ib,R K a (ia+i)≤K y):MI K (a.toList++b.toList) (out++a.extract ia (ia+k)).toList (a.toList.drop (ia+k)) (b.toList.drop ib):=by
 rw[ZJ,a5V'];refine MI.stepA ?_ λx hx y hy=>?_
 ·rw[←a3e'];exact h
 ·obtain⟨j,h1,h2,e⟩:=a1a' (K:=K) hx;rw[e];exact hc j h1 y hy
theorem mi_bs(h:MI K (a.toList++b.toList) out.toList (a.toList.drop ia) (b.toList.drop ib))(hc:∀i,i<k→∀y∈a.toList.drop ia,R K b (ib+i)≤K y):MI K (a.toList++b.toList) (out++b.extract ib (ib+k)).toList (a.toList.drop ia) (b.toList.drop (ib+k)):=by
 rw[ZJ,a5V'];refine MI.stepB ?_ λx hx y hy=>?_
 ·rw[←a3e'];exact h
 ·obtain⟨j,h1,h2,e⟩:=a1a' (K:=K) hx;rw[e];exact hc j h1 y hy
end
end Srt
end
section
set_option autoImplicit false
namespace Srt
abbrev GS7:=Option (Array Keyed)×Array Keyed×Nat×Nat×Nat×Nat×Nat
def YG(K:Keyed→Nat)(a b:Array Keyed)(st:SortSt)(n:Nat)(c:GS7)(st':SortSt):Prop:=(∃g,st'=a0s' st g)∧∃out ja jb mg ac bc,c=(none,out,ja,jb,mg,ac,bc)∧ML K a b out ja jb∧n≤ja+jb
def DG(K:Keyed→Nat)(a b:Array Keyed)(st:SortSt)(n:Nat)(c:GS7)(st':SortSt):Prop:=(∃g,st'=a0s' st g)∧((∃r c',c=(some r,c')∧Good K (a.toList++b.toList) r)∨∃out ja jb mg ac bc,c=(none,out,ja,jb,mg,ac,bc)∧ML K a b out ja jb∧n≤ja+jb)
def Post{γ:Type}(D Y:γ→SortSt→Prop):ForInStep γ→SortSt→Prop:=λr st'=>match r with
 | .done c=>D c st'
 | .yield c=>Y c st'
theorem sel0{X:Type _}{p:X→Prop}{c:Prop}{dc:Decidable c}{f:Nat→X}{o2:Nat}(key:∀o,p (f o)):∀o1,p (if c then f o1 else f o2):=λo1=>by split<;>exact key _
theorem sel1{X:Type _}{p:X→Prop}{c:Prop}{dc:Decidable c}{dc1:∀j,Decidable (c1 j)}{x1 f:Array Keyed→Nat→X}{C H:Array Keyed→Nat→Prop}(key:∀o j,C o j→p (f o j))(h0:¬c→C o2 j2)(h1:∀o j,H o j→c1 j→p (x1 o j))(h3:∀o j,H o j→¬c1 j→C o j):
  ∀j1 o1,H o1 j1→p (if c then(if c1 j1 then x1 o1 j1 else f o1 j1)else f o2 j2):=λj1 o1 h=>by
 by_cases hc:c
 ·rw[if_pos hc];by_cases hc1:c1 j1
  ·rw[if_pos hc1];exact h1 _ _ h hc1
  ·rw[if_neg hc1];exact key _ _ (h3 _ _ h hc1)
 ·rw[if_neg hc];exact key _ _ (h0 hc)
theorem sel2{X:Type _}{p:X→Prop}{c:Prop}{c2:Nat→Prop}{dc:Decidable c}{dc1:∀j,Decidable (c1 j)}{dc2:∀j,Decidable (c2 j)}{x1 x2 f:Array Keyed→Nat→X}{C H:Array Keyed→Nat→Prop}(key:∀o j,C o j→p (f o j))(h0:¬c→C o2 j2)(h1:∀o j,H o j→c1 j→p (x1 o j))(h2:∀o j,H o j→¬c1 j→¬c2 j)(h3:∀o j,H o j→¬c1 j→C o j):
  ∀j1 o1,H o1 j1→p (if c then(if c1 j1 then x1 o1 j1 else if c2 j1 then x2 o1 j1 else f o1 j1)else f o2 j2):=λj1 o1 h=>by
 by_cases hc:c
 ·rw[if_pos hc];by_cases hc1:c1 j1
  ·rw[if_pos hc1];exact h1 _ _ h hc1
  ·rw[if_neg hc1,if_neg (h2 _ _ h hc1)];exact key _ _ (h3 _ _ h hc1)
 ·rw[if_neg hc];exact key _ _ (h0 hc)
section
variable {st:SortSt}{P:Keyed→Prop}{K:Keyed→Nat}{a b:Array Keyed}
theorem a4L'(C:Cmp prog w A s κ P K)(hk:kindOf st=κ)(ha:∀x∈a.toList,P x)(hb:∀x∈b.toList,P x)(sa:LS K a.toList)(sb:LS K b.toList)(a1:1≤a.size)(b1:1≤b.size)
  (h0:R K b 0<R K a 0) (hl:∀y∈b.toList,K y<R K a (a.size-1)) {Q:Array Keyed→SortSt→Prop} (h:∀r g,Good K (a.toList++b.toList) r→Q r (a0s' st g)):wpS (model prog w) A E s (a8O' a b) Q st:=by
 have hB:∀{i:Nat} (hi:i<b.size),R K b i=K b[i]:=λhi=>R_of hi;have hA:∀{i:Nat} (hi:i<a.size),R K a i=K a[i]:=λhi=>R_of hi;have pA:∀{i:Nat} (hi:i<a.size),P a[i]:=λhi=>ha _ (by simp);have pB:∀{i:Nat} (hi:i<b.size),P b[i]:=λhi=>hb _ (by simp);have lA:∀{i j:Nat},i≤j→j<a.size→R K a i≤R K a j:=λh1 h2=>sa.mono h1 h2;have lB:∀{i j:Nat},i≤j→j<b.size→R K b i≤R K b j:=λh1 h2=>sb.mono h1 h2
 have dA:∀{i:Nat} {c:Nat},(∀j,i≤j→j<a.size→c≤R K a j)→∀y∈a.toList.drop i,c≤K y:=λhc y hy=>by obtain⟨j,h1,h2,e⟩:=a3J' (K:=K) hy;rw[e];exact hc j h1 h2
 have dB:∀{i:Nat} {c:Nat},(∀j,i≤j→j<b.size→c≤R K b j)→∀y∈b.toList.drop i,c≤K y:=λhc y hy=>by obtain⟨j,h1,h2,e⟩:=a3J' (K:=K) hy;rw[e];exact hc j h1 h2
 have hlb:∀{i:Nat} (hi:i<b.size),R K b i<R K a (a.size-1):=λhi=>by rw[hB hi];exact hl _ (by simp)
 have m0:MI K (a.toList++b.toList) #[b[0]].toList (a.toList.drop 0) (b.toList.drop 1):=by have m:MI K (a.toList++b.toList) (#[]:Array Keyed).toList (a.toList.drop 0) (b.toList.drop 0):=⟨.refl _,.nil,sa,sb,λx hx=>by simp at hx,λx hx=>by simp at hx⟩;exact mi_b m (by lia) (dA λj h1 h2=>by rw[←hB];have:=lA (i:=0) (j:=j) (by lia) h2;lia)
 have kg:∀g,kindOf (a0s' st g)=κ:=λg=>hk;have gg:∀g g',a0s' (a0s' st g) g'=a0s' st g':=λ_ _=>rfl;refine Zj (wpS_lift (wpAny_rule ⟨rfl,?_⟩));refine Zj (a0f' (by lia) ?_);dsimp only;by_cases e1:1=b.size
 ·rw[if_pos (by simpa using e1)];exact Zl (h _ (gallopOf st) (a1Q' m0 e1))
 rw[if_neg (by simpa using e1)];by_cases e2:0+1=a.size
 ·rw[if_pos (by simpa using e2)];exact Zl (h _ (gallopOf st) (a1R' hl m0 e2))
 rw[if_neg (by simpa using e2)];refine Zj (wpS_get ?_)
 refine Zj (wpS_mono (ZO (I:=λx c st'=>(∃g,st'=a0s' st g)∧∃out ia ib mg,c=(none,out,ia,ib,mg)∧ML K a b out ia ib∧x≤ia+ib)
  (Q:=λc st'=>(∃g,st'=a0s' st g)∧∃r c',c=(some r,c')∧Good K (a.toList++b.toList) r) ?_ ?_ ⟨⟨gallopOf st,rfl⟩,_,_,_,_,rfl,⟨m0,by lia,by lia⟩,by lia⟩) ?_)
 case _=>
  rintro x c st' _ hx ⟨⟨g,rfl⟩,out,ia,ib,mg,rfl,m,hp⟩;dsimp only
  refine Zj (wpS_mono (ZO (I:=λy c st'=>st'=a0s' st g∧∃out ia' ib' ac bc,c=(none,out,ia',ib',ac,bc)∧ML K a b out ia' ib'∧ia+ib+y≤ia'+ib')
   (Q:=λc st'=>st'=a0s' st g∧((∃r c',c=(some r,c')∧Good K (a.toList++b.toList) r)∨∃out ia' ib' ac bc,c=(none,out,ia',ib',ac,bc)∧ML K a b out ia' ib'∧ia+ib+1≤ia'+ib')) ?_ ?_ ⟨rfl,_,_,_,_,_,rfl,m,by lia⟩) ?_)
  ·rintro y c st' _ hy ⟨rfl,out,ia',ib',ac,bc,rfl,m,hp'⟩;have la:=m.la;have lb:=m.lb;dsimp only;refine Zj (a0f' lb ?_);refine Zj (a0f' (by lia) ?_);refine Zj (a5U' C (pB lb) (pA (by lia)) (kg g) ?_);by_cases hw:K b[ib']<K a[ia']
   ·rw[ZS hw];refine Zj (a0f' lb ?_);have m':=mi_b m.mi lb (dA λj h1 h2=>by have:=lA h1 h2;rw[hA (show ia'<a.size by lia)]at this;lia);by_cases e:ib'+1=b.size
    ·rw[if_pos (by simpa using e)];exact Zl ⟨rfl,.inl ⟨_,_,rfl,a1Q' m' e⟩⟩
    ·rw[if_neg (by simpa using e)];by_cases hg:bc+1≥mg
     ·rw[if_pos hg];exact Zl ⟨rfl,.inr ⟨_,_,_,_,_,rfl,⟨m',la,by lia⟩,by lia⟩⟩
     ·rw[if_neg hg];exact Zl ⟨rfl,_,_,_,_,_,rfl,⟨m',la,by lia⟩,by lia⟩
   ·rw[Zy hw];refine Zj (a0f' (by lia) ?_);have m':=mi_a m.mi (show ia'<a.size by lia) (dB λj h1 h2=>by have:=lB h1 h2;rw[hB lb]at this;lia);by_cases e:ia'+1+1=a.size
    ·rw[if_pos (by simpa using e)];exact Zl ⟨rfl,.inl ⟨_,_,rfl,a1R' hl m' e⟩⟩
    ·rw[if_neg (by simpa using e)];by_cases hg:ac+1≥mg
     ·rw[if_pos hg];exact Zl ⟨rfl,.inr ⟨_,_,_,_,_,rfl,⟨m',by lia,lb⟩,by lia⟩⟩
     ·rw[if_neg hg];exact Zl ⟨rfl,_,_,_,_,_,rfl,⟨m',by lia,lb⟩,by lia⟩
  ·rintro c st' ⟨rfl,out,ia',ib',ac,bc,rfl,m,hp'⟩;have la:=m.la;have lb:=m.lb;exfalso;lia
  ·rintro c st' ⟨rfl,⟨r,c',rfl,gd⟩| ⟨out,ia',ib',ac,bc,rfl,m,hp'⟩⟩
   ·exact Zl ⟨⟨g,rfl⟩,r,_,rfl,gd⟩
   ·refine Zj (wpS_lift (wpAny_rule ⟨rfl,?_⟩));refine Zj (wpS_mono (ZO (I:=λy=>YG K a b st (ia'+ib'+y)) (Q:=DG K a b st (ia'+ib')) ?_ ?_ ⟨⟨g,rfl⟩,_,_,_,_,_,_,rfl,m,by dsimp only;lia⟩) ?_)
    ·rintro y c st' _ hy ⟨⟨g1,rfl⟩,out,ja,jb,mg1,ac1,bc1,rfl,m,hq⟩;have la:=m.la;have lb:=m.lb;dsimp only;show wpS (model prog w) A E s _ (Post (DG K a b st (ia'+ib')) (YG K a b st (ia'+ib'+(y+1)))) (a0s' st g1);generalize mg1-1=q;revert q;refine sel0 (p:=λm=>wpS (model prog w) A E s m (Post (DG K a b st (ia'+ib')) (YG K a b st (ia'+ib'+(y+1)))) (a0s' st g1)) λmg2=>?_;refine Zj (wpS_modify (show wpS _ _ _ _ _ _ (a0s' st mg2)from ?_));refine Zj (a0f' lb ?_);refine Zj (a0M' C ha (pB lb) (kg mg2) (by lia) (by lia) (λi j h1 h2=>lA (by lia) (by lia)) λk k1 k2 k3=>?_);have t1:thr K false b[jb]=R K b jb+1:=by rw[hB lb];rfl
     rw[t1]at k2 k3
     have kn:k<a.size-ja:=by
      rcases Nat.lt_or_ge k (a.size-ja)with z|z
      ·exact z
      ·have h1:=k2 (a.size-ja-1) (by lia);have e:=hlb lb;rw[show ja+(a.size-ja-1)=a.size-1 by lia]at h1;lia
     have z0:∀j,ja+k≤j→j<a.size→R K b jb≤R K a j:=λj h1 h2=>by have:=k3 (j-ja) (by lia) (by lia);rw[show ja+(j-ja)=j by lia]at this;lia
     have mk:=mi_as m.mi (k:=k) λi hi y hy=>by have h1:=k2 i hi;have:=dB (i:=jb) (c:=R K b jb) (λj h1 h2=>lB h1 h2) y hy;lia
     dsimp only;have H1:MI K (a.toList++b.toList) (out++a.extract ja (ja+k)).toList (a.toList.drop (ja+k)) (b.toList.drop jb)∧ja≤ja+k∧ja+k<a.size∧∀j,ja+k≤j→j<a.size→R K b jb≤R K a j:=⟨mk,by lia,by lia,z0⟩;have c0:¬k>0→ML K a b out ja jb∧ia'+ib'+y≤ja+jb∧∀i,ja≤i→i<a.size→R K b jb≤R K a i:=λhk0=>⟨m,hq,λj h1 h2=>z0 j (by lia) h2⟩;revert H1;generalize ja+k=ja1;generalize out++a.extract ja ja1=out1;revert out1 ja1;refine sel2 (p:=λm=>wpS (model prog w) A E s m (Post (DG K a b st (ia'+ib')) (YG K a b st (ia'+ib'+(y+1)))) (a0s' st mg2)) (C:=λo j=>ML K a b o j jb∧ia'+ib'+y≤j+jb∧∀i,j≤i→i<a.size→R K b jb≤R K a i) (H:=λo j=>MI K (a.toList++b.toList) o.toList (a.toList.drop j) (b.toList.drop jb)∧ja≤j∧j<a.size∧∀i,j≤i→i<a.size→R K b jb≤R K a i) (λout ja hC=>?_) c0 (λo j hH e=>?_) (λo j hH e=>?_) (λo j hH e=>?_)
     rotate_left
     ·exact Zl ⟨⟨mg2,rfl⟩,.inl ⟨_,_,rfl,a1R' hl hH.1 (by simpa using e)⟩⟩
     ·have:=hH.2.2.1;simp;lia
     ·exact⟨⟨hH.1,by have:=hH.2.2.1;simp at e;lia,lb⟩,by have:=hH.2.1;lia,hH.2.2.2⟩
     clear mk z0 kn k2 k3 hq m;obtain⟨m,hq,hge⟩:=hC;have la:=m.la;refine Zj (a0f' lb ?_);have m':=mi_b m.mi lb (dA λj h1 h2=>by rw[←hB lb];exact hge j h1 h2);by_cases e:jb+1=b.size
     ·rw[if_pos (by simpa using e)];exact Zl ⟨⟨mg2,rfl⟩,.inl ⟨_,_,rfl,a1Q' m' e⟩⟩
     rw[if_neg (by simpa using e)];refine Zj (a0f' (show ja<a.size by lia) ?_);refine Zj (a0M' C hb (pA (show ja<a.size by lia)) (kg mg2) (by lia) (by lia) (λi j h1 h2=>lB (by lia) (by lia)) λk' k1' k2' k3'=>?_);have t2:thr K true a[ja]=R K a ja:=by rw[hA (show ja<a.size by lia)];rfl
     rw[t2]at k2' k3'
     have z1:∀j,jb+1+k'≤j→j<b.size→R K a ja≤R K b j:=λj h1 h2=>by
      have:=k3' (j-(jb+1)) (by lia) (by lia)
      rwa [show jb+1+(j-(jb+1))=j by lia]at this
     have mk:=mi_bs m' (k:=k') λi hi y hy=>by have h1:=k2' i hi;have:=dA (i:=ja) (c:=R K a ja) (λj h1 h2=>lA h1 h2) y hy;lia
     dsimp only;have H2:MI K (a.toList++b.toList) (out.push b[jb]++b.extract (jb+1) (jb+1+k')).toList (a.toList.drop ja) (b.toList.drop (jb+1+k'))∧jb+1+k'≤b.size∧jb+1≤jb+1+k'∧∀j,jb+1+k'≤j→j<b.size→R K a ja≤R K b j:=⟨mk,by lia,by lia,z1⟩;have c0:¬k'>0→MI K (a.toList++b.toList) (out.push b[jb]).toList (a.toList.drop ja) (b.toList.drop (jb+1))∧jb+1<b.size∧jb+1≤jb+1∧∀i,jb+1≤i→i<b.size→R K a ja≤R K b i:=λhk0=>⟨m',by lia,by lia,λj h1 h2=>z1 j (by lia) h2⟩;revert H2;generalize jb+1+k'=jb1;generalize out.push b[jb]++b.extract (jb+1) jb1=out1;revert out1 jb1;refine sel1 (p:=λm=>wpS (model prog w) A E s m (Post (DG K a b st (ia'+ib')) (YG K a b st (ia'+ib'+(y+1)))) (a0s' st mg2)) (C:=λo j=>MI K (a.toList++b.toList) o.toList (a.toList.drop ja) (b.toList.drop j)∧j<b.size∧jb+1≤j∧∀i,j≤i→i<b.size→R K a ja≤R K b i) (H:=λo j=>MI K (a.toList++b.toList) o.toList (a.toList.drop ja) (b.toList.drop j)∧j≤b.size∧jb+1≤j∧∀i,j≤i→i<b.size→R K a ja≤R K b i) (λout jb' hC=>?_) c0 (λo j hH e'=>?_) (λo j hH e'=>?_)
     rotate_left
     ·exact Zl ⟨⟨mg2,rfl⟩,.inl ⟨_,_,rfl,a1Q' hH.1 (by simpa using e')⟩⟩
     ·exact⟨hH.1,by have:=hH.2.1;simp at e';lia,hH.2.2.1,hH.2.2.2⟩
     obtain⟨m2,hb',hq',hge'⟩:=hC;refine Zj (a0f' (show ja<a.size by lia) ?_);have m3:=mi_a m2 (show ja<a.size by lia) (dB λj h1 h2=>by rw[←hA (show ja<a.size by lia)];exact hge' j h1 h2);by_cases e:ja+1+1=a.size
     ·rw[if_pos (by simpa using e)];exact Zl ⟨⟨mg2,rfl⟩,.inl ⟨_,_,rfl,a1R' hl m3 e⟩⟩
     rw[if_neg (by simpa using e)];by_cases hg:(decide (k<7)&&decide (k'<7))=true
     ·rw[if_pos hg];exact Zl ⟨⟨mg2,rfl⟩,.inr ⟨_,_,_,_,_,_,rfl,⟨m3,by lia,hb'⟩,by lia⟩⟩
     ·rw[if_neg hg];exact Zl ⟨⟨mg2,rfl⟩,_,_,_,_,_,_,rfl,⟨m3,by lia,hb'⟩,by lia⟩
    ·rintro c st' ⟨⟨g1,rfl⟩,out,ja,jb,mg1,ac1,bc1,rfl,m,hq⟩;have la:=m.la;have lb:=m.lb;exfalso;lia
    ·rintro c st' ⟨⟨g1,rfl⟩,⟨r,c',rfl,gd⟩| ⟨out,ja,jb,mg1,ac1,bc1,rfl,m,hq⟩⟩
     ·exact Zl ⟨⟨g1,rfl⟩,r,_,rfl,gd⟩
     ·refine Zj (wpS_modify (?_:wpS _ _ _ _ _ _ (a0s' st (mg1+1))));exact Zl ⟨⟨_,rfl⟩,_,_,_,_,rfl,m,by dsimp only;lia⟩
 case _=>rintro c st' ⟨⟨g,rfl⟩,out,ia,ib,mg,rfl,m,hp⟩;have la:=m.la;have lb:=m.lb;exfalso;lia
 case _=>rintro c st' ⟨⟨g,rfl⟩,r,c',rfl,gd⟩;exact Zl (h r g gd)
end
end Srt
end
section
set_option autoImplicit false
namespace Srt
section
variable {K:Keyed→Nat}
structure MH (K:Keyed→Nat)(tot ra rb o:List Keyed):Prop where
 perm:(ra++rb++o).Perm tot
 sa:LS K ra
 sb:LS K rb
 so:LS K o
 ao:∀x∈ra,∀y∈o,K x≤K y
 bo:∀x∈rb,∀y∈o,K x≤K y
variable {tot o ra rb c:List Keyed}
theorem MH.stepA(h:MH K tot (ra++c) rb o)(hc:∀x∈rb,∀y∈c,K x≤K y):MH K tot ra rb (c++o):=by
 have sa:=ZB.mp h.sa;refine⟨?_,sa.1,h.sb,ZB.mpr ⟨sa.2.1,h.so,λx hx y hy=>h.ao x (Zq _ hx) y hy⟩,λx hx y hy=>?_,λx hx y hy=>?_⟩
 ·refine List.Perm.trans ?_ h.perm;rw[Zs,Zs,Zs];refine List.Perm.append_left _ ?_;rw[←Zs,←Zs];exact List.Perm.append_right _ List.perm_append_comm
 ·rcases ZC.mp hy with z|z
  ·exact sa.2.2 x hx y z
  ·exact h.ao x (ZG _ hx) y z
 ·rcases ZC.mp hy with z|z
  ·exact hc x hx y z
  ·exact h.bo x hx y z
theorem MH.stepB(h:MH K tot ra (rb++c) o)(hc:∀x∈ra,∀y∈c,K x≤K y):MH K tot ra rb (c++o):=by
 have sb:=ZB.mp h.sb;refine⟨?_,h.sa,sb.1,ZB.mpr ⟨sb.2.1,h.so,λx hx y hy=>h.bo x (Zq _ hx) y hy⟩,λx hx y hy=>?_,λx hx y hy=>?_⟩
 ·have:=h.perm;rw[←Zs,Zs (ra++rb)]at this;exact this
 ·rcases ZC.mp hy with z|z
  ·exact hc x hx y z
  ·exact h.ao x hx y z
 ·rcases ZC.mp hy with z|z
  ·exact sb.2.2 x hx y z
  ·exact h.bo x (ZG _ hx) y z
theorem a4q'{a:Array Keyed}{i:Nat}(h:i<a.size):a.toList.take (i+1)=a.toList.take i++[a[i]]:=by rw[List.take_succ,Zh (by simpa using h)];rfl
theorem a4r'{a:Array Keyed}{i j:Nat}(h:i≤j):a.toList.take j=a.toList.take i++(a.extract i j).toList:=by rw[Array.toList_extract];unfold List.extract;rw[←List.take_add,show i+(j-i)=j by lia]
theorem a2M'{a:Array Keyed}{j:Nat}:(a.extract 0 j).toList=a.toList.take j:=by rw[Array.toList_extract];unfold List.extract;simp
theorem a3K'{a:Array Keyed}{i:Nat}{x:Keyed}(h:x∈a.toList.take i):∃j,j<i∧j<a.size∧K x=R K a j:=by obtain⟨j,hj,rfl⟩:=ZW.mp h;simp only[ZN,Zu]at hj;refine⟨j,by lia,by lia,?_⟩;rw[R_of (show j<a.size by lia)];simp
theorem a5W'{a:Array Keyed}{i j:Nat}{x:Keyed}(h:x∈(a.extract i j).toList):∃n,i≤n∧n<j∧n<a.size∧K x=R K a n:=by rw[Array.toList_extract]at h;unfold List.extract at h;obtain⟨n,h1,h2,e⟩:=a1a' (K:=K) h;exact⟨i+n,by lia,by lia,h2,e⟩
end
section
variable {st:SortSt}{P:Keyed→Prop}{K:Keyed→Nat}
abbrev MT(K:Keyed→Nat)(a b out:Array Keyed)(na nb:Nat):Prop:=MH K (a.toList++b.toList) (a.toList.take na) (b.toList.take nb) out.toList.reverse
structure MR (K:Keyed→Nat)(a b out:Array Keyed)(na nb:Nat):Prop where
 mt:MT K a b out na nb
 la:1≤na
 lb:2≤nb
 za:na≤a.size
 zb:nb≤b.size
variable {a b out:Array Keyed}{na nb:Nat}
theorem a1x'(h:MT K a b out na nb)(e:na=0):Good K (a.toList++b.toList) (a.extract 0 na++b.extract 0 nb++out.reverse):=by unfold Good;rw[ZJ,ZJ,a2M',a2M',Array.toList_reverse];refine⟨h.perm,?_⟩;subst e;rw[List.take_zero,List.nil_append];exact ZB.mpr ⟨h.sb,h.so,h.bo⟩
theorem a1y'(h0:∀y∈a.toList,R K b 0≤K y)(h:MT K a b out na nb)(e:nb=1):Good K (a.toList++b.toList) (b.extract 0 nb++a.extract 0 na++out.reverse):=by
 unfold Good;rw[ZJ,ZJ,a2M',a2M',Array.toList_reverse];refine⟨List.Perm.trans (List.Perm.append_right _ List.perm_append_comm) h.perm,ZB.mpr ⟨ZB.mpr ⟨h.sb,h.sa,λx hx y hy=>?_⟩,h.so,λx hx y hy=>?_⟩⟩
 ·obtain⟨j,h1,h2,e2⟩:=a3K' (K:=K) hx;rw[e2,show j=0 by lia];exact h0 y (List.mem_of_mem_take hy)
 ·rcases ZC.mp hx with z|z
  ·exact h.bo x z y hy
  ·exact h.ao x z y hy
theorem mt_a(h:MT K a b out (na+1) nb)(hi:na<a.size)(hc:∀x∈b.toList.take nb,K x≤R K a na):MT K a b (out.push a[na]) na nb:=by unfold MT at h⊢;rw[Array.toList_push,List.reverse_append];rw[a4q' hi]at h;exact h.stepA λx hx y hy=>by rw[List.mem_singleton.mp hy,←R_of (K:=K) hi];exact hc x hx
theorem mt_b(h:MT K a b out na (nb+1))(hi:nb<b.size)(hc:∀x∈a.toList.take na,K x≤R K b nb):MT K a b (out.push b[nb]) na nb:=by unfold MT at h⊢;rw[Array.toList_push,List.reverse_append];rw[a4q' hi]at h;exact h.stepB λx hx y hy=>by rw[List.mem_singleton.mp hy,←R_of (K:=K) hi];exact hc x hx
theorem mt_as{t:Nat}(h:MT K a b out na nb)(ht:t≤na)(hc:∀i,t≤i→i<na→i<a.size→∀x∈b.toList.take nb,K x≤R K a i):MT K a b (out++(a.extract t na).reverse) t nb:=by unfold MT at h⊢;rw[ZJ,Array.toList_reverse,List.reverse_append,List.reverse_reverse];rw[a4r' ht]at h;exact h.stepA λx hx y hy=>by obtain⟨n,h1,h2,h3,e⟩:=a5W' (K:=K) hy;rw[e];exact hc n h1 h2 h3 x hx
theorem mt_bs{t:Nat}(h:MT K a b out na nb)(ht:t≤nb)(hc:∀i,t≤i→i<nb→i<b.size→∀x∈a.toList.take na,K x≤R K b i):MT K a b (out++(b.extract t nb).reverse) na t:=by unfold MT at h⊢;rw[ZJ,Array.toList_reverse,List.reverse_append,List.reverse_reverse];rw[a4r' ht]at h;exact h.stepB λx hx y hy=>by obtain⟨n,h1,h2,h3,e⟩:=a5W' (K:=K) hy;rw[e];exact hc n h1 h2 h3 x hx
abbrev GH7:=Option (Array Keyed)×Nat×Nat×Array Keyed×Nat×Nat×Nat
def YH(K:Keyed→Nat)(a b:Array Keyed)(st:SortSt)(n:Nat)(c:GH7)(st':SortSt):Prop:=(∃g,st'=a0s' st g)∧∃out ja jb mg ac bc,c=(none,ja,jb,out,mg,ac,bc)∧MR K a b out ja jb∧n+ja+jb≤a.size+b.size
def DH(K:Keyed→Nat)(a b:Array Keyed)(st:SortSt)(n:Nat)(c:GH7)(st':SortSt):Prop:=(∃g,st'=a0s' st g)∧((∃r c',c=(some r,c')∧Good K (a.toList++b.toList) r)∨∃out ja jb mg ac bc,c=(none,ja,jb,out,mg,ac,bc)∧MR K a b out ja jb∧n+ja+jb≤a.size+b.size)
theorem a4M'(C:Cmp prog w A s κ P K)(hk:kindOf st=κ)(ha:∀x∈a.toList,P x)(hb:∀x∈b.toList,P x)(sa:LS K a.toList)(sb:LS K b.toList)(a1:1≤a.size)(b1:1≤b.size)
  (h0:R K b 0<R K a 0) (hl:∀y∈b.toList,K y<R K a (a.size-1)) {Q:Array Keyed→SortSt→Prop} (h:∀r g,Good K (a.toList++b.toList) r→Q r (a0s' st g)):wpS (model prog w) A E s (a8P' a b) Q st:=by
 have hB:∀{i:Nat} (hi:i<b.size),R K b i=K b[i]:=λhi=>R_of hi;have hA:∀{i:Nat} (hi:i<a.size),R K a i=K a[i]:=λhi=>R_of hi;have pA:∀{i:Nat} (hi:i<a.size),P a[i]:=λhi=>ha _ (by simp);have pB:∀{i:Nat} (hi:i<b.size),P b[i]:=λhi=>hb _ (by simp);have lA:∀{i j:Nat},i≤j→j<a.size→R K a i≤R K a j:=λh1 h2=>sa.mono h1 h2;have lB:∀{i j:Nat},i≤j→j<b.size→R K b i≤R K b j:=λh1 h2=>sb.mono h1 h2
 have dA:∀{i:Nat} {c:Nat},(∀j,j<i→j<a.size→R K a j≤c)→∀y∈a.toList.take i,K y≤c:=λhc y hy=>by obtain⟨j,h1,h2,e⟩:=a3K' (K:=K) hy;rw[e];exact hc j h1 h2
 have dB:∀{i:Nat} {c:Nat},(∀j,j<i→j<b.size→R K b j≤c)→∀y∈b.toList.take i,K y≤c:=λhc y hy=>by obtain⟨j,h1,h2,e⟩:=a3K' (K:=K) hy;rw[e];exact hc j h1 h2
 have hf:∀y∈a.toList,R K b 0≤K y:=λy hy=>by
  obtain⟨j,hj,rfl⟩:=ZW.mp hy;have hj':j<a.size:=by simpa using hj
  have:=lA (i:=0) (j:=j) (by lia) hj';rw[hA hj']at this;have e:a.toList[j]=a[j]:=by simp
  rw[e];lia
 obtain⟨na0,hna⟩:∃n,a.size=n+1:=⟨a.size-1,by lia⟩;have ea:a.size-1=na0:=by lia
 have m0:MT K a b #[a[na0]] na0 b.size:=by
  have m:MT K a b #[] (na0+1) b.size:=by
   refine⟨?_,?_,?_,.nil,λ_ _ y hy=>by simp at hy,λ_ _ y hy=>by simp at hy⟩
   ·rw[List.take_of_length_le (by simp;lia),List.take_of_length_le (by simp)];simp
   ·rw[List.take_of_length_le (by simp;lia)];exact sa
   ·rw[List.take_of_length_le (by simp)];exact sb
  exact mt_a m (by lia) (dB λj h1 h2=>by have:=hl b[j] (by simp);rw[hB h2];rw[ea]at this;lia)
 have kg:∀g,kindOf (a0s' st g)=κ:=λg=>hk;refine Zj (wpS_lift (wpAny_rule ⟨rfl,?_⟩));refine Zj (a0f' (by lia) ?_);simp only[ea];by_cases e1:na0=0
 ·rw[if_pos (by simpa using e1)];exact Zl (h _ (gallopOf st) (a1x' m0 e1))
 rw[if_neg (by simpa using e1)];by_cases e2:b.size=1
 ·rw[if_pos (by simpa using e2)];exact Zl (h _ (gallopOf st) (a1y' hf m0 e2))
 rw[if_neg (by simpa using e2)];refine Zj (wpS_get ?_)
 refine Zj (wpS_mono (ZO (I:=λx c st'=>(∃g,st'=a0s' st g)∧∃out na nb mg,c=(none,na,nb,out,mg)∧MR K a b out na nb∧x+na+nb≤a.size+b.size)
  (Q:=λc st'=>(∃g,st'=a0s' st g)∧∃r c',c=(some r,c')∧Good K (a.toList++b.toList) r) ?_ ?_ ⟨⟨gallopOf st,rfl⟩, #[a[na0]],na0,b.size,_,rfl,⟨m0,by lia,by lia,by lia,Zi _⟩,(by lia:0+na0+b.size≤a.size+b.size)⟩) ?_)
 case _=>
  rintro x c st' _ hx ⟨⟨g,rfl⟩,out,na,nb,mg,rfl,m,hp⟩;dsimp only
  refine Zj (wpS_mono (ZO (I:=λy c st'=>st'=a0s' st g∧∃out na' nb' ac bc,c=(none,na',nb',out,ac,bc)∧MR K a b out na' nb'∧y+na'+nb'≤na+nb)
   (Q:=λc st'=>st'=a0s' st g∧((∃r c',c=(some r,c')∧Good K (a.toList++b.toList) r)∨∃out na' nb' ac bc,c=(none,na',nb',out,ac,bc)∧MR K a b out na' nb'∧1+na'+nb'≤na+nb)) ?_ ?_ ⟨rfl,_,_,_,_,_,rfl,m,by lia⟩) ?_)
  ·rintro y c st' _ hy ⟨rfl,out,na',nb',ac,bc,rfl,m,hp'⟩;obtain⟨i,rfl⟩:∃i,na'=i+1:=⟨na'-1,by have:=m.la;lia⟩;obtain⟨j,rfl⟩:∃j,nb'=j+1:=⟨nb'-1,by have:=m.lb;lia⟩;have lb:=m.lb;have za:=m.za;have zb:=m.zb;dsimp only;simp only[Nat.add_sub_cancel];refine Zj (a0f' (show j<b.size by lia) ?_);refine Zj (a0f' (show i<a.size by lia) ?_);refine Zj (a5U' C (pB (by lia)) (pA (by lia)) (kg g) ?_);rw[←hA (show i<a.size by lia),←hB (show j<b.size by lia)];by_cases hw:R K b j<R K a i
   ·rw[ZS hw];refine Zj (a0f' (show i<a.size by lia) ?_);have m':=mt_a m.mt (by lia) (dB λn h1 h2=>by have:=lB (show n≤j by lia) (by lia);lia);by_cases e:i=0
    ·rw[if_pos (by simpa using e)];exact Zl ⟨rfl,.inl ⟨_,_,rfl,a1x' m' e⟩⟩
    ·rw[if_neg (by simpa using e)];by_cases hg:ac+1≥mg
     ·rw[if_pos hg];exact Zl ⟨rfl,.inr ⟨_,_,_,_,_,rfl,⟨m',by lia,lb,by lia,zb⟩,by lia⟩⟩
     ·rw[if_neg hg];exact Zl ⟨rfl,_,_,_,_,_,rfl,⟨m',by lia,lb,by lia,zb⟩,by lia⟩
   ·rw[Zy hw];refine Zj (a0f' (show j<b.size by lia) ?_);have m':=mt_b m.mt (by lia) (dA λn h1 h2=>by have:=lA (show n≤i by lia) (by lia);lia);by_cases e:j=1
    ·rw[if_pos (by simpa using e)];exact Zl ⟨rfl,.inl ⟨_,_,rfl,a1y' hf m' e⟩⟩
    ·rw[if_neg (by simpa using e)];by_cases hg:bc+1≥mg
     ·rw[if_pos hg];exact Zl ⟨rfl,.inr ⟨_,_,_,_,_,rfl,⟨m',by lia,by lia,za,by lia⟩,by lia⟩⟩
     ·rw[if_neg hg];exact Zl ⟨rfl,_,_,_,_,_,rfl,⟨m',by lia,by lia,za,by lia⟩,by lia⟩
  ·rintro c st' ⟨rfl,out,na',nb',ac,bc,rfl,m,hp'⟩;have la:=m.la;have lb:=m.lb;exfalso;lia
  ·rintro c st' ⟨rfl,⟨r,c',rfl,gd⟩| ⟨out,na',nb',ac,bc,rfl,m,hp'⟩⟩
   ·exact Zl ⟨⟨g,rfl⟩,r,_,rfl,gd⟩
   ·refine Zj (wpS_lift (wpAny_rule ⟨rfl,?_⟩));refine Zj (wpS_mono (ZO (I:=λy=>YH K a b st (x+1+y)) (Q:=DH K a b st (x+1)) ?_ ?_ ⟨⟨g,rfl⟩,_,_,_,_,_,_,rfl,m,by dsimp only;lia⟩) ?_)
    ·rintro y c st' _ hy ⟨⟨g1,rfl⟩,out,ja,jb,mg1,ac1,bc1,rfl,m,hq⟩;have la:=m.la;have za:=m.za;have zb:=m.zb;obtain⟨j,rfl⟩:∃j,jb=j+1:=⟨jb-1,by have:=m.lb;lia⟩;have lb:=m.lb;dsimp only;simp only[Nat.add_sub_cancel];show wpS (model prog w) A E s _ (Post (DH K a b st (x+1)) (YH K a b st (x+1+(y+1)))) (a0s' st g1);generalize mg1-1=q;revert q;refine sel0 (p:=λm=>wpS (model prog w) A E s m (Post (DH K a b st (x+1)) (YH K a b st (x+1+(y+1)))) (a0s' st g1)) λmg2=>?_;refine Zj (wpS_modify (show wpS _ _ _ _ _ _ (a0s' st mg2)from ?_));refine Zj (a0f' (show j<b.size by lia) ?_);refine Zj (a0M' C ha (pB (show j<b.size by lia)) (kg mg2) (by lia) (by lia) (λi j h1 h2=>lA (by lia) (by lia)) λt k1 k2 k3=>?_);simp only[Nat.zero_add]at k2 k3;have t1:thr K false b[j]=R K b j+1:=by rw[hB (show j<b.size by lia)];rfl
     rw[t1]at k2 k3;have mk:=mt_as m.mt k1 λi h1 h2 h3=>dB λn h4 h5=>by have:=k3 i h1 h2;have:=lB (show n≤j by lia) (by lia);lia
     dsimp only;have H1:MT K a b (out++(a.extract t ja).reverse) t (j+1)∧t≤ja∧∀i,i<t→R K a i≤R K b j:=⟨mk,k1,λi hi=>by have:=k2 i hi;lia⟩;generalize hkk:ja-t=k;have c0:¬k>0→MR K a b out ja (j+1)∧x+1+y+ja+(j+1)≤a.size+b.size∧∀i,i<ja→R K a i≤R K b j:=λhk0=>⟨m,hq,λi hi=>by have:=k2 i (by lia);lia⟩;revert H1;generalize out++(a.extract t ja).reverse=out1;generalize t=na1;revert out1;revert na1;refine sel1 (p:=λm=>wpS (model prog w) A E s m (Post (DH K a b st (x+1)) (YH K a b st (x+1+(y+1)))) (a0s' st mg2)) (C:=λo i=>MR K a b o i (j+1)∧x+1+y+i+(j+1)≤a.size+b.size∧∀n,n<i→R K a n≤R K b j) (H:=λo i=>MT K a b o i (j+1)∧i≤ja∧∀n,n<i→R K a n≤R K b j) (λout ja hC=>?_) c0 (λo i hH e=>?_) (λo i hH e=>?_)
     rotate_left
     ·exact Zl ⟨⟨mg2,rfl⟩,.inl ⟨_,_,rfl,a1x' hH.1 (by simpa using e)⟩⟩
     ·exact⟨⟨hH.1,by simp at e;lia,lb,by have:=hH.2.1;lia,zb⟩,by have:=hH.2.1;lia,hH.2.2⟩
     clear mk k1 k2 k3 hq m hkk c0 la za;obtain⟨m,hq,hge⟩:=hC;obtain⟨i,rfl⟩:∃i,ja=i+1:=⟨ja-1,by have:=m.la;lia⟩;have za:=m.za;simp only[Nat.add_sub_cancel];refine Zj (a0f' (show j<b.size by lia) ?_);have m':=mt_b m.mt (by lia) (dA λn h1 h2=>hge n h1);by_cases e:j=1
     ·rw[if_pos (by simpa using e)];exact Zl ⟨⟨mg2,rfl⟩,.inl ⟨_,_,rfl,a1y' hf m' e⟩⟩
     rw[if_neg (by simpa using e)];refine Zj (a0f' (show i<a.size by lia) ?_);refine Zj (a0M' C hb (pA (show i<a.size by lia)) (kg mg2) (by lia) (by lia) (λi j h1 h2=>lB (by lia) (by lia)) λt' k1' k2' k3'=>?_);simp only[Nat.zero_add]at k2' k3';have t2:thr K true a[i]=R K a i:=by rw[hA (show i<a.size by lia)];rfl
     rw[t2]at k2' k3'
     have t0:1≤t':=by
      rcases Nat.eq_zero_or_pos t' with z|z
      ·have h1:=k3' 0 (by lia) (by lia);have h2:=lA (show 0≤i by lia) (by lia);lia
      ·exact z
     have mk:=mt_bs m' k1' λn h1 h2 h3=>dA λl h4 h5=>by have:=k3' n h1 h2;have:=lA (show l≤i by lia) (by lia);lia
     dsimp only;have H2:MT K a b (out.push b[j]++(b.extract t' j).reverse) (i+1) t'∧1≤t'∧t'≤j∧∀n,n<t'→R K b n≤R K a i:=⟨mk,t0,k1',λn hn=>by have:=k2' n hn;lia⟩;generalize hkk':j-t'=k';have c0:¬k'>0→MT K a b (out.push b[j]) (i+1) j∧2≤j∧j≤j∧∀n,n<j→R K b n≤R K a i:=λhk0=>⟨m',by lia,Zi _,λn hn=>by have:=k2' n (by lia);lia⟩;revert H2;generalize out.push b[j]++(b.extract t' j).reverse=out1;generalize t'=nb1;revert out1;revert nb1;refine sel2 (p:=λm=>wpS (model prog w) A E s m (Post (DH K a b st (x+1)) (YH K a b st (x+1+(y+1)))) (a0s' st mg2)) (C:=λo n=>MT K a b o (i+1) n∧2≤n∧n≤j∧∀l,l<n→R K b l≤R K a i) (H:=λo n=>MT K a b o (i+1) n∧1≤n∧n≤j∧∀l,l<n→R K b l≤R K a i) (λout jb' hC=>?_) c0 (λo n hH e'=>?_) (λo n hH e'=>?_) (λo n hH e'=>?_)
     rotate_left
     ·exact Zl ⟨⟨mg2,rfl⟩,.inl ⟨_,_,rfl,a1y' hf hH.1 (by simpa using e')⟩⟩
     ·have:=hH.2.1;simp;lia
     ·exact⟨hH.1,by have:=hH.2.1;simp at e';lia,hH.2.2.1,hH.2.2.2⟩
     obtain⟨m2,hb',hq',hge'⟩:=hC;refine Zj (a0f' (show i<a.size by lia) ?_);have m3:=mt_a m2 (show i<a.size by lia) (dB λn h1 h2=>hge' n h1);by_cases e:i=0
     ·rw[if_pos (by simpa using e)];exact Zl ⟨⟨mg2,rfl⟩,.inl ⟨_,_,rfl,a1x' m3 e⟩⟩
     rw[if_neg (by simpa using e)];by_cases hg:(decide (k<7)&&decide (k'<7))=true
     ·rw[if_pos hg];exact Zl ⟨⟨mg2,rfl⟩,.inr ⟨_,_,_,_,_,_,rfl,⟨m3,by lia,hb',by lia,by lia⟩,by lia⟩⟩
     ·rw[if_neg hg];exact Zl ⟨⟨mg2,rfl⟩,_,_,_,_,_,_,rfl,⟨m3,by lia,hb',by lia,by lia⟩,by lia⟩
    ·rintro c st' ⟨⟨g1,rfl⟩,out,ja,jb,mg1,ac1,bc1,rfl,m,hq⟩;have la:=m.la;have lb:=m.lb;exfalso;lia
    ·rintro c st' ⟨⟨g1,rfl⟩,⟨r,c',rfl,gd⟩| ⟨out,ja,jb,mg1,ac1,bc1,rfl,m,hq⟩⟩
     ·exact Zl ⟨⟨g1,rfl⟩,r,_,rfl,gd⟩
     ·refine Zj (wpS_modify (?_:wpS _ _ _ _ _ _ (a0s' st (mg1+1))));exact Zl ⟨⟨_,rfl⟩,_,_,_,_,rfl,m,by dsimp only;lia⟩
 case _=>rintro c st' ⟨⟨g,rfl⟩,out,ia,ib,mg,rfl,m,hp⟩;have la:=m.la;have lb:=m.lb;exfalso;lia
 case _=>rintro c st' ⟨⟨g,rfl⟩,r,c',rfl,gd⟩;exact Zl (h r g gd)
end
end Srt
end
section
set_option autoImplicit false
namespace Srt
section
variable {st:SortSt}{K:Keyed→Nat}{xs ys:Array Keyed}
theorem a0J'{i j:Nat}(h:xs[i]?=ys[j]?):R K xs i=R K ys j:=by
 have e:∀(zs:Array Keyed) n,zs.getD n dK=(zs[n]?).getD dK:=λzs n=>by simp
 unfold R;rw[e,e,h]
def SR(K:Keyed→Nat)(xs:Array Keyed)(lo hi:Nat):Prop:=∀i j,lo≤i→i≤j→j<hi→R K xs i≤R K xs j
def Fr(lo hi:Nat)(xs ys:Array Keyed):Prop:=∀i,i<lo∨hi≤i→ys[i]?=xs[i]?
theorem Fr.refl{hi:Nat}:Fr lo hi xs xs:=λ_ _=>rfl
theorem Fr.trans{hi:Nat}{zs:Array Keyed}(h:Fr lo hi xs ys)(k:Fr lo hi ys zs):Fr lo hi xs zs:=λi hi=>(k i hi).trans (h i hi)
structure SB (a0:Array Keyed)(κ:SortKind)(st:SortSt):Prop where
 perm:(arrOf st).Perm a0
 failed:failedOf st=none
 kind:kindOf st=κ
theorem SB.size(h:SB a0 κ st):(arrOf st).size=a0.size:=h.perm.size_eq
theorem SB.arr(h:SB a0 κ st)(hp:ys.Perm (arrOf st)):SB a0 κ (setArr st ys):=⟨hp.trans h.perm,h.failed,h.kind⟩
theorem SB.all(h:SB a0 κ st):∀x∈(arrOf st).toList,x∈a0.toList:=λx hx=>(Array.perm_iff_toList_perm.mp h.perm).mem_iff.mp hx
theorem wpS_T{c:Prop}{d:Decidable c}{x y:StateT SortSt Sem α}{Q:α→SortSt→Prop}(h:c)(k:wpS (model prog w) A E s x Q st):wpS (model prog w) A E s (@ite _ c d x y) Q st:=by rw[if_pos h];exact k
theorem wpS_F{c:Prop}{d:Decidable c}{x y:StateT SortSt Sem α}{Q:α→SortSt→Prop}(h:¬c)(k:wpS (model prog w) A E s y Q st):wpS (model prog w) A E s (@ite _ c d x y) Q st:=by rw[if_neg h];exact k
theorem selD{c:Prop}{d:Decidable c}{T m:StateT SortSt Sem α}{Q:α→SortSt→Prop}{C:Array Keyed→Prop}(key:∀ys,C ys→wpS (model prog w) A E s m Q (setArr st ys))(h1:c→(∀ys,C ys→wpS (model prog w) A E s m Q (setArr st ys))→wpS (model prog w) A E s T Q st)(h2:¬c→C (arrOf st)):wpS (model prog w) A E s (@ite _ c d T m) Q st:=by
 by_cases h:c
 ·rw[if_pos h];exact h1 h key
 ·rw[if_neg h];exact key _ (h2 h)
theorem a1S'(C:Cmp prog w A s κ (· ∈a0.toList) K)(hB:SB a0 κ st){i j:Nat}(hi:i<a0.size)(hj:j<a0.size){Q:Option Bool→SortSt→Prop}(h1:R K (arrOf st) i<R K (arrOf st) j→Q (some true) st)(h2:¬R K (arrOf st) i<R K (arrOf st) j→Q (some false) st):
  wpS (model prog w) A E s (ltAt' i j) Q st:=by
 rw[←hB.size]at hi hj;rw[ltAt'_eq];refine Zj (wpS_get ?_);refine Zj (a0f' hi (Zj (a0f' hj ?_)));refine a5U' C (hB.all _ (by simp)) (hB.all _ (by simp)) hB.kind ?_;rw[R_of hi,R_of hj]at h1 h2;by_cases h:K (arrOf st)[i]<K (arrOf st)[j]
 ·rw[ZS h];exact h1 h
 ·rw[Zy h];exact h2 h
theorem a1o'{i j:Nat}(hj:j≤xs.size)(k:Nat):R K (mirror xs i j ((j-i)/2)) k=if i≤k∧k<j then R K xs (i+j-1-k)else R K xs k:=by
 have h:=getElem?_mirror_all (xs:=xs) (i:=i) hj k;by_cases c:i≤k∧k<j
 ·rw[if_pos c]at h⊢;exact a0J' h
 ·rw[if_neg c]at h⊢;exact a0J' h
theorem a1T'{hi i j:Nat}(hj:j≤xs.size)(h1:lo≤i)(h2:j≤hi):Fr lo hi xs (mirror xs i j ((j-i)/2)):=λk hk=>by rw[getElem?_mirror_all hj,if_neg (by lia)]
theorem a4s'{i j:Nat}{Q:Unit→SortSt→Prop}(h:Q () (setArr st (mirror (arrOf st) i j ((j-i)/2)))):wpS (model prog w) A E s (reverseSlice' i j) Q st:=by rw[reverseSlice'_eq];exact wpS_modify h
theorem a7I'{a:Nat}{f:Nat→AscSt→StateT SortSt Sem (ForInStep AscSt)}(hf:∀x n,1≤n→n<nrem→∀Q':ForInStep AscSt→SortSt→Prop,(R K (arrOf st) (lo+n)<R K (arrOf st) (lo+n-1)→Q' (.done (none,n)) st)→(¬R K (arrOf st) (lo+n)<R K (arrOf st) (lo+n-1)→Q' (.yield (none,n+1)) st)→wpS (model prog w) A E s (f x (none,n)) Q' st)
  (h1:1≤a) (h2:a≤nrem) (hs:SR K (arrOf st) lo (lo+a)) {Q:AscSt→SortSt→Prop} (h:∀n,a≤n→n≤nrem→SR K (arrOf st) lo (lo+n)→(n=nrem∨R K (arrOf st) (lo+n)<R K (arrOf st) (lo+n-1))→Q (none,n) st):
  wpS (model prog w) A E s (forIn [a:nrem] (none,a) f) Q st:=by
 refine ZO (I:=λx c st'=>st'=st∧c=(none,x)∧x≤nrem∧SR K (arrOf st) lo (lo+x)) ?_ ?_ ⟨rfl,rfl,h2,hs⟩
 ·rintro x c st' hx hx2 ⟨rfl,rfl,_,hs⟩;refine hf x x (by lia) hx2 _ (λhw=>h x hx (by lia) hs (.inr hw)) (λhw=>⟨rfl,rfl,by lia,λi j k1 k2 k3=>?_⟩);by_cases e:j=lo+x
  ·subst e;by_cases e2:i=lo+x
   ·subst e2;exact Zi _
   ·have:=hs i (lo+x-1) k1 (by lia) (by lia);lia
  ·exact hs i j k1 k2 (by lia)
 ·rintro c st' ⟨rfl,rfl,hx,hs⟩;rw[Nat.max_eq_right h2]at*;exact h nrem h2 (Zi _) hs (.inl rfl)
theorem a3f'(C:Cmp prog w A s κ (· ∈a0.toList) K)(hB:SB a0 κ st)(hz:lo+nrem≤a0.size)(h1:1≤nrem){Q:Option Nat→SortSt→Prop}
  (h:∀m ys,ys.Perm (arrOf st)→Fr lo (lo+nrem) (arrOf st) ys→1≤m→m≤nrem→SR K ys lo (lo+m)→Q (some m) (setArr st ys)):wpS (model prog w) A E s (countRun' lo nrem) Q st:=by
 have asc3:∀{st':SortSt},SB a0 κ st'→∀n,1≤n→n<nrem→∀{α:Type} {Q':α→SortSt→Prop} {f:Option Bool→StateT SortSt Sem α},(R K (arrOf st') (lo+n)<R K (arrOf st') (lo+n-1)→wpS (model prog w) A E s (f (some true)) Q' st')→(¬R K (arrOf st') (lo+n)<R K (arrOf st') (lo+n-1)→wpS (model prog w) A E s (f (some false)) Q' st')→wpS (model prog w) A E s (ltAt' (lo+n) (lo+n-1)>>=f) Q' st':=λhB' n n1 n2 α Q' f q1 q2=>Zj (a1S' C hB' (by lia) (by lia) q1 q2);rw[countRun'_eq];refine Zj (a7I' (lo:=lo) (K:=K) (λx n n1 n2 Q' q1 q2=>asc3 hB n n1 n2 (λhw=>wpS_T rfl (Zl (q1 hw))) (λhw=>wpS_F (by decide) (Zl (q2 hw)))) (Zi 1) h1 (λi j k1 k2 k3=>by have:i=j:=(by lia);subst this;exact Zi _) λn n1 n2 hs hor=>?_);by_cases hnn:n=nrem
 ·exact wpS_T (by simpa using hnn) (Zl (h n _ (.refl _) .refl n1 n2 hs))
 refine wpS_F (by simpa using hnn) ?_;have hlt:=hor.resolve_left hnn;have hsz:=hB.size;refine selD (C:=λys=>ys.Perm (arrOf st)∧Fr lo (lo+nrem) (arrOf st) ys∧∀i j,lo≤i→i≤j→j<lo+n+1→R K ys j≤R K ys i) (λys hC=>?_) (λhgt key=>?_) (λhgt=>⟨.refl _,.refl,λi j k1 k2 k3=>?_⟩)
 ·obtain⟨hp,hF,hN⟩:=hC;have hB1:=hB.arr hp;have hz1:ys.size=a0.size:=hB1.size;refine Zj (wpS_lift (wpAny_rule ⟨rfl,?_⟩))
  refine Zj (wpS_mono (ZO (I:=λx c st'=>∃zs q,st'=setArr st zs∧c=(none,x,q)∧zs.Perm (arrOf st)∧Fr lo (lo+nrem) (arrOf st) zs∧x≤nrem∧q<x∧(∀i j,lo≤i→i≤j→j<lo+x→R K zs j≤R K zs i)∧∀k,lo+x-(q+1)≤k→k<lo+x→R K zs k=R K zs (lo+x-1))
   (Q:=λc st'=>∃zs m q,st'=setArr st zs∧c=(none,m,q)∧zs.Perm (arrOf st)∧Fr lo (lo+nrem) (arrOf st) zs∧1≤m∧m≤nrem∧q<m∧(∀i j,lo≤i→i≤j→j<lo+m→R K zs j≤R K zs i)∧∀k,lo+m-(q+1)≤k→k<lo+m→R K zs k=R K zs (lo+m-1)) ?_ ?_ ?_) ?_)
  ·rintro x c st' hx hx2 ⟨zs,q,rfl,rfl,hp',hF',_,hq,hN',hE⟩;have hB2:=hB.arr hp';have hz2:zs.size=a0.size:=hB2.size
   have up:∀ws:Array Keyed,(∀k,k≤lo+x→lo≤k→R K ws k=R K zs k)→R K zs (lo+x)≤R K zs (lo+x-1)→∀i j,lo≤i→i≤j→j<lo+(x+1)→R K ws j≤R K ws i:=λws hw hl i j k1 k2 k3=>by
    rw[hw i (by lia) k1,hw j (by lia) (by lia)];by_cases e:j=lo+x
    ·subst e;by_cases e2:i=lo+x
     ·subst e2;exact Zi _
     ·exact ZE hl (hN' i (lo+x-1) k1 (by lia) (by lia))
    ·exact hN' i j k1 k2 (by lia)
   refine asc3 hB2 x (by lia) hx2 (λhw=>wpS_T rfl ?_) (λhw=>wpS_F (by decide) ?_)
   ·have hw:R K zs (lo+x)<R K zs (lo+x-1):=hw;refine selD (st:=setArr st zs) (C:=λws=>ws.Perm (arrOf st)∧Fr lo (lo+nrem) (arrOf st) ws∧∀k,k≤lo+x→lo≤k→R K ws k=R K zs k) (λws hC=>?_) (λhg key=>?_) (λhg=>⟨hp',hF',λ_ _ _=>rfl⟩)
    ·refine Zl ⟨ws,0,rfl,rfl,hC.1,hC.2.1,by lia,by lia,up ws hC.2.2 (by lia),λk k1 k2=>by rw[show k=lo+(x+1)-1 by lia]⟩
    ·refine Zj (a4s' (key _ ⟨(mirror_perm _ _ _ _).trans hp',hF'.trans (a1T' (i:=lo+x-(q+1)) (j:=lo+x) (by rw[hz2];lia) (by lia) (by lia)),λk k1 k2=>?_⟩));show R K (mirror zs (lo+x-(q+1)) (lo+x) ((lo+x-(lo+x-(q+1)))/2)) k=_;rw[a1o' (by rw[hz2];lia)];by_cases c:lo+x-(q+1)≤k∧k<lo+x
     ·rw[if_pos c,hE k c.1 c.2,hE _ (by lia) (by lia)]
     ·rw[if_neg c]
   ·have hw:¬R K zs (lo+x)<R K zs (lo+x-1):=hw;refine Zj (a1S' (i:=lo+x-1) (j:=lo+x) C hB2 (by lia) (by lia) (λhw2=>wpS_T rfl (Zl ⟨zs,x,q,rfl,rfl,hp',hF',by lia,by lia,hq,hN',hE⟩)) (λhw2=>wpS_F (by decide) (Zl ⟨zs,q+1,rfl,rfl,hp',hF',by lia,by lia,?_,λk k1 k2=>?_⟩)))
    ·have hw2:¬R K zs (lo+x-1)<R K zs (lo+x):=hw2;exact up zs (λ_ _ _=>rfl) (by lia)
    ·have hw2:¬R K zs (lo+x-1)<R K zs (lo+x):=hw2;rw[show lo+(x+1)-1=lo+x by lia];by_cases e:k=lo+x
     ·rw[e]
     ·rw[hE k (by lia) (by lia)];lia
  ·rintro c st' ⟨zs,q,rfl,rfl,hp',hF',hx,hq,hN',hE⟩;exact⟨zs,_,q,rfl,rfl,hp',hF',by lia,hx,hq,hN',hE⟩
  ·exact⟨ys,0,rfl,rfl,hp,hF,by lia,by lia,λi j k1 k2 k3=>hN i j k1 k2 (by lia),λk k1 k2=>by rw[show k=lo+(n+1)-1 by lia]⟩
  ·rintro c st' ⟨zs,m,q,rfl,rfl,hp',hF',m1,m2,hq,hN',hE⟩;have hB2:=hB.arr hp';have hz2:zs.size=a0.size:=hB2.size;refine selD (st:=setArr st zs) (C:=λws=>ws.Perm (arrOf st)∧Fr lo (lo+nrem) (arrOf st) ws∧∀k,k<lo+m→lo≤k→R K ws k=R K zs k) (λws hC=>?_) (λhg key=>?_) (λhg=>⟨hp',hF',λ_ _ _=>rfl⟩)
   ·obtain⟨hp3,hF3,hE3⟩:=hC;have hB3:=hB.arr hp3;have hz3:ws.size=a0.size:=hB3.size;refine Zj (a4s' ?_);show wpS (model prog w) A E s _ Q (setArr st (mirror ws lo (lo+m) ((lo+m-lo)/2)));have hp4:(mirror ws lo (lo+m) ((lo+m-lo)/2)).Perm (arrOf st):=(mirror_perm _ _ _ _).trans hp3;have hF4:Fr lo (lo+nrem) (arrOf st) (mirror ws lo (lo+m) ((lo+m-lo)/2)):=hF3.trans (a1T' (by rw[hz3];lia) (Zi _) (by lia))
    have hs4:SR K (mirror ws lo (lo+m) ((lo+m-lo)/2)) lo (lo+m):=λi j k1 k2 k3=>by rw[a1o' (by rw[hz3];lia),a1o' (by rw[hz3];lia),if_pos ⟨k1,by lia⟩,if_pos ⟨by lia,k3⟩,hE3 _ (by lia) (by lia),hE3 _ (by lia) (by lia)];exact hN' _ _ (by lia) (by lia) (by lia)
    revert hp4 hF4 hs4;generalize mirror ws lo (lo+m) ((lo+m-lo)/2)=vs;intro hp4 hF4 hs4;refine Zj (a7I' (st:=setArr st vs) (lo:=lo) (K:=K) (λx n n1 n2 Q' q1 q2=>asc3 (hB.arr hp4) n n1 n2 (λhw=>wpS_T rfl (Zl (q1 hw))) (λhw=>wpS_F (by decide) (Zl (q2 hw)))) m1 m2 hs4 λn n1 n2 hs _=>?_);exact Zl (h n vs hp4 hF4 (by lia) n2 hs)
   ·refine Zj (a4s' (key _ ⟨(mirror_perm _ _ _ _).trans hp',hF'.trans (a1T' (i:=lo+m-(q+1)) (j:=lo+m) (by rw[hz2];lia) (by lia) (by lia)),λk k1 k2=>?_⟩));show R K (mirror zs (lo+m-(q+1)) (lo+m) ((lo+m-(lo+m-(q+1)))/2)) k=_;rw[a1o' (by rw[hz2];lia)];by_cases c:lo+m-(q+1)≤k∧k<lo+m
    ·rw[if_pos c,hE k c.1 c.2,hE _ (by lia) (by lia)]
    ·rw[if_neg c]
 ·refine Zj (a1S' C hB (by lia) (by lia) (λhr=>wpS_T rfl (Zl (h n _ (.refl _) .refl n1 n2 hs))) (λhr=>wpS_F (by decide) ?_));have hr:¬R K (arrOf st) lo<R K (arrOf st) (lo+n-1):=hr;have hlt:R K (arrOf st) (lo+n)<R K (arrOf st) (lo+n-1):=hlt;refine Zj (a4s' (key _ ⟨mirror_perm _ _ _ _,a1T' (by lia) (Zi _) (by lia),λi j k1 k2 k3=>?_⟩))
  have eq:∀k,lo≤k→k<lo+n→R K (mirror (arrOf st) lo (lo+n) ((lo+n-lo)/2)) k=R K (arrOf st) lo:=λk k1 k2=>by rw[a1o' (by lia),if_pos ⟨k1,k2⟩];have e1:=hs lo (lo+(lo+n)-1-k) (by lia) (by lia) (by lia);have e2:=hs (lo+(lo+n)-1-k) (lo+n-1) (by lia) (by lia) (by lia);lia
  show R K (mirror (arrOf st) lo (lo+n) ((lo+n-lo)/2)) j≤R K (mirror (arrOf st) lo (lo+n) ((lo+n-lo)/2)) i;by_cases e:j<lo+n
  ·rw[eq i k1 (by lia),eq j (by lia) e];exact Zi _
  ·have e':j=lo+n:=by lia
   subst e';rw[a1o' (by lia) (lo+n),if_neg (by lia)];by_cases e2:i=lo+n
   ·subst e2;rw[a1o' (by lia) (lo+n),if_neg (by lia)];exact Zi _
   ·rw[eq i k1 (by lia)];have e1:=hs lo (lo+n-1) (by lia) (by lia) (by lia);lia
 ·have hlt:R K (arrOf st) (lo+n)<R K (arrOf st) (lo+n-1):=hlt;have hgt:¬n>1:=hgt;have e1:n=1:=by lia
  subst e1;by_cases e:i=j
  ·subst e;exact Zi _
  ·rw[show i=lo+1-1 by lia,show j=lo+1 by lia];lia
end
end Srt
end
section
set_option autoImplicit false
namespace Srt
section
variable {st:SortSt}{K:Keyed→Nat}{xs ys:Array Keyed}
theorem a8Q'{d:Nat}(hs:src<xs.size)(hd:d≤src)(k:Nat):R K (bubble xs src d) k=if k=src-d then R K xs src else if src-d<k∧k≤src then R K xs (k-1)else R K xs k:=by
 have h:=getElem?_bubble hs d hd k;by_cases c:k=src-d
 ·rw[if_pos c]at h⊢;exact a0J' h
 ·rw[if_neg c]at h⊢;by_cases c2:src-d<k∧k≤src
  ·rw[if_pos c2]at h⊢;exact a0J' h
  ·rw[if_neg c2]at h⊢;exact a0J' h
theorem a6Y'{hi d:Nat}(hs:src<xs.size)(hd:d≤src)(h1:lo≤src-d)(h2:src<hi):Fr lo hi xs (bubble xs src d):=λk hk=>by rw[getElem?_bubble hs d hd,if_neg (by lia),if_neg (by lia)]
theorem a2k'(C:Cmp prog w A s κ (· ∈a0.toList) K)(hB:SB a0 κ st){ok:Nat}(hz:lo+n≤a0.size)(hok:ok≤n)(hs:SR K (arrOf st) lo (lo+ok)){Q:Bool→SortSt→Prop}
  (h:∀ys,ys.Perm (arrOf st)→Fr lo (lo+n) (arrOf st) ys→SR K ys lo (lo+n)→Q true (setArr st ys)):wpS (model prog w) A E s (binarySort' lo n ok) Q st:=by
 rw[binarySort'_eq]
 refine Zj (wpS_mono (ZO (I:=λk c st'=>∃zs,st'=setArr st zs∧c=(none,())∧zs.Perm (arrOf st)∧Fr lo (lo+n) (arrOf st) zs∧SR K zs lo (lo+min k n))
  (Q:=λc st'=>∃zs,st'=setArr st zs∧c=(none,())∧zs.Perm (arrOf st)∧Fr lo (lo+n) (arrOf st) zs∧SR K zs lo (lo+n)) ?_ ?_ ?_) ?_)
 ·rintro k c st' hk hk2 ⟨zs,rfl,rfl,hp,hF,hs'⟩;rw[Nat.min_eq_left (by lia)]at hs';have hB2:=hB.arr hp;have hz2:zs.size=a0.size:=hB2.size
  refine Zj (wpS_mono (ZO (I:=λx c st'=>st'=setArr st zs∧∃l r,c=(none,l,r)∧l≤r∧r≤k∧r-l≤k-x∧(∀i,i<l→R K zs (lo+i)≤R K zs (lo+k))∧(∀i,r≤i→i<k→R K zs (lo+k)<R K zs (lo+i)))
   (Q:=λc st'=>st'=setArr st zs∧∃l r,c=(none,l,r)∧l≤k∧(∀i,i<l→R K zs (lo+i)≤R K zs (lo+k))∧(∀i,l≤i→i<k→R K zs (lo+k)<R K zs (lo+i))) ?_ ?_ ⟨rfl,0,k,rfl,by lia,by lia,by lia,λi hi=>by lia,λi h1 h2=>by lia⟩) ?_)
  ·rintro x c st' _ hx ⟨rfl,l,r,rfl,k1,k2,k3,k4,k5⟩;by_cases hlr:l≥r
   ·have:l=r:=by lia
    subst this;exact wpS_T hlr (Zl ⟨rfl,l,l,rfl,k2,k4,k5⟩)
   ·refine wpS_F hlr (Zj (a1S' (i:=lo+k) (j:=lo+(l+r)/2) C hB2 (by lia) (by lia) (λhw=>wpS_T rfl (Zl ⟨rfl,l,(l+r)/2,rfl,by lia,by lia,by lia,k4,λi h1 h2=>?_⟩)) (λhw=>wpS_F (by decide) (Zl ⟨rfl,(l+r)/2+1,r,rfl,by lia,k2,by lia,λi h1=>?_,k5⟩))))
    ·have hw:R K zs (lo+k)<R K zs (lo+(l+r)/2):=hw;have:=hs' (lo+(l+r)/2) (lo+i) (by lia) (by lia) (by lia);lia
    ·have hw:¬R K zs (lo+k)<R K zs (lo+(l+r)/2):=hw;have:=hs' (lo+i) (lo+(l+r)/2) (by lia) (by lia) (by lia);lia
  ·rintro c st' ⟨rfl,l,r,rfl,k1,k2,k3,k4,k5⟩;have:l=r:=by lia
   subst this;exact⟨rfl,l,l,rfl,k2,k4,k5⟩
  ·rintro c st' ⟨rfl,l,r,rfl,k2,k4,k5⟩;refine Zj (m:=moveDown' (lo+k) (lo+l)) ?_;rw[moveDown'_eq];refine wpS_modify (Zl ⟨bubble zs (lo+k) (lo+k-(lo+l)),rfl,rfl,(bubble_perm _ _ _).trans hp,hF.trans (a6Y' (by rw[hz2];lia) (by lia) (by lia) (by lia)),?_⟩);rw[Nat.min_eq_left (by lia)];have e:∀i,R K (bubble zs (lo+k) (lo+k-(lo+l))) i=if i=lo+l then R K zs (lo+k)else if lo+l<i∧i≤lo+k then R K zs (i-1)else R K zs i:=λi=>by rw[a8Q' (by rw[hz2];lia) (by lia),show lo+k-(lo+k-(lo+l))=lo+l by lia]
   have a1:∀i,lo≤i→i<lo+l→R K zs i≤R K zs (lo+k):=λi h1 h2=>by have:=k4 (i-lo) (by lia);rwa [show lo+(i-lo)=i by lia]at this
   have a2:∀i,lo+l≤i→i<lo+k→R K zs (lo+k)<R K zs i:=λi h1 h2=>by have:=k5 (i-lo) (by lia) (by lia);rwa [show lo+(i-lo)=i by lia]at this
   intro i j h1 h2 h3;rw[e i,e j];by_cases c1:i=lo+l
   ·rw[if_pos c1];by_cases c2:j=lo+l
    ·rw[if_pos c2];exact Zi _
    ·rw[if_neg c2,if_pos ⟨by lia,by lia⟩];exact Nat.le_of_lt (a2 _ (by lia) (by lia))
   ·rw[if_neg c1];by_cases c3:lo+l<i∧i≤lo+k
    ·rw[if_pos c3,if_neg (by lia),if_pos ⟨by lia,by lia⟩];exact hs' _ _ (by lia) (by lia) (by lia)
    ·rw[if_neg c3];by_cases c2:j=lo+l
     ·rw[if_pos c2];exact a1 i h1 (by lia)
     ·rw[if_neg c2];by_cases c4:lo+l<j∧j≤lo+k
      ·rw[if_pos c4];exact hs' _ _ h1 (by lia) (by lia)
      ·rw[if_neg c4];exact hs' _ _ h1 h2 (by lia)
 ·rintro c st' ⟨zs,rfl,rfl,hp,hF,hs'⟩;rw[show min (max (max ok 1) n) n=n by lia]at hs';exact⟨zs,rfl,rfl,hp,hF,hs'⟩
 ·refine⟨arrOf st,rfl,rfl,.refl _,.refl,λi j h1 h2 h3=>?_⟩;by_cases e:i=j
  ·subst e;exact Zi _
  ·exact hs i j h1 h2 (by lia)
 ·rintro c st' ⟨zs,rfl,rfl,hp,hF,hs'⟩;exact Zl (h zs hp hF hs')
end
end Srt
end
section
set_option autoImplicit false
namespace Srt
section
variable {st:SortSt}{K:Keyed→Nat}{xs ys:Array Keyed}
theorem a5X'{base:Nat}:∀(l:List Keyed) (k:Nat) (arr:Array Keyed),base+k+l.length≤arr.size→((l.zipIdx k).foldl (λa (x:Keyed×Nat)=>a.setIfInBounds (base+x.2) x.1) arr).toList=arr.toList.take (base+k)++l++arr.toList.drop (base+k+l.length)
 | [],k,arr,h=>by simp
 |x::l,k,arr,h=>by
  rw[ZF]at h;rw[List.zipIdx_cons,List.foldl_cons,a5X' l (k+1) _ (by rw[Array.size_setIfInBounds];lia)];rw[Array.toList_setIfInBounds];have hl:base+k<arr.toList.length:=by rw[Zu];lia
  have e1:(arr.toList.set (base+k) x).take (base+(k+1))=arr.toList.take (base+k)++[x]:=by rw[show base+(k+1)=(base+k)+1 by lia,List.take_succ,List.take_set_of_le (Zi _),ZM hl];rfl
  have e2:(arr.toList.set (base+k) x).drop (base+(k+1)+l.length)=arr.toList.drop (base+k+(x::l).length):=by rw[List.drop_set_of_lt (by lia),ZF,show base+(k+1)+l.length=base+k+(l.length+1)by lia]
  rw[e1,e2];simp
theorem a5Y'{i j:Nat}(h1:i≤j)(h2:j≤xs.size):(xs.extract i j).size=j-i:=by rw[Array.size_extract,Nat.min_eq_left h2]
theorem R_ext{i j:Nat}(h2:j≤xs.size)(hn:i+n<j):R K (xs.extract i j) n=R K xs (i+n):=by refine a0J' ?_;rw[Array.getElem?_extract,if_pos (by lia)]
theorem LS_ext{i j:Nat}(h2:j≤xs.size)(hs:SR K xs i j):LS K (xs.extract i j).toList:=by
 refine List.pairwise_iff_getElem.mpr λn m hn hm h=>?_;have hm':m<(xs.extract i j).size:=by rw[←Zu];exact hm
 have hn':n<(xs.extract i j).size:=by lia
 have e:(xs.extract i j).size≤j-i:=by rw[Array.size_extract];lia
 have k1:=R_ext (K:=K) h2 (show i+n<j by lia);have k2:=R_ext (K:=K) h2 (show i+m<j by lia);have:=hs (i+n) (i+m) (by lia) (by lia) (by lia);rw[←k1,←k2,R_of hn',R_of hm']at this;simpa using this
theorem a5Z'{i j:Nat}(h2:j≤xs.size){x:Keyed}(h:x∈(xs.extract i j).toList):∃n,i≤n∧n<j∧K x=R K xs n:=by obtain⟨n,h1,h3,_,e⟩:=a5W' (K:=K) h;exact⟨n,h1,h3,e⟩
theorem wpS_set{x:SortSt}{Q:PUnit→SortSt→Prop}(h:Q ⟨⟩ x):wpS (model prog w) A E s (set x:StateT SortSt Sem PUnit) Q st:=by unfold wpS;rw[StateT.run_set];exact Zg ⟨rfl,h⟩
def a4t'(st:SortSt)(p:Array (Nat×Nat×Nat)):SortSt:=SortSt.mk' (kindOf st) (arrOf st) p (gallopOf st) (failedOf st)
theorem a4N'(C:Cmp prog w A s κ (· ∈a0.toList) K)(hB:SB a0 κ st){i sa na pw nb pw':Nat}(hi:(pendingOf st)[i]?=some (sa,na,pw))(hi':(pendingOf st)[i+1]?=some (sa+na,nb,pw'))(a1:1≤na)(b1:1≤nb)(hz:sa+na+nb≤a0.size)
  (ha:SR K (arrOf st) sa (sa+na)) (hb:SR K (arrOf st) (sa+na) (sa+na+nb)) {Q:Bool→SortSt→Prop}
  (h:∀ys g,ys.Perm (arrOf st)→Fr sa (sa+na+nb) (arrOf st) ys→SR K ys sa (sa+na+nb)→Q true (a0s' (setArr (a4t' st (((pendingOf st).setIfInBounds i (sa,na+nb,pw)).eraseIdxIfInBounds (i+1))) ys) g)):wpS (model prog w) A E s (mergeAt' i) Q st:=by
 have hsz:=hB.size;have hall:=hB.all;have pe:∀{n:Nat} (hn:n<(arrOf st).size),(arrOf st)[n]∈a0.toList:=λhn=>hall _ (by simp);refine Zj (wpS_get ?_);have e0:((pendingOf st)[i]?,(pendingOf st)[i+1]?)=(some (sa,na,pw),some (sa+na,nb,pw')):=by rw[hi,hi']
 rw[hi,hi'];refine Zj (wpS_set ?_);show wpS (model prog w) A E s _ Q (a4t' st (((pendingOf st).setIfInBounds i (sa,na+nb,pw)).eraseIdxIfInBounds (i+1)));generalize((pendingOf st).setIfInBounds i (sa,na+nb,pw)).eraseIdxIfInBounds (i+1)=p' at h⊢;have hkP:kindOf (a4t' st p')=κ:=hB.kind;refine Zj (a0f' (show sa+na<(arrOf st).size by lia) ?_);refine Zj (a0M' C hall (pe (by lia)) hkP (by lia) (by lia) (λi j k1 k2=>ha _ _ (by lia) (by lia) (by lia)) λk k1 k2 k3=>?_);have t1:thr K false (arrOf st)[sa+na]=R K (arrOf st) (sa+na)+1:=by rw[R_of (show sa+na<(arrOf st).size by lia)];rfl
 rw[t1]at k2 k3;have q2:∀n,sa≤n→n<sa+k→R K (arrOf st) n≤R K (arrOf st) (sa+na):=λn h1 h2=>by have:=k2 (n-sa) (by lia);rw[show sa+(n-sa)=n by lia]at this;lia
 have bb:∀n,sa+na≤n→n<sa+na+nb→R K (arrOf st) (sa+na)≤R K (arrOf st) n:=λn h1 h2=>hb _ _ (Zi _) h1 h2
 have fin:∀c,c≤R K (arrOf st) (sa+na)→(∀n,sa≤n→n<sa+na→R K (arrOf st) n≤c)→SR K (arrOf st) sa (sa+na+nb):=λc hc hn i j h1 h2 h3=>by
  by_cases c1:j<sa+na
  ·exact ha i j h1 h2 c1
  ·by_cases c2:i<sa+na
   ·have:=hn i h1 c2;have:=bb j (by lia) h3;lia
   ·exact hb i j (by lia) h2 h3
 by_cases e1:na-k=0
 ·refine wpS_T (by simpa using e1) (Zl (h _ (gallopOf st) (.refl _) .refl (fin _ (Zi _) λn h1 h2=>q2 n h1 (by lia))))
 refine wpS_F (by simpa using e1) ?_;have q3:R K (arrOf st) (sa+na)<R K (arrOf st) (sa+k):=by have:=k3 k (Zi _) (by lia);lia
 refine Zj (a0f' (show sa+k+(na-k)-1<(arrOf st).size by lia) ?_);refine Zj (a0M' C hall (pe (by lia)) hkP (by lia) (by lia) (λi j k1 k2=>hb _ _ (by lia) (by lia) (by lia)) λm m1 m2 m3=>?_);have t2:thr K true ((arrOf st)[sa+k+(na-k)-1]'(by lia))=R K (arrOf st) (sa+na-1):=by rw[show sa+na-1=sa+k+(na-k)-1 by lia,R_of (show sa+k+(na-k)-1<(arrOf st).size by lia)];rfl
 rw[t2]at m2 m3
 have q4:∀n,sa+na≤n→n<sa+na+m→R K (arrOf st) n<R K (arrOf st) (sa+na-1):=λn h1 h2=>by
  have:=m2 (n-(sa+na)) (by lia)
  rwa [show sa+na+(n-(sa+na))=n by lia]at this
 have q5:∀n,sa+na+m≤n→n<sa+na+nb→R K (arrOf st) (sa+na-1)≤R K (arrOf st) n:=λn h1 h2=>by
  have:=m3 (n-(sa+na)) (by lia) (by lia)
  rwa [show sa+na+(n-(sa+na))=n by lia]at this
 by_cases e2:m=0
 ·have:=q5 (sa+na) (by lia) (by lia);have:=ha (sa+k) (sa+na-1) (by lia) (by lia) (by lia);exfalso;lia
 refine wpS_F (by simpa using e2) ?_;have hxz:((arrOf st).extract (sa+k) (sa+na)).size=na-k:=by rw[a5Y' (by lia) (by lia)];lia
 have hyz:((arrOf st).extract (sa+na) (sa+na+m)).size=m:=by rw[a5Y' (by lia) (by lia)];lia
 have hxl:=LS_ext (K:=K) (xs:=arrOf st) (i:=sa+k) (j:=sa+na) (by lia) (λi j h1 h2 h3=>ha i j (by lia) h2 h3);have hyl:=LS_ext (K:=K) (xs:=arrOf st) (i:=sa+na) (j:=sa+na+m) (by lia) (λi j h1 h2 h3=>hb i j (by lia) h2 (by lia))
 have hxm:∀x∈((arrOf st).extract (sa+k) (sa+na)).toList,x∈a0.toList:=λx hx=>by rw[Array.toList_extract]at hx;exact hall x (List.mem_of_mem_drop (List.mem_of_mem_take hx))
 have hym:∀x∈((arrOf st).extract (sa+na) (sa+na+m)).toList,x∈a0.toList:=λx hx=>by rw[Array.toList_extract]at hx;exact hall x (List.mem_of_mem_drop (List.mem_of_mem_take hx))
 have r0:R K ((arrOf st).extract (sa+na) (sa+na+m)) 0<R K ((arrOf st).extract (sa+k) (sa+na)) 0:=by rw[R_ext (by lia) (by lia),R_ext (by lia) (by lia)];exact q3
 have rl:∀y∈((arrOf st).extract (sa+na) (sa+na+m)).toList,K y<R K ((arrOf st).extract (sa+k) (sa+na)) (((arrOf st).extract (sa+k) (sa+na)).size-1):=λy hy=>by obtain⟨n,h1,h2,e⟩:=a5Z' (K:=K) (by lia) hy;rw[e,hxz,R_ext (by lia) (by lia),show sa+k+(na-k-1)=sa+na-1 by lia];exact q4 n h1 h2
 have key:∀(r:Array Keyed) (g:Nat),Good K (((arrOf st).extract (sa+k) (sa+na)).toList++((arrOf st).extract (sa+na) (sa+na+m)).toList) r→Q true (a0s' (setArr (a4t' st p') ((r.toList.zipIdx).foldl (λa (x:Keyed×Nat)=>a.setIfInBounds (sa+k+x.2) x.1) (arrOf st))) g):=λr g gd=>by
  have hrl:r.toList.length=na-k+m:=by rw[gd.1.length_eq,ZI,Zu,Zu,hxz,hyz]
  have hel:∀n,n<r.toList.length→∃j,sa+k≤j∧j<sa+na+m∧R K r n=R K (arrOf st) j:=λn hn=>by
   have hn':n<r.size:=by rwa [Zu]at hn
   have hm:r[n]∈r.toList:=by simp
   rw[R_of hn'];rcases ZC.mp (gd.1.mem_iff.mp hm)with z|z
   ·obtain⟨j,h1,h2,e⟩:=a5Z' (K:=K) (by lia) z;exact⟨j,h1,by lia,e⟩
   ·obtain⟨j,h1,h2,e⟩:=a5Z' (K:=K) (by lia) z;exact⟨j,by lia,h2,e⟩
  have hfp:=a5X' (base:=sa+k) r.toList 0 (arrOf st) (by lia);generalize(r.toList.zipIdx).foldl (λa (x:Keyed×Nat)=>a.setIfInBounds (sa+k+x.2) x.1) (arrOf st)=ys at hfp⊢;rw[Nat.add_zero]at hfp;have hl1:((arrOf st).toList.take (sa+k)).length=sa+k:=by rw[ZN,Zu];lia
  have o1:∀n,n<sa+k→ys[n]?=(arrOf st)[n]? :=λn hn=>by rw[←ZR,hfp,Zs,Zm (by lia),List.getElem?_take_of_lt hn,ZR]
  have o2:∀n,sa+na+m≤n→ys[n]?=(arrOf st)[n]? :=λn hn=>by rw[←ZR,hfp,Zr (by rw[ZI];lia),List.getElem?_drop,ZI,hl1,hrl,←ZR];congr 1;lia
  have o3:∀n,sa+k≤n→n<sa+na+m→ys[n]?=r[n-(sa+k)]? :=λn h1 h2=>by rw[←ZR,hfp,Zs,Zr (by lia),hl1,Zm (by lia),ZR]
  refine h ys g ?_ (λn hn=>?_) (λi j h1 h2 h3=>?_)
  ·refine Array.perm_iff_toList_perm.mpr ?_;rw[hfp];have e:(arrOf st).toList=(arrOf st).toList.take (sa+k)++(((arrOf st).extract (sa+k) (sa+na)).toList++((arrOf st).extract (sa+na) (sa+na+m)).toList)++(arrOf st).toList.drop (sa+k+r.toList.length):=by rw[←Zs,←a4r' (by lia),←a4r' (by lia),show sa+k+r.toList.length=sa+na+m by lia,List.take_append_drop]
   exact((List.Perm.append_left _ gd.1).append_right _).trans (List.Perm.of_eq e.symm)
  ·rcases hn with z|z
   ·exact o1 n (by lia)
   ·exact o2 n (by lia)
  ·have ri:∀n,n<sa+k→R K ys n=R K (arrOf st) n:=λn hn=>a0J' (o1 n hn);have ro:∀n,sa+na+m≤n→R K ys n=R K (arrOf st) n:=λn hn=>a0J' (o2 n hn);have rm:∀n,sa+k≤n→n<sa+na+m→R K ys n=R K r (n-(sa+k)):=λn h1 h2=>a0J' (o3 n h1 h2);by_cases c1:j<sa+k
   ·rw[ri i (by lia),ri j c1];exact ha i j h1 h2 (by lia)
   by_cases c2:sa+na+m≤i
   ·rw[ro i c2,ro j (by lia)];exact hb i j (by lia) h2 h3
   by_cases c3:i<sa+k
   ·rw[ri i c3];have u1:=q2 i h1 c3;by_cases c4:sa+na+m≤j
    ·rw[ro j c4];have:=bb j (by lia) h3;lia
    ·rw[rm j (by lia) (by lia)];obtain⟨n,n1,n2,e⟩:=hel (j-(sa+k)) (by lia);rw[e];by_cases c5:n<sa+na
     ·exact ha i n h1 (by lia) c5
     ·have:=bb n (by lia) (by lia);lia
   ·rw[rm i (by lia) (by lia)];by_cases c4:sa+na+m≤j
    ·rw[ro j c4];obtain⟨n,n1,n2,e⟩:=hel (i-(sa+k)) (by lia);rw[e];by_cases c5:n<sa+na
     ·have:=ha n (sa+na-1) (by lia) (by lia) (by lia);have:=q5 j c4 h3;lia
     ·exact hb n j (by lia) (by lia) h3
    ·rw[rm j (by lia) (by lia)];exact gd.2.mono (by lia) (by rw[←Zu];lia)
 have hs1:sa+k+(na-k)=sa+na:=by lia
 by_cases e3:na-k≤m
 ·refine wpS_T e3 (Zj (a4L' C hkP hxm hym hxl hyl (by lia) (by lia) r0 rl λr g gd=>?_));refine Zj (wpS_modify (Zj (wpS_get (Zl ?_))));have:=key r g gd;show Q (failedOf st).isNone _;rw[hB.failed];exact this
 ·refine wpS_F e3 (Zj (a4M' C hkP hxm hym hxl hyl (by lia) (by lia) r0 rl λr g gd=>?_));refine Zj (wpS_modify (Zj (wpS_get (Zl ?_))));have:=key r g gd;show Q (failedOf st).isNone _;rw[hB.failed];exact this
end
end Srt
end
section
set_option autoImplicit false
namespace Srt
def Ch(K:Keyed→Nat)(xs:Array Keyed):Nat→List (Nat×Nat×Nat)→Nat→Prop
 |a,[],e=>a=e
 |a,t::r,e=>t.1=a∧1≤t.2.1∧SR K xs a (a+t.2.1)∧Ch K xs (a+t.2.1) r e
section
variable {K:Keyed→Nat}{xs ys:Array Keyed}
theorem Ch.len:∀{l:List (Nat×Nat×Nat)} {a e:Nat},Ch K xs a l e→a+l.length≤e
 | [],a,e,h=>by cases h;simp
 |t::r,a,e,h=>by have:=Ch.len h.2.2.2;have:=h.2.1;rw[ZF];lia
theorem Ch.app:∀{l r:List (Nat×Nat×Nat)} {a e:Nat},Ch K xs a (l++r) e→∃m,Ch K xs a l m∧Ch K xs m r e
 | [],r,a,e,h=>⟨a,rfl,h⟩
 |t::l,r,a,e,h=>by obtain⟨m,h1,h2⟩:=Ch.app (l:=l) h.2.2.2;exact⟨m,⟨h.1,h.2.1,h.2.2.1,h1⟩,h2⟩
theorem Ch.join:∀{l r:List (Nat×Nat×Nat)} {a m e:Nat},Ch K xs a l m→Ch K xs m r e→Ch K xs a (l++r) e
 | [],r,a,m,e,h,k=>by cases h;exact k
 |t::l,r,a,m,e,h,k=>⟨h.1,h.2.1,h.2.2.1,Ch.join h.2.2.2 k⟩
theorem Ch.same:∀{l:List (Nat×Nat×Nat)} {a e:Nat},(∀i,a≤i→i<e→R K ys i=R K xs i)→Ch K xs a l e→Ch K ys a l e
 | [],a,e,_,h=>h
 |t::r,a,e,hs,h=>by have:=h.2.2.2.len;refine⟨h.1,h.2.1,λi j k1 k2 k3=>?_,Ch.same (λi k1 k2=>hs i (by lia) k2) h.2.2.2⟩;rw[hs i k1 (by lia),hs j (by lia) (by lia)];exact h.2.2.1 i j k1 k2 k3
theorem Ch.modify{f:Nat×Nat×Nat→Nat×Nat×Nat}(hf:∀t,(f t).1=t.1∧(f t).2.1=t.2.1):∀{l:List (Nat×Nat×Nat)} {i a e:Nat},Ch K xs a l e→Ch K xs a (l.modify i f) e
 | [],i,a,e,h=>by rw[List.modify_nil];exact h
 |t::r,0,a,e,h=>by rw[List.modify_zero_cons];obtain⟨h1,h2,h3,h4⟩:=h;refine⟨(hf t).1.trans h1,by rw[(hf t).2];exact h2,by rw[(hf t).2];exact h3,by rw[(hf t).2];exact h4⟩
 |t::r,i+1,a,e,h=>by rw[List.modify_succ_cons];exact⟨h.1,h.2.1,h.2.2.1,Ch.modify hf h.2.2.2⟩
theorem a6Z'{j:Nat}(h:j+1<L.length):L=L.take j++L[j]::L[j+1]::L.drop (j+2):=by rw[←List.drop_eq_getElem_cons h,←List.drop_eq_getElem_cons (show j<L.length by lia),List.take_append_drop]
theorem a7a'{j:Nat}{x:Nat×Nat×Nat}(h:j+1<L.length):(L.set j x).eraseIdx (j+1)=L.take j++x::L.drop (j+2):=by rw[List.eraseIdx_eq_take_drop_succ,List.take_succ,List.take_set_of_le (Zi _),ZM (by lia),List.drop_set_of_lt (by lia)];simp
end
section
variable {st:SortSt}{K:Keyed→Nat}
structure SI (a0:Array Keyed)(κ:SortKind)(K:Keyed→Nat)(lo:Nat)(st:SortSt):Prop where
 b:SB a0 κ st
 ch:Ch K (arrOf st) 0 (pendingOf st).toList lo
 le:lo≤a0.size
theorem a3g'(C:Cmp prog w A s κ (· ∈a0.toList) K){j:Nat}(I:SI a0 κ K lo st)(hj:j+1<(pendingOf st).size){Q:Bool→SortSt→Prop}(h:∀st',SI a0 κ K lo st'→(pendingOf st').size+1=(pendingOf st).size→(∀i,lo≤i→(arrOf st')[i]?=(arrOf st)[i]?)→Q true st'):wpS (model prog w) A E s (mergeAt' j) Q st:=by
 have hl:j+1<(pendingOf st).toList.length:=by rwa [Zu]
 have e:=a6Z' hl;have hc:=I.ch;rw[e]at hc;obtain⟨m,h1,h2⟩:=hc.app
 have g1:(pendingOf st)[j]?=some ((pendingOf st).toList[j].1,(pendingOf st).toList[j].2.1,(pendingOf st).toList[j].2.2):=by rw[←ZR,Zh]
 have g2:(pendingOf st)[j+1]?=some ((pendingOf st).toList[j+1].1,(pendingOf st).toList[j+1].2.1,(pendingOf st).toList[j+1].2.2):=by rw[←ZR,Zh]
 have e2:=a7a' (L:=(pendingOf st).toList) (j:=j) (x:=((pendingOf st).toList[j].1,(pendingOf st).toList[j].2.1+(pendingOf st).toList[j+1].2.1,(pendingOf st).toList[j].2.2)) hl;generalize(pendingOf st).toList[j]=t at*;generalize(pendingOf st).toList[j+1]=u at*;obtain⟨t1,t2,t3⟩:=t;obtain⟨u1,u2,u3⟩:=u;obtain⟨rfl,k2,k3,k4⟩:=h2;obtain⟨rfl,k6,k7,k8⟩:=k4;dsimp only at*;have hle:=k8.len;refine a4N' C I.b g1 g2 k2 k6 (by have:=I.le;lia) k3 k7 λys g hp hF hs=>?_
 have ep:(((pendingOf st).setIfInBounds j (t1,t2+u2,t3)).eraseIdxIfInBounds (j+1)).toList=(pendingOf st).toList.take j++(t1,t2+u2,t3)::(pendingOf st).toList.drop (j+2):=by rw[Array.toList_eraseIdxIfInBounds,Array.toList_setIfInBounds,e2]
 have hle1:=h1.len;refine h _ ⟨⟨hp.trans I.b.perm,I.b.failed,I.b.kind⟩,?_,I.le⟩ ?_ λi hi=>hF i (.inr (by lia))
 ·show Ch K ys 0 (((pendingOf st).setIfInBounds j (t1,t2+u2,t3)).eraseIdxIfInBounds (j+1)).toList lo;rw[ep];refine(h1.same λi _ hi=>a0J' (hF i (.inl hi))).join ⟨rfl,by dsimp only;lia,?_,?_⟩
  ·dsimp only;rw[←Nat.add_assoc];exact hs
  ·dsimp only;rw[←Nat.add_assoc];exact k8.same λi hi _=>a0J' (hF i (.inr hi))
 ·show(((pendingOf st).setIfInBounds j (t1,t2+u2,t3)).eraseIdxIfInBounds (j+1)).size+1=_;rw[←Zu,ep,←Zu];simp only[ZI,ZN,ZF,List.length_drop];lia
end
end Srt
end
section
set_option autoImplicit false
namespace Srt
section
variable {st:SortSt}{K:Keyed→Nat}
theorem selN{c:Nat→Prop}{dc:∀n,Decidable (c n)}{f T:Nat→StateT SortSt Sem α}{Q:α→SortSt→Prop}{C:Nat→SortSt→Prop}{H:Nat→Prop}(key:∀n st',C n st'→wpS (model prog w) A E s (f n) Q st')(h1:∀n,H n→c n→(∀n st',C n st'→wpS (model prog w) A E s (f n) Q st')→wpS (model prog w) A E s (T n) Q st)(h2:∀n,H n→¬c n→C n st):
  ∀n,H n→wpS (model prog w) A E s (if c n then T n else f n) Q st:=λn hn=>by
 by_cases h:c n
 ·rw[if_pos h];exact h1 n hn h key
 ·rw[if_neg h];exact key n st (h2 n hn h)
theorem a3h'(C:Cmp prog w A s κ (· ∈a0.toList) K)(hB:SB a0 κ st)(hpe:pendingOf st= #[])(h2:2≤a0.size){Q:Unit→SortSt→Prop}(h:∀st',SB a0 κ st'→SR K (arrOf st') 0 a0.size→Q () st'):wpS (model prog w) A E s sortRuns' Q st:=by
 have hsz:=hB.size;rw[sortRuns'_eq];refine Zj (wpS_get ?_);dsimp-zeta only;rw[hsz];refine Zj (wpS_mono (ZO (I:=λx c st'=>∃lo,c=(none,lo)∧SI a0 κ K lo st'∧x≤lo) (Q:=λc st'=>∃lo,c=(none,lo)∧SI a0 κ K lo st'∧a0.size≤lo) ?_ ?_ ⟨0,rfl,⟨hB,by rw[hpe];rfl,by lia⟩,by lia⟩) ?_)
 ·rintro x c st1 _ hx ⟨lo,rfl,I,hxl⟩;by_cases hlo:lo≥a0.size
  ·exact wpS_T hlo (Zl ⟨lo,rfl,I,hlo⟩)
  refine wpS_F hlo (Zj (a3f' C I.b (lo:=lo) (nrem:=a0.size-lo) (by lia) (by lia) λm ys hp hF m1 m2 hs=>?_));have chF:∀{zs:Array Keyed},(∀i,i<lo→zs[i]?=(arrOf st1)[i]?)→Ch K zs 0 (pendingOf st1).toList lo:=λhz=>I.ch.same λi _ hi=>a0J' (hz i hi);have H:1≤m∧m≤a0.size-lo∧SR K ys lo (lo+m):=⟨m1,m2,hs⟩;revert H;clear m1 m2 hs;generalize m=m';revert m';refine selN (C:=λn st2=>(SB a0 κ st2∧Ch K (arrOf st2) 0 (pendingOf st2).toList lo)∧SR K (arrOf st2) lo (lo+n)∧1≤n∧lo+n≤a0.size) (λn st2 hC=>?_) (λn hH hc key=>?_) (λn hH hc=>⟨⟨I.b.arr hp,chF λi hi=>hF i (.inl hi)⟩,hH.2.2,hH.1,by have:=hH.2.1;lia⟩)
  ·obtain⟨hJ,hs,n1,n2⟩:=hC;have push:∀st3,SB a0 κ st3→Ch K (arrOf st3) 0 (pendingOf st3).toList lo→SR K (arrOf st3) lo (lo+n)→SI a0 κ K (lo+n) (setPending st3 ((pendingOf st3).push (lo,n,0))):=λst3 b3 c3 s3=>⟨⟨b3.perm,b3.failed,b3.kind⟩,by show Ch K (arrOf st3) 0 ((pendingOf st3).push (lo,n,0)).toList (lo+n);rw[Array.toList_push];exact c3.join ⟨rfl,n1,s3,rfl⟩,n2⟩;refine Zj (wpS_get ?_);cases hbk:(pendingOf st2).back? with
   |none=>exact Zj (wpS_modify (Zl ⟨lo+n,rfl,push st2 hJ.1 hJ.2 hs,by lia⟩))
   |some t=>
    refine Zj (wpS_mono (ZO (I:=λy c st3=>c=(none,())∧(SB a0 κ st3∧Ch K (arrOf st3) 0 (pendingOf st3).toList lo)∧SR K (arrOf st3) lo (lo+n)) (Q:=λc st3=>c=(none,())∧(SB a0 κ st3∧Ch K (arrOf st3) 0 (pendingOf st3).toList lo)∧SR K (arrOf st3) lo (lo+n)) ?_ ?_ ⟨rfl,hJ,hs⟩) ?_)
    ·rintro y c st3 _ hy ⟨rfl,hJ3,hs3⟩;refine Zj (wpS_get ?_);dsimp only;by_cases hp1:(pendingOf st3).size>1
     ·have e1:(if(pendingOf st3).size>1 then(pendingOf st3)[(pendingOf st3).size-2]? else none)=some ((pendingOf st3)[(pendingOf st3).size-2]'(by lia)):=by rw[if_pos hp1,getElem?_pos]
      rw[e1];generalize((pendingOf st3)[(pendingOf st3).size-2]'(by lia))=u;by_cases ho:u.2.2≤power' a0.size (2*t.1+t.2.1) (2*t.1+t.2.1+t.2.1+n) a0.size
      ·exact wpS_T ho (Zl ⟨rfl,hJ3,hs3⟩)
      ·refine wpS_F ho (Zj (a3g' C ⟨hJ3.1,hJ3.2,by lia⟩ (by lia) λst4 I4 _ hF4=>?_));refine wpS_F (by decide) (Zl ⟨rfl,⟨I4.b,I4.ch⟩,λi j k1 k2 k3=>?_⟩);rw[a0J' (hF4 i k1),a0J' (hF4 j (by lia))];exact hs3 i j k1 k2 k3
     ·rw[if_neg hp1];exact Zl ⟨rfl,hJ3,hs3⟩
    ·rintro c st3 hh;exact hh
    ·rintro c st3 ⟨rfl,hJ3,hs3⟩;refine Zj (wpS_modify ?_);refine Zj (wpS_modify (Zl ⟨lo+n,rfl,push _ ⟨hJ3.1.perm,hJ3.1.failed,hJ3.1.kind⟩ ?_ hs3,by lia⟩));show Ch K (arrOf st3) 0 ((pendingOf st3).modify _ _).toList lo;rw[Array.toList_modify];exact Ch.modify (f:=λx=>(x.1,x.2.1,power' a0.size (2*t.1+t.2.1) (2*t.1+t.2.1+t.2.1+n) a0.size)) (λ_=>⟨rfl,rfl⟩) hJ3.2
  ·refine Zj (wpS_lift (wpAny_rule ⟨rfl,?_⟩));obtain⟨hm1,hm2,hms⟩:=hH;have hc:n<minRun' a0.size a0.size 0:=hc;refine Zj (a2k' C (I.b.arr hp) (lo:=lo) (by lia) (by lia) hms λzs hp2 hF2 hs2=>?_);refine wpS_F (by decide) (key _ _ ⟨⟨I.b.arr (hp2.trans hp),chF λi hi=>(hF2 i (.inl hi)).trans (hF i (.inl hi))⟩,hs2,by lia,by lia⟩)
 ·rintro c st' ⟨lo,rfl,I,hx⟩;exact⟨lo,rfl,I,by lia⟩
 ·rintro c st1 ⟨lo,rfl,I,hx⟩;have elo:lo=a0.size:=by have:=I.le;lia
  subst elo;refine Zj (wpS_mono (ZO (I:=λy c st2=>c=(none,())∧SI a0 κ K a0.size st2∧(pendingOf st2).size≤1+(a0.size-y)) (Q:=λc st2=>c=(none,())∧SI a0 κ K a0.size st2∧(pendingOf st2).size≤1) ?_ ?_ ⟨rfl,I,?_⟩) ?_)
  ·rintro y c st2 _ hy ⟨rfl,I2,hz⟩;refine Zj (wpS_get ?_);by_cases hp1:(pendingOf st2).size≤1
   ·exact wpS_T hp1 (Zl ⟨rfl,I2,hp1⟩)
   ·refine wpS_F hp1 (Zj (a3g' C I2 (by have hif:∀(c:Prop) [Decidable c] (x y:Nat),x≤y→(if c then x else y)≤y:=(λc _ x y hxy=>by split<;>lia);exact Nat.lt_of_le_of_lt (Nat.succ_le_succ (hif _ _ _ (Nat.sub_le _ 1))) (by lia)) λst3 I3 hz3 _=>?_));exact wpS_F (by decide) (Zl ⟨rfl,I3,by lia⟩)
  ·rintro c st2 ⟨rfl,I2,hz⟩;exact⟨rfl,I2,by lia⟩
  ·have:=I.ch.len;rw[Zu]at this;lia
  ·rintro c st2 ⟨rfl,I2,hz⟩;refine Zl (h st2 I2.b ?_);have hc:=I2.ch;have hl:(pendingOf st2).toList.length≤1:=by rwa [Zu]
   generalize(pendingOf st2).toList=L at hc hl;cases L with
   |nil=>exact absurd (show 0=a0.size from hc) (by lia)
   |cons t r=>
    cases r with
    |nil=>obtain⟨e1,e2,e3,e4⟩:=hc;have e4:0+t.2.1=a0.size:=e4;rw[e4]at e3;exact e3
    |cons _ _=>simp at hl
end
end Srt
end
section
set_option autoImplicit false
namespace Py
open PySem PySem.W PySem.Spec PyProof.Rows Srt
structure SOrd (n:Nat)(c:Nat→Nat→Bool):Prop where
 irr:∀i,i<n→c i i=false
 asym:∀i j,i<n→j<n→c i j=true→c j i=false
 ntr:∀i j k,i<n→j<n→k<n→c i j=false→c j k=false→c i k=false
def rankN(n:Nat)(c:Nat→Nat→Bool)(i:Nat):Nat:=((List.range n).filter λj=>c j i).length
theorem a8R'{f g:Nat→Bool}:∀(l:List Nat),(∀x∈l,f x=true→g x=true)→(l.filter f).length≤(l.filter g).length
 | [],_=>Zi _
 |x::l,h=>by
  have ih:=a8R' l λy hy=>h y (Zb _ hy);have hx:=h x Zc;rw[List.filter_cons,List.filter_cons];cases e1:f x<;>cases e2:g x
  ·exact ih
  ·exact Nat.le_succ_of_le ih
  ·rw[e1,e2]at hx;cases hx rfl
  ·exact Nat.succ_le_succ ih
theorem a8S'{f g:Nat→Bool}:∀(l:List Nat),(∀x∈l,f x=true→g x=true)→(∃x∈l,f x=false∧g x=true)→(l.filter f).length<(l.filter g).length
 | [],_,h=>by obtain⟨x,hx,_⟩:=h;cases hx
 |x::l,h,k=>by
  have hx:=h x Zc;have hl:=λy hy=>h y (Zb x hy);have le:=a8R' l hl;rw[List.filter_cons,List.filter_cons];cases e1:f x<;>cases e2:g x
  ·obtain⟨y,hy,k1,k2⟩:=k;rcases Zo.mp hy with rfl|hy
   ·rw[e2]at k2;cases k2
   ·exact a8S' l hl ⟨y,hy,k1,k2⟩
  ·exact Nat.lt_succ_of_le le
  ·rw[e1,e2]at hx;cases hx rfl
  ·obtain⟨y,hy,k1,k2⟩:=k;rcases Zo.mp hy with rfl|hy
   ·rw[e1]at k1;cases k1
   ·exact Nat.succ_lt_succ (a8S' l hl ⟨y,hy,k1,k2⟩)
theorem a7J'(o:SOrd n c){i j:Nat}(hi:i<n)(hj:j<n):c i j=decide (rankN n c i<rankN n c j):=by
 cases e:c i j with
 |true=>
  refine(ZS (a8S' (f:=λk=>c k i) (g:=λk=>c k j) _ (λk hk h=>?_) ⟨i,List.mem_range.mpr hi,o.irr i hi,e⟩)).symm;have hk:=List.mem_range.mp hk;cases e2:c k j with
  |true=>rfl
  |false=>have:=o.ntr k j i hk hj hi e2 (o.asym i j hi hj e);rw[h]at this;cases this
 |false=>
  refine(Zy (Nat.not_lt.mpr (a8R' (f:=λk=>c k j) (g:=λk=>c k i) _ λk hk h=>?_))).symm;have hk:=List.mem_range.mp hk;cases e2:c k i with
  |true=>rfl
  |false=>have:=o.ntr k i j hk hi hj e2 e;rw[h]at this;cases this
theorem a4O'{f:α→β}:∀{l2 m:List β},l2.Perm m→∀l1:List α,m=l1.map f→∃l:List α,l.Perm l1∧l.map f=l2:=by
 intro l2 m p
 induction p with
 |nil=>intro l1 e;cases l1 with
  |nil=>exact⟨[],.refl _,rfl⟩
  |cons _ _=>cases e
 |cons x p ih=>
  intro l1 e;cases l1 with
  |nil=>cases e
  |cons a l1=>rw[List.map_cons]at e;obtain⟨e1,e2⟩:=List.cons.inj e;subst e1;obtain⟨l,h1,h2⟩:=ih l1 e2;exact⟨a::l,h1.cons a,by rw[List.map_cons,h2]⟩
 |swap x y l=>
  intro l1 e;cases l1 with
  |nil=>cases e
  |cons a l1=>
   rw[List.map_cons]at e;obtain⟨e1,e2⟩:=List.cons.inj e;subst e1;cases l1 with
   |nil=>cases e2
   |cons b l1=>rw[List.map_cons]at e2;obtain⟨e3,e4⟩:=List.cons.inj e2;subst e3;exact⟨b::a::l1,.swap a b l1,by rw[List.map_cons,List.map_cons,e4]⟩
 |trans p q ih1 ih2=>intro l1 e;obtain⟨l,h1,h2⟩:=ih2 l1 e;obtain⟨l',h3,h4⟩:=ih1 l h2.symm;exact⟨l',h3.trans h1,h4⟩
open Classical in
def idxOf(its:Lv)(x:Keyed):Nat:=if h:∃i,i<its.length∧its.getD i Value.none=x.1 then h.choose else 0
theorem run_any(o:SOrd its.length c)(same:∀i j,i<its.length→j<its.length→its.getD i Value.none=its.getD j Value.none→rankN its.length c i=rankN its.length c j)(h2:2≤its.length)
  (ask:∀i j C,i<its.length→j<its.length→C (c i j) s→kas_ask prog w A κ its i j C s) {Q:SortSt→Shared→Prop}
  (h:∀(st':SortSt) (p:List Nat),failedOf st'=none→(arrOf st').map (·.2)=List.toArray (p.map λi=>its.getD i Value.none)→p.Perm (List.range its.length)→p.Pairwise (λi j=>c j i=false)→Q st' s):
  wpAny (model prog w) A ((sortRuns').run (SortSt.mk' κ (its.toArray.zip its.toArray) #[] 7 none)) (λr s'=>Q r.2 s') E s:=by
 have hidx:∀i,i<its.length→idxOf its (its.getD i Value.none,its.getD i Value.none)<its.length∧its.getD (idxOf its (its.getD i Value.none,its.getD i Value.none)) Value.none=its.getD i Value.none:=λi hi=>by have hx:∃j,j<its.length∧its.getD j Value.none=its.getD i Value.none:=⟨i,hi,rfl⟩;unfold idxOf;rw[dif_pos hx];exact hx.choose_spec
 have hel:∀x∈(its.toArray.zip its.toArray).toList,∃i,i<its.length∧x=(its.getD i Value.none,its.getD i Value.none):=λx hx=>by
  rw[Array.toList_zip]at hx;obtain⟨i,hi,rfl⟩:=ZW.mp hx;have hi':i<its.length:=by simp at hi;exact hi
  refine⟨i,hi',?_⟩;have e:its.getD i Value.none=its[i]:=by simp[List.getD,hi']
  rw[e];simp
 have C:Cmp prog w A s κ (· ∈(its.toArray.zip its.toArray).toList) (λx=>rankN its.length c (idxOf its x)):=⟨λx hx y hy Q E hQ=>by obtain⟨i,hi,rfl⟩:=hel x hx;obtain⟨j,hj,rfl⟩:=hel y hy;obtain⟨i1,i2⟩:=hidx i hi;obtain⟨j1,j2⟩:=hidx j hj;rw[←a7J' o i1 j1]at hQ;have:=ask _ _ Q i1 j1 hQ;unfold kas_ask at this;rw[i2,j2]at this;exact ZV this (λ_ _ q=>q) λ_ _ z=>z.elim⟩;have hz:(its.toArray.zip its.toArray).size=its.length:=by simp
 have run:=a3h' (E:=E) (st:=SortSt.mk' κ (its.toArray.zip its.toArray) #[] 7 none) C ⟨.refl _,rfl,rfl⟩ rfl (by rw[hz];exact h2) (Q:=λ_ st'=>Q st' s) λst' B hs=>by
  have hr:(its.toArray.zip its.toArray).toList=(List.range its.length).map λi=>(its.getD i Value.none,its.getD i Value.none):=by
   apply List.ext_getElem
   ·simp
   ·intro i h1 h2;have hi:i<its.length:=by simpa using h2
    have e:its.getD i Value.none=its[i]:=by simp[List.getD,hi]
    simp only[List.getElem_map,List.getElem_range,e];simp
  obtain⟨p,p1,p2⟩:=a4O' (Array.perm_iff_toList_perm.mp B.perm) _ hr;refine h st' p B.failed ?_ p1 ?_
  ·apply Array.toList_inj.mp;rw[Array.toList_map,←p2,List.map_map];rfl
  ·refine List.pairwise_iff_getElem.mpr λi j hi hj hij=>?_;have hpl:p.length=its.length:=by rw[p1.length_eq,List.length_range]
   have pi:p[i]<its.length:=List.mem_range.mp (p1.mem_iff.mp (List.getElem_mem hi));have pj:p[j]<its.length:=List.mem_range.mp (p1.mem_iff.mp (List.getElem_mem hj));have hsz:(arrOf st').size=its.length:=by rw[B.perm.size_eq,hz]
   have:=hs i j (Nat.zero_le _) (Nat.le_of_lt hij) (by rw[hz];omega)
   have ge:∀(k:Nat) (hk:k<p.length),R (λx=>rankN its.length c (idxOf its x)) (arrOf st') k=rankN its.length c p[k]:=λk hk=>by
    have hk':k<(arrOf st').size:=by omega
    rw[R_of hk']
    have e:(arrOf st')[k]=(its.getD p[k] Value.none,its.getD p[k] Value.none):=by
     have e1:(arrOf st').toList[k]?=some (its.getD p[k] Value.none,its.getD p[k] Value.none):=by rw[←p2,ZQ,Zh hk];rfl
     rw[ZR,getElem?_pos (arrOf st') k hk']at e1;exact ZL e1
    rw[e];have pk:p[k]<its.length:=List.mem_range.mp (p1.mem_iff.mp (List.getElem_mem hk));obtain⟨q1,q2⟩:=hidx p[k] pk;exact same _ _ q1 pk q2
   rw[ge i hi,ge j hj]at this;rw[a7J' o pj pi];exact Zy (by omega)
 exact ZV run (λr s' hr=>by obtain⟨rfl,q⟩:=hr;exact q) λ_ _ e=>e
end Py
end
namespace Py
structure LOrd (P:D→Prop)(f:D→D→Bool):Prop where
 irr:∀x,P x→f x x=false
 asym:∀x y,P x→P y→f x y=true→f y x=false
 ntr:∀x y z,P x→P y→P z→f x y=false→f y z=false→f x z=false
 tot:∀x y,P x→P y→f x y=false→f y x=false→x=y
section
variable {P:D→Prop}{f:D→D→Bool}
theorem a7K'(o:LOrd P f):∀(xs:List D),(∀x∈xs,P x)→lexB f xs xs=false
 | [],_=>rfl
 |x::xs,h=>by unfold lexB;rw[o.irr x (h x Zc)];simpa using a7K' o xs λy hy=>h y (Zb _ hy)
theorem a6a'(o:LOrd P f):∀(xs ys:List D),(∀x∈xs,P x)→(∀x∈ys,P x)→lexB f xs ys=true→lexB f ys xs=false
 | [],[],_,_,h=>by cases h
 | [],_::_,_,_,_=>rfl
 |_::_,[],_,_,h=>by cases h
 |x::xs,y::ys,h1,h2,h=>by
  unfold lexB at h⊢;have px:=h1 x Zc;have py:=h2 y Zc;cases e:f x y with
  |true=>rw[o.asym x y px py e];simp
  |false=>
   rw[e]at h;cases e2:f y x with
   |true=>rw[e2]at h;simp at h
   |false=>rw[e2]at h;simp only[ZD,if_false]at h⊢;exact a6a' o xs ys (λz hz=>h1 z (Zb _ hz)) (λz hz=>h2 z (Zb _ hz)) h
theorem a7L'(o:LOrd P f):∀(xs ys:List D),(∀x∈xs,P x)→(∀x∈ys,P x)→lexB f xs ys=false→lexB f ys xs=false→xs=ys
 | [],[],_,_,_,_=>rfl
 | [],_::_,_,_,h,_=>by cases h
 |_::_,[],_,_,_,h=>by cases h
 |x::xs,y::ys,h1,h2,h,h'=>by
  unfold lexB at h h';have px:=h1 x Zc;have py:=h2 y Zc;cases e:f x y with
  |true=>rw[e]at h;simp at h
  |false=>
   cases e2:f y x with
   |true=>rw[e2]at h';simp at h'
   |false=>rw[e,e2]at h h';simp only[ZD,if_false]at h h';rw[o.tot x y px py e e2,a7L' o xs ys (λz hz=>h1 z (Zb _ hz)) (λz hz=>h2 z (Zb _ hz)) h h']
theorem a7M'(o:LOrd P f):∀(xs ys zs:List D),(∀x∈xs,P x)→(∀x∈ys,P x)→(∀x∈zs,P x)→lexB f xs ys=false→lexB f ys zs=false→lexB f xs zs=false
 | [],[],zs,_,_,_,_,h=>h
 | [],_::_,_,_,_,_,h,_=>by cases h
 |_::_,_,[],_,_,_,_,_=>rfl
 |x::xs,[],z::zs,_,_,_,_,h=>by cases h
 |x::xs,y::ys,z::zs,h1,h2,h3,ha,hb=>by
  have px:=h1 x Zc;have py:=h2 y Zc;have pz:=h3 z Zc;unfold lexB at ha hb⊢;cases e1:f x y with
  |true=>rw[e1]at ha;simp at ha
  |false=>
   cases e2:f y z with
   |true=>rw[e2]at hb;simp at hb
   |false=>
    rw[e1]at ha;rw[e2]at hb;simp only[ZD,if_false]at ha hb;rw[o.ntr x y z px py pz e1 e2];simp only[ZD,if_false];cases e3:f z x with
    |true=>rfl
    |false=>have e4:f y x=false:=o.ntr y z x py pz px e2 e3;have e5:f z y=false:=o.ntr z x y pz px py e3 e1;rw[e4]at ha;rw[e5]at hb;simp only[ZD,if_false]at ha hb⊢;exact a7M' o xs ys zs (λw hw=>h1 w (Zb _ hw)) (λw hw=>h2 w (Zb _ hw)) (λw hw=>h3 w (Zb _ hw)) ha hb
end
theorem a1p'(h:hasTy .int d=true):∃i,d=.int i:=by cases d<;>first|exact⟨_,rfl⟩| (simp[hasTy]at h)
theorem a1b'(h:hasTy (.seq t) d=true):∃xs,d=.tup xs∧∀x∈xs,hasTy t x=true:=by
 cases d with
 |tup xs=>unfold hasTy at h;exact⟨xs,rfl,λx hx=>Zp.mp h x hx⟩
 |_=>simp[hasTy]at h
theorem lordK:∀(t:KTy),noStr t=true→LOrd (λd=>hasTy t d=true) (ltK t)
 | .int,_=>by
  refine⟨λx h=>?_,λx y h1 h2 h=>?_,λx y z h1 h2 h3 ha hb=>?_,λx y h1 h2 ha hb=>?_⟩
  ·obtain⟨i,rfl⟩:=a1p' h;simp[ltK]
  ·obtain⟨i,rfl⟩:=a1p' h1;obtain⟨j,rfl⟩:=a1p' h2;simp[ltK]at h⊢;omega
  ·obtain⟨i,rfl⟩:=a1p' h1;obtain⟨j,rfl⟩:=a1p' h2;obtain⟨k,rfl⟩:=a1p' h3;simp[ltK]at ha hb⊢;omega
  ·obtain⟨i,rfl⟩:=a1p' h1;obtain⟨j,rfl⟩:=a1p' h2;simp[ltK]at ha hb;congr 1;omega
 | .seq t,h=>by
  have o:=lordK t h;refine⟨λx h=>?_,λx y h1 h2 h=>?_,λx y z h1 h2 h3 ha hb=>?_,λx y h1 h2 ha hb=>?_⟩
  ·obtain⟨xs,rfl,k⟩:=a1b' h;exact a7K' o xs k
  ·obtain⟨xs,rfl,k1⟩:=a1b' h1;obtain⟨ys,rfl,k2⟩:=a1b' h2;exact a6a' o xs ys k1 k2 h
  ·obtain⟨xs,rfl,k1⟩:=a1b' h1;obtain⟨ys,rfl,k2⟩:=a1b' h2;obtain⟨zs,rfl,k3⟩:=a1b' h3;exact a7M' o xs ys zs k1 k2 k3 ha hb
  ·obtain⟨xs,rfl,k1⟩:=a1b' h1;obtain⟨ys,rfl,k2⟩:=a1b' h2;exact congrArg D.tup (a7L' o xs ys k1 k2 ha hb)
def eqK(t:KTy)(d e:D):Bool:= !ltK t d e&& !ltK t e d
theorem a6b'(hs:noStr t=true){e:D}(h1:hasTy t d=true)(h2:hasTy t e=true)(h:eqK t d e=true):d=e:=by unfold eqK at h;simp at h;exact(lordK t hs).tot d e h1 h2 h.1 h.2
theorem a1e'{f:D→D→Bool}{x y:D}{xs ys:List D}:lexB f (x::xs) (y::ys)=if f x y=true then true else if f y x=true then false else lexB f xs ys:=rfl
theorem a7N'{t:KTy}(hs:noStr t=true):∀(xs ys:List D),(∀x∈xs,hasTy t x=true)→(∀x∈ys,hasTy t x=true)→eqK (.seq t) (.tup xs) (.tup ys)=((List.zipWith (eqK t) xs ys).all id&&xs.length==ys.length)
 | [],[],_,_=>rfl
 | [],y::ys,_,_=>by simp[eqK,ltK,lexB]
 |x::xs,[],_,_=>by simp[eqK,ltK,lexB]
 |x::xs,y::ys,h1,h2=>by
  have ih:=a7N' hs xs ys (λw hw=>h1 w (Zb _ hw)) (λw hw=>h2 w (Zb _ hw));have px:=h1 x Zc;have py:=h2 y Zc;cases e:ltK t x y with
  |true=>
   have:eqK t x y=false:=by simp[eqK,e]
   simp[eqK,ltK,lexB,e]
  |false=>
   cases e2:ltK t y x with
   |true=>simp[eqK,ltK,lexB,e,e2]
   |false=>
    have e3:eqK t x y=true:=by simp[eqK,e,e2]
    have e4:eqK (.seq t) (.tup (x::xs)) (.tup (y::ys))=eqK (.seq t) (.tup xs) (.tup ys):=by show(!lexB (ltK t) (x::xs) (y::ys)&& !lexB (ltK t) (y::ys) (x::xs))=(!lexB (ltK t) xs ys&& !lexB (ltK t) ys xs);rw[a1e',a1e',e,e2];simp
    rw[e4,ih];simp[e3]
theorem a6c'(f:D→D→Bool):∀(xs ys:List D) (g:D→D→Option Bool),(∀x∈xs,∀y∈ys,g x y=some (f x y))→allO (List.zipWith g xs ys)=some ((List.zipWith f xs ys).all id)
 | [],_,_,_=>rfl
 |_::_,[],_,_=>rfl
 |x::xs,y::ys,g,h=>by
  have ih:=a6c' f xs ys g λa ha b hb=>h a (Zb _ ha) b (Zb _ hb)
  show(match g x y,allO (List.zipWith g xs ys)with
   |some b,some c=>some (b&&c)
   |_,_=>none)=_
  rw[h x Zc y Zc,ih];rfl
theorem a7O'{t:KTy}(hs:noStr t=true){eq lt:D→D→Option Bool}:∀(xs ys:List D),(∀x∈xs,hasTy t x=true)→(∀x∈ys,hasTy t x=true)→(∀x∈xs,∀y∈ys,eq x y=some (eqK t x y)∧lt x y=some (ltK t x y))→ltL eq lt xs ys=some (lexB (ltK t) xs ys)
 | [],[],_,_,_=>rfl
 | [],_::_,_,_,_=>rfl
 |_::_,[],_,_,_=>rfl
 |x::xs,y::ys,h1,h2,h=>by
  have ih:=a7O' hs xs ys (λw hw=>h1 w (Zb _ hw)) (λw hw=>h2 w (Zb _ hw)) λa ha b hb=>h a (Zb _ ha) b (Zb _ hb);obtain⟨k1,k2⟩:=h x Zc y Zc;have px:=h1 x Zc;have py:=h2 y Zc;unfold ltL;rw[k1,a1e'];cases e:ltK t x y with
  |true=>
   have e1:eqK t x y=false:=by simp[eqK,e]
   rw[e1];show lt x y=_;rw[k2,e];rfl
  |false=>
   cases e2:ltK t y x with
   |true=>
    have e1:eqK t x y=false:=by simp[eqK,e,e2]
    rw[e1];show lt x y=_;rw[k2,e];rfl
   |false=>
    have e1:eqK t x y=true:=by simp[eqK,e,e2]
    rw[e1];exact ih
theorem asK(S:Store):∀(t:KTy),noStr t=true→∀n,depth t≤n→∀d e,hasTy t d=true→hasTy t e=true→eqF S n d e=some (eqK t d e)∧ltF S n d e=some (ltK t d e)
 | .int,_,0,h,_,_,_,_=>by simp[depth]at h
 | .int,_,n+1,_,d,e,h1,h2=>by
  obtain⟨i,rfl⟩:=a1p' h1;obtain⟨j,rfl⟩:=a1p' h2;refine⟨?_,rfl⟩;show some (i==j)=some (!decide (i<j)&& !decide (j<i));congr 1;by_cases z:i=j
  ·subst z;simp
  ·rcases Int.lt_or_gt_of_ne z with y|y
   ·simp[z,y]
   ·have:¬i<j:=by omega
    simp[z,y]
 | .seq t,hs,0,h,_,_,_,_=>by simp[depth]at h
 | .seq t,hs,n+1,h,d,e,h1,h2=>by obtain⟨xs,rfl,k1⟩:=a1b' h1;obtain⟨ys,rfl,k2⟩:=a1b' h2;have ih:=asK S t hs n (by simpa[depth]using h);refine⟨?_,a7O' (t:=t) hs xs ys k1 k2 λx hx y hy=>ih x y (k1 x hx) (k2 y hy)⟩;show(allO (List.zipWith (eqF S n) xs ys)).map (· &&xs.length==ys.length)=_;rw[a6c' (eqK t) xs ys _ λx hx y hy=>(ih x y (k1 x hx) (k2 y hy)).1,a7N' (t:=t) hs xs ys k1 k2];rfl
theorem a2N'(f:D→D→Bool)(x:D):∀l,(insB f x l).Perm (x::l)
 | []=>.refl _
 |y::ys=>by
  unfold insB;split
  ·exact .refl _
  ·exact((a2N' f x ys).cons y).trans (.swap _ _ _)
theorem a3i'(f:D→D→Bool)(xs:List D):(a3F' f xs).Perm xs:=by
 have key:∀(xs acc:List D),(xs.foldl (λacc x=>insB f x acc) acc).Perm (acc++xs):=by
  intro xs
  induction xs with
  |nil=>intro acc;simp
  |cons x xs ih=>intro acc;refine(ih (insB f x acc)).trans ?_;refine((a2N' f x acc).append_right xs).trans ?_;exact List.perm_middle.symm
 simpa[a3F']using key xs []
theorem a3j'{P:D→Prop}{f:D→D→Bool}(o:LOrd P f)(x:D)(px:P x):∀l,(∀y∈l,P y)→l.Pairwise (λa b=>f b a=false)→(insB f x l).Pairwise (λa b=>f b a=false)
 | [],_,_=>by simp[insB]
 |y::ys,hp,h=>by
  unfold insB;have py:=hp y Zc;obtain⟨h1,h2⟩:=List.pairwise_cons.mp h;split
  ·rename_i hlt;refine List.pairwise_cons.mpr ⟨λz hz=>?_,h⟩;have yx:=o.asym x y px py hlt;rcases Zo.mp hz with rfl|hz
   ·exact yx
   ·exact o.ntr z y x (hp z (Zb _ hz)) py px (h1 z hz) yx
  ·rename_i hlt;refine List.pairwise_cons.mpr ⟨λz hz=>?_,a3j' o x px ys (λw hw=>hp w (Zb _ hw)) h2⟩;rcases Zo.mp ((a2N' f x ys).mem_iff.mp hz)with rfl|hz
   ·simpa using hlt
   ·exact h1 z hz
theorem a3L'{P:D→Prop}{f:D→D→Bool}(o:LOrd P f)(xs:List D)(hp:∀x∈xs,P x):(a3F' f xs).Pairwise (λa b=>f b a=false):=by
 have key:∀(xs acc:List D),(∀x∈xs,P x)→(∀x∈acc,P x)→acc.Pairwise (λa b=>f b a=false)→(xs.foldl (λacc x=>insB f x acc) acc).Pairwise (λa b=>f b a=false):=by
  intro xs
  induction xs with
  |nil=>intro acc _ _ h;exact h
  |cons x xs ih=>
   intro acc h1 h2 h;have px:=h1 x Zc;refine ih (insB f x acc) (λy hy=>h1 y (Zb _ hy)) (λy hy=>?_) (a3j' o x px acc h2 h);rcases Zo.mp ((a2N' f x acc).mem_iff.mp hy)with rfl|hy
   ·exact px
   ·exact h2 y hy
 exact key xs [] hp (by simp) .nil
theorem a3M'(hs:noStr t=true){xs ys:List D}(hp:∀x∈xs,hasTy t x=true)(p:ys.Perm xs)(s:ys.Pairwise (λa b=>ltK t b a=false)):ys=a3F' (ltK t) xs:=by have o:=lordK t hs;refine List.Perm.eq_of_pairwise (le:=λa b=>ltK t b a=false) (λa b ha hb h1 h2=>?_) s (a3L' o xs hp) (p.trans (a3i' _ _).symm);exact o.tot a b (hp a (p.mem_iff.mp ha)) (hp b ((a3i' _ _).mem_iff.mp hb)) h2 h1
open PySem PySem.W PySem.Spec PyProof.Rows
def Outs(its:Lv)(c:Nat→Nat→Bool)(out:Lv):Prop:=∃p:List Nat,out=p.map (λi=>its.getD i Value.none)∧p.Perm (List.range its.length)∧p.Pairwise (λi j=>c j i=false)
theorem a3N'{n0:Nat}{P:PySem.Fin→Shared→Prop}(ho:s.heap.get? a=some (seqObj "list" its.toArray n0))(h64:its.length≤sizeLine)
  (hk:2≤its.length→∃κ:SortKind,SOrd its.length c∧(∀i j,i<its.length→j<its.length→its.getD i Value.none=its.getD j Value.none→rankN its.length c i=rankN its.length c j)∧∀h':Heap,(∀b o,b≠a→s.heap.get? b=some o→h'.get? b=some o)→
   (∀(Q':SortKind→Shared→Prop),Q' κ {s with heap:=h'}→wpAny (model prog w) A (keyKind' its.toArray) Q' E {s with heap:=h'})∧
   ∀i j C,i<its.length→j<its.length→C (c i j) {s with heap:=h'}→kas_ask prog w A κ its i j C {s with heap:=h'})
  (hP:∀h' c2 out,(∀b o,b≠a→s.heap.get? b=some o→h'.get? b=some o)→h'.get? a=some (seqObj "list" (List.toArray out) c2)→Outs its c out→P (.done (.ret .none)) {s with heap:=h'}):
  wpAny (model prog w) A (Builtin.«list.sort» ⟨[.ref a],[]⟩) P E s:=by
 have ha:a<s.heap.objs.size:=Zk ho;have s1:=Heap.SameBut.update s.heap a (Obj.mapSeq λ_=>(#[]:Av));obtain⟨e1,ho1⟩:∃e1,(s.heap.update a (Obj.mapSeq λ_=>(#[]:Av))).get? a=some (seqObj "list" #[] e1):=⟨_,get?_update_seq ho λ_=> #[]⟩
 have keep:∀b o,b≠a→s.heap.get? b=some o→(((s.heap.update a (Obj.mapSeq λ_=>(#[]:Av))).push (seqObj "tuple" its.toArray 0)).push (seqObj "list" #[] 0)).get? b=some o:=λb o hb e=>
  Zd _ (Zd _ ((s1.2 b hb).trans e))
 have ho2:(((s.heap.update a (Obj.mapSeq λ_=>(#[]:Av))).push (seqObj "tuple" its.toArray 0)).push (seqObj "list" #[] 0)).get? a=some (seqObj "list" #[] e1):=Zd _ (Zd _ ho1);rw[list_sort_plain];refine Za (listItems_at ho rfl ?_);refine Za (listUpdate_at ho rfl ?_ (by rw[Zf];exact h64) (Nat.zero_le _));refine Za (seqEpoch_at ho1 rfl ?_);refine Za (wpAny_newTuple ?_ (by show its.length≤_;exact h64));refine Za (wpAny_newList ?_ (Nat.zero_le _));refine wpAny_holding ?_;show wpAny (model prog w) A _ P E {s with heap:=((s.heap.update a (Obj.mapSeq λ_=>(#[]:Av))).push (seqObj "tuple" its.toArray 0)).push (seqObj "list" #[] 0)};generalize((s.heap.update a (Obj.mapSeq λ_=>(#[]:Av))).push (seqObj "tuple" its.toArray 0)).push (seqObj "list" #[] 0)=h1 at*
 have fin:∀(st':SortSt) (out:Lv),(arrOf st').map (·.2)=List.toArray out→failedOf st'=none→out.length=its.length→Outs its c out→
   wpAny (model prog w) A (do
    let touched:=(←seqEpoch a) !=e1
    Builtin.List.listUpdate (.ref a) λ_=>(arrOf st').map (·.2)
    if let some e:=failedOf st' then rule "list.sort.comparison-raised";throw e
    if touched then rule "list.sort.modified";raiseError "ValueError" "list modified during sort"
    ret .none) P E {s with heap:=h1}:=by
  intro st' out hout hf hlen hO;have s2:=Heap.SameBut.update h1 a (Obj.mapSeq λ_=>List.toArray out);obtain⟨c2,hc2⟩:∃c2,(h1.update a (Obj.mapSeq λ_=>List.toArray out)).get? a=some (seqObj "list" (List.toArray out) c2):=⟨_,get?_update_seq ho2 λ_=>List.toArray out⟩;rw[hout];refine Za (seqEpoch_at ho2 rfl ?_);refine Za (listUpdate_at ho2 rfl ?_ (Nat.zero_le _) (by rw[Zf,hlen];exact Nat.le_succ_of_le h64));rw[hf];simp only[bne_self_eq_false,ZD,if_false];exact Zg (hP _ c2 out (λb o hb e=>(s2.2 b hb).trans (keep b o hb e)) hc2 hO)
 by_cases h2:2≤its.length
 ·have hn2:¬its.toArray.size<2:=by rw[Zf];omega
  rw[if_neg hn2,if_neg hn2];obtain⟨κ,o,same,hk⟩:=hk h2;obtain⟨k1,k2⟩:=hk h1 keep;refine Za (k1 _ ?_)
  have run:=run_any (E:=E) o same h2 k2 (Q:=λst' s'=>s'={s with heap:=h1}∧failedOf st'=none∧∃out:Lv,(arrOf st').map (·.2)=List.toArray out∧out.length=its.length∧Outs its c out)
   (λst' p hf hout hp hs=>⟨rfl,hf,_,hout,by rw[List.length_map,hp.length_eq,List.length_range],p,rfl,hp,hs⟩)
  refine Za (ZV run (λr s' hr=>?_) λ_ _ e=>e);obtain⟨⟨⟩,st'⟩:=r;obtain⟨rfl,hf,out,hout,hlen,hO⟩:=hr;exact fin st' _ hout hf hlen hO
 ·have hn2:its.toArray.size<2:=by rw[Zf];omega
  rw[if_pos hn2,if_pos hn2];refine Za (Zg ?_)
  show wpAny (model prog w) A (do
    let touched:=(←seqEpoch a) !=e1
    Builtin.List.listUpdate (.ref a) λ_=>(arrOf (SortSt.mk' general' (its.toArray.zip its.toArray) #[] 7 none)).map (·.2)
    if let some e:=failedOf (SortSt.mk' general' (its.toArray.zip its.toArray) #[] 7 none)then rule "list.sort.comparison-raised";throw e
    if touched then rule "list.sort.modified";raiseError "ValueError" "list modified during sort"
    ret .none) P E {s with heap:=h1}
  refine fin _ its ?_ rfl rfl ⟨List.range its.length,?_,.refl _,?_⟩
  ·show(its.toArray.zip its.toArray).map (·.2)=its.toArray;apply Array.toList_inj.mp;rw[Array.toList_map,Array.toList_zip];exact List.map_snd_zip (Zi _)
  ·refine List.ext_getElem (by simp) λi h1 h2=>?_;simp[h1]
  ·match its,h2 with
   | [],_=>simp
   | [_],_=>simp
   |_::_::_,h2=>simp at h2
end Py
namespace Py
open PySem PySem.W PySem.Spec PyProof.Rows L2
theorem a4P'{b:Bool}{l:Addr}{Q:Vs}(hl:IsSq b s.heap l its.toArray)(h64:its.length≤sizeLine)
  (hk:2≤its.length→∃κ:SortKind,SOrd its.length c∧(∀i j,i<its.length→j<its.length→its.getD i Value.none=its.getD j Value.none→rankN its.length c i=rankN its.length c j)∧∀h':Heap,(∀b o,s.heap.get? b=some o→h'.get? b=some o)→
   (∀(E':Vs) (Q':SortKind→Shared→Prop),Q' κ {s with heap:=h'}→wpAny (model prog w) A.in1.in1 (keyKind' its.toArray) Q' E' {s with heap:=h'})∧
   ∀i j C,i<its.length→j<its.length→C (c i j) {s with heap:=h'}→kas_ask prog w A.in1.in1 κ its i j C {s with heap:=h'})
  (hQ:∀(h1 h':Heap) c2 out,(∀b o,s.heap.get? b=some o→h1.get? b=some o)→(∀b o,h1.get? b=some o→h'.get? b=some o)→h'.get? h1.objs.size=some (seqObj "list" (List.toArray out) c2)→Outs its c out→Q (.ref h1.objs.size) {s with heap:=h'}):
  wpAny (model prog w) A (call (.builtin "sorted") [.ref l]) Q E s:=by
 refine Calls.call_function_entry kind_sorted plain_sorted entry_sorted (args_sorted1 _) ?_;unfold Builtin.«sorted»;refine Za (m:=checkCount "sorted" 1 1 _) (Zg ?_);have hsz:its.toArray.size≤sizeLine:=by rw[Zf];exact h64
 have go:∀h1:Heap,(∀b o,s.heap.get? b=some o→h1.get? b=some o)→wpAny (model prog w) A.in1 (do
   let l ←newList its
   let _ ←holding [l] (call (.builtin "list.sort") [l])
   ret l) (λfin s'=>∃v,fin=.done (.ret v)∧Q v s') E {s with heap:=h1}:=by
  intro h1 k1;refine Za (wpAny_newList ?_ h64);have hoL:(h1.push (seqObj "list" its.toArray 0)).get? h1.objs.size=some (seqObj "list" its.toArray 0):=Zn _ rfl;refine Za (wpAny_holding (wpAny_call_entry slot_list_sort ⟨_,hoL,rfl⟩ entry_list_sort ?body (args_list_sort _)))
  case body=>
   refine a3N' (c:=c) (s:={s with heap:=h1.push (seqObj "list" its.toArray 0)}) hoL h64 (λh2=>?_) λh' c2 out kp e O=>?_
   ·obtain⟨κ,o,same,hk⟩:=hk h2;refine⟨κ,o,same,λh' kp=>?_⟩;obtain⟨q1,q2⟩:=hk h' λb o e=>kp b o (ZK (Zk (k1 b o e))) (Zd _ (k1 b o e));exact⟨q1 _,q2⟩
   ·exact⟨_,rfl,Zg ⟨_,rfl,hQ h1 h' c2 out k1 (λb o e=>kp b o (ZK (Zk e)) (Zd _ e)) e O⟩⟩
 cases b with
 |true=>obtain⟨o,ho,hc,n,hd⟩:=hl;exact Za (wpAny_collect_seq l (.inl rfl) ho hc hd (λh1 k1=>by simpa using go h1 k1) hsz)
 |false=>obtain⟨o,ho,hc,n,hd⟩:=hl;exact Za (wpAny_collect_seq l (.inr rfl) ho hc hd (λh1 k1=>by simpa using go h1 k1) hsz)
theorem cmpK(I:Inv X pq σ H s)(sk:SOk X.K ⟨X.mg,F⟩ μ S H)(hs:noStr t=true)(hd:depth t≤40)(hu:A.units+40<cLine){e:D}(h1:hasTy t d=true)(h2:hasTy t e=true)
  (r1:Rep X.K ⟨X.mg,F⟩ μ H d v) (q1:RelV v u) (r2:Rep X.K ⟨X.mg,F⟩ μ H e v') (q2:RelV v' z):PySem.SeqAt.EqAt A s u z (eqK t d e)∧LtAt A s u z (ltK t d e):=by
 obtain⟨a1,a2⟩:=asK S t hs 40 hd d e h1 h2;exact⟨(rcF I sk 40 A hu d e v v' u z _ r1 q1 r2 q2 a1).2.2,ltF_at I sk 40 A hu d e v v' u z _ r1 q1 r2 q2 a2⟩
theorem a6d'{prog:Program}{w:World}{A:Around}{Q:Bool→Shared→Prop}{t:KTy}{b:Bool}(hb:b=true→t=.int):∀(ds es:List D) (us zs:Lv) (i:Nat),(∀d∈ds,hasTy t d=true)→(∀e∈es,hasTy t e=true)→ds.length=us.length→es.length=zs.length→
  (∀(j:Nat) d e u z,ds[j]?=some d→es[j]?=some e→us[j]?=some u→zs[j]?=some z→PySem.SeqAt.EqAt A s u z (eqK t d e)∧LtAt A s u z (ltK t d e)∧(t=.int→∃a b ta tb,d=.int a∧e=.int b∧u=.int a ta∧z=.int b tb))→
  Q (lexB (ltK t) ds es) s→KatLex prog w A b (decide (us.length<zs.length)) Q (us.zip zs) i s
 | [],[],us,zs,i,_,_,l1,l2,_,q=>by have e1:us=[]:=Zt l1.symm;have e2:zs=[]:=Zt l2.symm;subst e1;subst e2;exact kat_nil q
 | [],e::es,us,zs,i,_,_,l1,l2,_,q=>by
  have e1:us=[]:=Zt l1.symm;subst e1;have:decide (([]:Lv).length<zs.length)=true:=by simp at l2⊢;omega
  rw[this,List.zip_nil_left];exact kat_nil q
 |d::ds,[],us,zs,i,_,_,l1,l2,_,q=>by
  have e1:zs=[]:=Zt l2.symm;subst e1;have:decide (us.length<([]:Lv).length)=false:=by simp
  rw[this,List.zip_nil_right];exact kat_nil q
 |d::ds,e::es,[],zs,i,_,_,l1,_,_,_=>by simp at l1
 |d::ds,e::es,_::_,[],i,_,_,_,l2,_,_=>by simp at l2
 |d::ds,e::es,u::us,z::zs,i,h1,h2,l1,l2,h,q=>by
  obtain⟨k1,k2,k3⟩:=h 0 d e u z rfl rfl rfl rfl;have e0:decide ((u::us).length<(z::zs).length)=decide (us.length<zs.length):=by simp
  rw[e0,List.zip_cons_cons];refine kat_cons (k1 prog w _ _ ?_);rw[a1e']at q
  have no:∀{k:Bool},ltK t d e=k→eqK t d e=false→Q k s→KatGo prog w A b (decide (us.length<zs.length)) Q u z (us.zip zs) i false s:=λ{k} hk _ qk=>by
   clear q;refine kat_no ?_;cases hbi:(b&&i==0)with
   |false=>exact kat_one u z (k2 prog w _ _ (by rw[hk];exact qk))
   |true=>simp only[ZA]at hbi;obtain⟨a,b',ta,tb,rfl,rfl,rfl,rfl⟩:=k3 (hb hbi.1);have ht:=hb hbi.1;subst ht;exact oneLt_int (by rw[show decide (a<b')=k from hk];exact qk)
  cases e1:ltK t d e with
  |true=>
   have ee:eqK t d e=false:=by simp[eqK,e1]
   rw[e1]at q;rw[ee];exact no e1 ee (by simpa using q)
  |false=>
   cases e2:ltK t e d with
   |true=>
    have ee:eqK t d e=false:=by simp[eqK,e1,e2]
    rw[e1,e2]at q;rw[ee];exact no e1 ee (by simpa using q)
   |false=>
    have ee:eqK t d e=true:=by simp[eqK,e1,e2]
    rw[e1,e2]at q;rw[ee];refine kat_yes (a6d' hb ds es us zs (i+1) (λx hx=>h1 x (Zb _ hx)) (λx hx=>h2 x (Zb _ hx)) (by simpa using l1) (by simpa using l2) (λj d' e' u' z' a1 a2 a3 a4=>h (j+1) d' e' u' z' a1 a2 a3 a4) (by simpa using q))
end Py
namespace Py
open PySem PySem.W PySem.Spec PyProof.Rows L2
theorem a4u'{α β:Type}{M:Model}{f:α→Sem β}{g:α→β}:∀(l:List α) {Q:List β→Shared→Prop},(∀v∈l,∀(Q':β→Shared→Prop),Q' (g v) s→wpAny M A (f v) Q' E s)→Q (l.map g) s→wpAny M A (l.mapM f) Q E s
 | [],_,_,h=>by rw[List.mapM_nil];exact Zg h
 |x::l,Q,hf,h=>by rw[List.mapM_cons];exact Za (hf x (.head _) _ (Za (a4u' l (Q:=λbs s'=>wpAny M A (pure (g x::bs)) Q E s') (λv hv=>hf v (.tail _ hv)) (Zg h))))
theorem one_tup{l b:Addr}{vs ws:Lv}{k:Bool}{Q:Bool→Shared→Prop}(hl:s.heap.IsTuple l vs.toArray)(hb:s.heap.IsTuple b ws.toArray)(hu:A.units<cLine)(hx:LexAt A.in1 s vs ws k)(h:Q k s):wpAny (model prog w) A (oneLt' true (.ref l) (.ref b)) Q E s:=by obtain⟨⟨cls,dd,data,sl⟩,ho,hc,n,hd⟩:=id hl;obtain⟨⟨cls2,dd2,data2,sl2⟩,ho2,hc2,n2,hd2⟩:=id hb;simp only at hc hd hc2 hd2;subst hc hd hc2 hd2;rw[oneLt'_eq];simp only[if_true];refine Za (wpAny_cRoomFor hu ?_);refine Za (wpAny_callSpecialIfBound?_slot ⟨_,ho,rfl⟩ PySem.F.slot_tuple_lt (call_meets PySem.F.slot_tuple_lt ⟨_,ho,rfl⟩ PySem.F.entry_tuple_lt (PySem.F.args_tuple_lt_2 _ _) (a2X' l b vs.toArray ws.toArray n n2 dd dd2 sl sl2 k) ⟨ho,ho2,by simpa using hx,?_⟩));exact ZP h
end Py
namespace Py
open PySem PySem.W PySem.Spec PyProof.Rows L2
def tyOf:KTy→String
 | .int=>"int"
 |_=>"tuple"
theorem looksK(I:Inv X pq σ H s)(hs:noStr t=true)(h:hasTy t d=true)(r:Rep X.K ⟨X.mg,F⟩ μ H d v)(q:RelV v u):Looks (model X.prog X.w) s.heap (typeOf u) (.type (tyOf t)):=by
 have tup:∀xs,d=.tup xs→Looks (model X.prog X.w) s.heap (typeOf u) (.type "tuple"):=by
  rintro xs rfl;obtain⟨a,vs,rfl,hq,_⟩:=a0m' r;cases q;obtain⟨its,_,p,_⟩:=I.tuple hq;obtain⟨o,ho,hc,_⟩:=p;have:=(show Looks (model X.prog X.w) s.heap (typeOf (.ref a)) o.cls from(Looks.ld ho).andThen .now)
  rwa [hc]at this
 cases t with
 |int=>obtain⟨i,rfl⟩:=a1p' h;cases a0a' r;obtain⟨tk,rfl⟩:=q;exact(show Looks (model X.prog X.w) s.heap (typeOf (.int i tk)) (.type "int")from .now)
 |seq t=>obtain⟨xs,rfl,_⟩:=a1b' h;exact tup xs rfl
theorem a3k'(I:Inv X pq σ H s){t:KTy}(hs:noStr t=true):∀(ys:List D) (vs:List V) (its:Lv),(∀d∈ys,hasTy (.seq t) d=true∧d≠.tup [])→RepL X.K ⟨X.mg,F⟩ μ H ys vs→Vals vs its→
  ∃fs,KatTups s.heap its fs∧fs.length=its.length∧∀f∈fs,Looks (model X.prog X.w) s.heap (typeOf f) (.type (tyOf t))
 | [],vs,its,_,r,q=>by unfold RepL at r;subst r;cases q;exact⟨[],KatTups.nil,rfl,λ_ h=>nomatch h⟩
 |d::ys,vs,its,h,r,q=>by
  obtain⟨v,ws,rfl,rd,rr⟩:=r.uncons;cases q with
  |cons q1 q2=>
   rename_i u its';obtain⟨fs,k1,k2,k3⟩:=a3k' I hs ys ws its' (λe he=>h e (Zb _ he)) rr q2;obtain⟨h1,h2⟩:=h d Zc;obtain⟨xs,rfl,hx⟩:=a1b' h1;cases xs with
   |nil=>exact absurd rfl h2
   |cons x xs=>
    obtain⟨a,as,rfl,hq,ra⟩:=a0m' rd;cases q1;obtain⟨us,ru,p,_⟩:=I.tuple hq;obtain⟨w,ws',rfl,rx,_⟩:=ra.uncons;cases ru with
    |cons p1 p2=>
     rename_i f us';obtain⟨o,ho,hc,n,hd⟩:=p;refine⟨f::fs,KatTups.cons ho hc hd (by simp) k1,by simp[k2],λg hg=>?_⟩;rcases Zo.mp hg with rfl|hg
     ·exact looksK I hs (hx x Zc) rx p1
     ·exact k3 g hg
theorem askK(I:Inv X pq σ H s)(sk:SOk X.K ⟨X.mg,F⟩ μ S H)(hs:noStr t=true)(hd:depth t≤40)(hu:A.units+42<cLine){e:D}(h1:hasTy (.seq t) d=true)(h2:hasTy (.seq t) e=true)
  (r1:Rep X.K ⟨X.mg,F⟩ μ H d v) (q1:RelV v u) (r2:Rep X.K ⟨X.mg,F⟩ μ H e v') (q2:RelV v' z) {C:Bool→Shared→Prop}  (hC:C (ltK (.seq t) d e) s):wpAny (model X.prog X.w) A (keyLt' (tuples' (Value.type (tyOf t) !=Value.type "tuple")) u z) C E s:=by
 obtain⟨xs,rfl,hx⟩:=a1b' h1;obtain⟨ys,rfl,hy⟩:=a1b' h2;obtain⟨a,as,rfl,ha,ra⟩:=a0m' r1;obtain⟨b,bs,rfl,hb,rb⟩:=a0m' r2;cases q1;cases q2;obtain⟨us,ru,pa,_⟩:=I.tuple ha;obtain⟨zs,rz,pb,_⟩:=I.tuple hb;obtain⟨oa,ea,_,na,da⟩:=pa;obtain⟨ob,eb,_,nb,db⟩:=pb;refine kat_lt ea da eb db ?_;have l1:xs.length=us.length:=by rw[ra.length,ru.length]
 have l2:ys.length=zs.length:=by rw[rb.length,rz.length]
 have:=a6d' (prog:=X.prog) (w:=X.w) (A:=A) (s:=s) (Q:=C) (t:=t) (b:=(Value.type (tyOf t) !=Value.type "tuple")) (λhb=>?_) xs ys us zs 0 hx hy l1 l2 (λj d e u z g1 g2 g3 g4=>?_) hC
 ·simpa using this
 ·cases t with
  |int=>rfl
  |seq t=>exact absurd hb (by show ¬((Value.type "tuple" !=Value.type "tuple")=true);decide)
 ·obtain⟨w1,e1,k1⟩:=ra.get g1;obtain⟨w2,e2,k2⟩:=rb.get g2;obtain⟨u',e3,k3⟩:=ru.get e1;obtain⟨z',e4,k4⟩:=rz.get e2;rw[g3]at e3;cases e3;rw[g4]at e4;cases e4;obtain⟨c1,c2⟩:=cmpK I sk hs hd (A:=A) (by omega) (hx d (Zw g1)) (hy e (Zw g2)) k1 k3 k2 k4;refine⟨c1,c2,λht=>?_⟩;subst ht;obtain⟨i,rfl⟩:=a1p' (hx d (Zw g1));obtain⟨j,rfl⟩:=a1p' (hy e (Zw g2));cases a0a' k1;cases a0a' k2;obtain⟨ta,rfl⟩:=k3;obtain⟨tb,rfl⟩:=k4;exact⟨i,j,ta,tb,rfl,rfl,rfl,rfl⟩
theorem a7P'{A:Around}{t:KTy}(hs:noStr t=true):∀(ds es:List D) (us zs:Lv),(∀d∈ds,hasTy t d=true)→(∀e∈es,hasTy t e=true)→ds.length=us.length→es.length=zs.length→(∀(j:Nat) d e u z,ds[j]?=some d→es[j]?=some e→us[j]?=some u→zs[j]?=some z→PySem.SeqAt.EqAt A s u z (eqK t d e)∧LtAt A s u z (ltK t d e))→LexAt A s us zs (lexB (ltK t) ds es)
 | [],[],us,zs,_,_,l1,l2,_=>by cases Zt l1.symm;cases Zt l2.symm;exact .nn
 | [],e::es,us,zs,_,_,l1,l2,_=>by
  cases Zt l1.symm;cases zs with
  |nil=>cases l2
  |cons z zs=>exact .nc
 |d::ds,[],us,zs,_,_,l1,l2,_=>by
  cases Zt l2.symm;cases us with
  |nil=>cases l1
  |cons u us=>exact .cn
 |d::ds,e::es,us,zs,h1,h2,l1,l2,hc=>by
  cases us with
  |nil=>cases l1
  |cons u us=>
   cases zs with
   |nil=>cases l2
   |cons z zs=>
    have t1:=h1 d Zc;have t2:=h2 e Zc;obtain⟨c1,c2⟩:=hc 0 d e u z rfl rfl rfl rfl;have lo:=lordK t hs;cases ek:eqK t d e with
    |true=>rw[ek]at c1;have hde:=a6b' hs t1 t2 ek;subst hde;rw[a1e',lo.irr d t1];exact .eq c1 (a7P' hs ds es us zs (λx hx=>h1 x (Zb _ hx)) (λx hx=>h2 x (Zb _ hx)) (Zz l1) (Zz l2) λj d e u z g1 g2 g3 g4=>hc (j+1) d e u z g1 g2 g3 g4)
    |false=>
     rw[ek]at c1
     have:lexB (ltK t) (d::ds) (e::es)=ltK t d e:=by
      rw[a1e'];cases l:ltK t d e with
      |true=>rfl
      |false=>
       cases l':ltK t e d with
       |true=>rfl
       |false=>unfold eqK at ek;rw[l,l']at ek;cases ek
     rw[this];exact .lt c1 c2
theorem askK0(I:Inv X pq σ H s)(sk:SOk X.K ⟨X.mg,F⟩ μ S H)(hs:noStr t=true)(hd:depth t≤40)(hu:A.units+42<cLine){e:D}(h1:hasTy (.seq t) d=true)(h2:hasTy (.seq t) e=true)
  (r1:Rep X.K ⟨X.mg,F⟩ μ H d v) (q1:RelV v u) (r2:Rep X.K ⟨X.mg,F⟩ μ H e v') (q2:RelV v' z) {C:Bool→Shared→Prop}  (hC:C (ltK (.seq t) d e) s):wpAny (model X.prog X.w) A (keyLt' oneType' u z) C E s:=by
 obtain⟨xs,rfl,hx⟩:=a1b' h1;obtain⟨ys,rfl,hy⟩:=a1b' h2;obtain⟨a,as,rfl,ha,ra⟩:=a0m' r1;obtain⟨b,bs,rfl,hb,rb⟩:=a0m' r2;cases q1;cases q2;obtain⟨us,ru,pa,_⟩:=I.tuple ha;obtain⟨zs,rz,pb,_⟩:=I.tuple hb;have l1:xs.length=us.length:=by rw[ra.length,ru.length]
 have l2:ys.length=zs.length:=by rw[rb.length,rz.length]
 rw[keyLt'_oneType];refine one_tup pa pb (by omega) (a7P' hs xs ys us zs hx hy l1 l2 λj d e u z g1 g2 g3 g4=>?_) hC;obtain⟨w1,e1,k1⟩:=ra.get g1;obtain⟨w2,e2,k2⟩:=rb.get g2;obtain⟨u',e3,k3⟩:=ru.get e1;obtain⟨z',e4,k4⟩:=rz.get e2;rw[g3]at e3;cases e3;rw[g4]at e4;cases e4;exact cmpK I sk hs hd (A:=A.in1) (by show A.units+1+40<cLine;omega) (hx d (Zw g1)) (hy e (Zw g2)) k1 k3 k2 k4
theorem kind0(I:Inv X pq σ H s){ys:List D}{vs:List V}(h2:2≤its.length)(hty:∀y∈ys,hasTy (.seq t) y=true)(h0:isNil (ys.headD .non)=true)(rr:RepL X.K ⟨X.mg,F⟩ μ H ys vs)(hv:Vals vs its){Q:SortKind→Shared→Prop}(q:Q oneType' s):wpAny (model X.prog X.w) A (keyKind' its.toArray) Q E s:=by
 have tups:∀(i:Nat) (u:Value),its[i]?=some u→∃a us,u=.ref a∧IsTup s.heap a (List.toArray us)∧(i=0→us=[]):=λi u hi=>by
  have hi':i<its.length:=(Ze.mp hi).1;have hiy:i<ys.length:=by rw[rr.length,hv.length];exact hi'
  have e1:ys[i]?=some ys[i]:=Zh hiy;obtain⟨v,e2,k⟩:=rr.get e1;obtain⟨u',e3,k2⟩:=hv.get e2;rw[hi]at e3;cases e3;obtain⟨xs,ex,_⟩:=a1b' (hty _ (List.getElem_mem hiy));rw[ex]at k;obtain⟨a,as,rfl,ha,ra⟩:=a0m' k;cases k2;obtain⟨us,ru,pa,_⟩:=I.tuple ha;refine⟨a,us,rfl,pa,λz=>?_⟩;subst z
  have:ys.headD .non=.tup xs:=by
   cases ys with
   |nil=>cases e1
   |cons y ys=>exact ex
  rw[this]at h0;cases xs with
  |nil=>have:=ra.length;rw[ru.length]at this;exact Zt this.symm
  |cons _ _=>cases h0
 have look:∀u∈its,Looks (model X.prog X.w) s.heap (typeOf u) (.type "tuple"):=λu hu=>by
  obtain⟨i,hi,rfl⟩:=ZW.mp hu;obtain⟨a,us,e,p,_⟩:=tups i _ (Zh hi);rw[e];obtain⟨o,ho,hc,_⟩:=p;have:=(show Looks (model X.prog X.w) s.heap (typeOf (.ref a)) o.cls from(Looks.ld ho).andThen .now)
  rwa [hc]at this
 cases its with
 |nil=>simp at h2
 |cons u0 its=>
 obtain⟨a0,us0,rfl,p0,z0⟩:=tups 0 u0 rfl;cases z0 rfl
 have fo:∀u∈Value.ref a0::its,∃o,(∀(Q':Ov→Shared→Prop),Q' o s→wpAny (model X.prog X.w) A (firstOfTuple' u) Q' E s)∧(u=.ref a0→o=none):=λu hu=>by
  obtain⟨i,hi,rfl⟩:=ZW.mp hu;obtain⟨a,us,e,p,_⟩:=tups i _ (Zh hi);have pp:=id p;obtain⟨o,ho,hc,n,hd⟩:=p;refine⟨us[0]?,λQ' hq=>?_,λz=>?_⟩
  ·rw[e,kas_first_eq];refine Za (Looks.here (show Looks (model X.prog X.w) s.heap (typeOf (.ref a)) o.cls from(Looks.ld ho).andThen .now) ?_);rw[hc,if_neg (by first|decide|simp)];refine Za (listItems_at ho hd (Zg ?_));simpa using hq
  ·rw[e]at z;cases z;obtain⟨o',ho',hc',n',hd'⟩:=p0;rw[ho]at ho';cases ho';rw[hd]at hd';cases hd';rfl
 have fo':∀u∈Value.ref a0::its,∀(Q':Ov→Shared→Prop),Q' (open Classical in if h:u∈Value.ref a0::its then(fo u h).choose else none) s→wpAny (model X.prog X.w) A (firstOfTuple' u) Q' E s:=λu hu Q' hq=>by rw[dif_pos hu]at hq;exact(fo u hu).choose_spec.1 Q' hq
 have g0:(open Classical in if h:Value.ref a0∈Value.ref a0::its then(fo _ h).choose else none)=none:=by rw[dif_pos Zc];exact(fo _ Zc).choose_spec.2 rfl
 rw[keyKind'_eq,List.mapM_toArray,map_eq_pure_bind];refine Za (Za (a4u' _ fo' (Zg ?_)));rw[List.map_cons,g0,if_neg (by simp),if_neg (by simp),oneTypeOnly'_eq,List.mapM_toArray,map_eq_pure_bind];refine Za (Za (Za (kas_mapM (r:=.type "tuple") _ (λv hv Q' hq=>(look v hv).here hq) (Zg ?_))));have hall:((List.map (λ_=>Value.type "tuple") (Value.ref a0::its)).toArray.all λx=>x==Value.type "tuple")=true:=by simp only[List.all_toArray,List.all_map,Zp];intro _ _;exact beq_self_eq_true _
 have h0:(List.map (λ_=>Value.type "tuple") (Value.ref a0::its)).toArray[0]?=some (Value.type "tuple"):=by simp
 rw[h0];simp only[hall,if_true];exact Zg (Zg q)
theorem a8T'(hu:X.A.units+64<cLine)(box:Bool)(t:KTy)(hdt:depth t≤40):CallR X (.builtin "sorted") (rC X.K X.mg (a5E' box t)):=by
 intro pq s σ H xs us Q I r h;obtain⟨F,μ,S,ds,sk,rl,w⟩:=h;unfold a5E' at w;split at w
 ·rename_i d;obtain⟨v,rfl,rd⟩:=rl.one;obtain⟨u,rfl,ru⟩:=vals1 r;split at w
  ·rename_i ys e;split at w
   ·rename_i hc;obtain⟨hty,h64,hso⟩:=hc;have hty':∀y∈ys,hasTy t y=true:=λy hy=>Zp.mp hty y hy;obtain⟨a,vs,rfl,hq,rr⟩:=a2V' sk rd e;cases ru
    obtain⟨b,its,hl,hv⟩:∃b its,IsSq b s.heap a (List.toArray its)∧Vals vs its:=by
     rcases hq with hq|hq
     ·obtain⟨its,r',p,_⟩:=I.list hq;exact⟨true,its,p.isList,r'⟩
     ·obtain⟨its,r',p,_⟩:=I.tuple hq;exact⟨false,its,p,r'⟩
    have l1:ys.length=vs.length:=rr.length;have l2:vs.length=its.length:=hv.length
    have hs:noStr t=true:=by
     cases t with
     |int=>rfl
     |seq t=>unfold a3G' at hso;simp only[ZA]at hso;exact hso.1
    have lo:=lordK t hs;have at_:∀i,i<its.length→∃d v u,ys[i]?=some d∧vs[i]?=some v∧its[i]?=some u∧hasTy t d=true∧Rep X.K ⟨X.mg,F⟩ μ H d v∧RelV v u∧ys.getD i .non=d∧its.getD i Value.none=u:=λi hi=>by have e1:ys[i]?=some ys[i]:=Zh (by omega);obtain⟨v,e2,k⟩:=rr.get e1;obtain⟨u,e3,k2⟩:=hv.get e2;exact⟨_,v,u,e1,e2,e3,hty' _ (List.getElem_mem _),k,k2,by simp[List.getD,e1],by simp[List.getD,e3]⟩
    have ord:SOrd its.length (λi j=>ltK t (ys.getD i .non) (ys.getD j .non)):=by
     have ty:∀i,i<its.length→hasTy t (ys.getD i .non)=true:=λi hi=>by obtain⟨d,v,u,e1,e2,e3,k1,k2,k3,k4,k5⟩:=at_ i hi;rw[k4];exact k1
     exact⟨λi hi=>lo.irr _ (ty i hi),λi j hi hj=>lo.asym _ _ (ty i hi) (ty j hj),λi j k hi hj hk=>lo.ntr _ _ _ (ty i hi) (ty j hj) (ty k hk)⟩
    have same:∀i j,i<its.length→j<its.length→its.getD i Value.none=its.getD j Value.none→rankN its.length (λi j=>ltK t (ys.getD i .non) (ys.getD j .non)) i=rankN its.length (λi j=>ltK t (ys.getD i .non) (ys.getD j .non)) j:=λi j hi hj hij=>by obtain⟨d,v,u,e1,e2,e3,g1,g2,g3,g4,g5⟩:=at_ i hi;obtain⟨d',v',u',e1',e2',e3',g1',g2',g3',g4',g5'⟩:=at_ j hj;rw[g5,g5']at hij;subst hij;have ev:v=v':=g3.inj g3';subst ev;have:=a7C' I sk 40 d d' v _ g2 g2' (asK S t hs 40 hdt d d' g1 g1').1;have hde:=a6b' hs g1 g1' this;subst hde;unfold rankN;simp only[g4,g4']
    refine a4P' (c:=λi j=>ltK t (ys.getD i .non) (ys.getD j .non)) hl (by rw[sizeLine_eq];omega) (λh2=>?_) λh1 h' c2 out k1 k2 eo O=>?_
    ·have hu2:(X.A.in1.in1).units+42<cLine:=by
      show X.A.units+1+1+42<cLine;omega
     cases t with
     |int=>
      refine⟨oneType',ord,same,λh' kp=>⟨λE' Q' q=>?_,λi j C hi hj hC=>?_⟩⟩
      ·have I':Inv X pq σ H {s with heap:=h'}:=I.kept (t':=s.toks) kp;refine kas_kind (T:=.type "int") h2 (λu hu=>?_) (by decide) (by decide) q;obtain⟨i,hi,rfl⟩:=ZW.mp hu;obtain⟨d,v,u,e1,e2,e3,g1,g2,g3,g4,g5⟩:=at_ i hi;rw[Zh hi]at e3;cases e3;exact looksK (t:=.int) I' rfl g1 g2 g3
      ·obtain⟨d,v,u,e1,e2,e3,g1,g2,g3,g4,g5⟩:=at_ i hi;obtain⟨d',v',u',e1',e2',e3',g1',g2',g3',g4',g5'⟩:=at_ j hj;unfold kas_ask;rw[g5,g5'];rw[g4,g4']at hC;obtain⟨x,rfl⟩:=a1p' g1;obtain⟨y,rfl⟩:=a1p' g1';cases a0a' g2;cases a0a' g2';obtain⟨ta,rfl⟩:=g3;obtain⟨tb,rfl⟩:=g3';exact kat_lt_int hC
     |seq t=>
      unfold a3G' at hso;have hso2:=(Bool.and_eq_true_iff.mp hso).2;rcases Bool.or_eq_true_iff.mp hso2 with hso3|hso3
      rotate_left
      ·refine⟨oneType',ord,same,λh' kp=>⟨λE' Q' q=>?_,λi j C hi hj hC=>?_⟩⟩
       ·have I':Inv X pq σ H {s with heap:=h'}:=I.kept (t':=s.toks) kp;exact kind0 I' h2 hty' hso3 rr hv q
       ·have I':Inv X pq σ H {s with heap:=h'}:=I.kept (t':=s.toks) kp;obtain⟨d,v,u,e1,e2,e3,g1,g2,g3,g4,g5⟩:=at_ i hi;obtain⟨d',v',u',e1',e2',e3',g1',g2',g3',g4',g5'⟩:=at_ j hj;unfold kas_ask;rw[g5,g5'];rw[g4,g4']at hC;exact askK0 (t:=t) I' sk hs (by simp[depth]at hdt;omega) hu2 g1 g1' g2 g3 g2' g3' hC
      have hne:∀y∈ys,hasTy (.seq t) y=true∧y≠.tup []:=λy hy=>⟨hty' y hy,λz=>by have:=Zp.mp hso3 y hy;rw[z]at this;cases this⟩;refine⟨tuples' (Value.type (tyOf t) !=Value.type "tuple"),ord,same,λh' kp=>⟨λE' Q' q=>?_,λi j C hi hj hC=>?_⟩⟩
      ·have I':Inv X pq σ H {s with heap:=h'}:=I.kept (t':=s.toks) kp;obtain⟨fs,f1,f2,f3⟩:=a3k' (t:=t) I' hs ys vs its hne rr hv;exact kat_kind (T:=.type (tyOf t)) f1 (by omega) f3 (by simp) q
      ·have I':Inv X pq σ H {s with heap:=h'}:=I.kept (t':=s.toks) kp;obtain⟨d,v,u,e1,e2,e3,g1,g2,g3,g4,g5⟩:=at_ i hi;obtain⟨d',v',u',e1',e2',e3',g1',g2',g3',g4',g5'⟩:=at_ j hj;unfold kas_ask;rw[g5,g5'];rw[g4,g4']at hC;exact askK (t:=t) I' sk hs (by simp[depth]at hdt;omega) hu2 g1 g1' g2 g3 g2' g3' hC
    ·obtain⟨p,rfl,pp,pw⟩:=O;have hp:∀i∈p,i<its.length:=λi hi=>by simpa using pp.mem_iff.mp hi
     have hlen:p.length=its.length:=by rw[pp.length_eq];simp
     have fin:RepL X.K ⟨X.mg,F⟩ μ H (p.map λi=>ys.getD i .non) (p.map λi=>vs.getD i .non):=RepL.of (by simp) λj d v h1 h2=>by
      rw[ZQ]at h1 h2;cases ej:p[j]? with
      |none=>rw[ej]at h1;cases h1
      |some i=>
       rw[ej]at h1 h2;obtain⟨d',v',u',e1',e2',e3',g1',g2',g3',g4',g5'⟩:=at_ i (hp i (Zw ej));cases h1;cases h2;show Rep X.K ⟨X.mg,F⟩ μ H (ys.getD i .non) (vs.getD i .non);rw[g4'];have:vs.getD i .non=v':=by simp[List.getD,e2']
       rw[this];exact g2'
     have fin2:Vals (p.map λi=>vs.getD i .non) (p.map λi=>its.getD i Value.none):=by
      have:∀(l:List Nat),(∀i∈l,i<its.length)→Vals (l.map λi=>vs.getD i .non) (l.map λi=>its.getD i Value.none):=by
       intro l
       induction l with
       |nil=>exact λ_=>.nil
       |cons i l ih=>
        intro h;obtain⟨d',v',u',e1',e2',e3',g1',g2',g3',g4',g5'⟩:=at_ i (h i Zc);refine .cons ?_ (ih λj hj=>h j (Zb _ hj));have:vs.getD i .non=v':=by simp[List.getD,e2']
        show RelV (vs.getD i .non) (its.getD i Value.none);rw[this,g5'];exact g3'
      exact this p hp
     have srt:(p.map λi=>ys.getD i .non)=a3F' (ltK t) ys:=by
      refine a3M' hs hty' ?_ ?_
      ·have:=pp.map λi=>ys.getD i .non;refine this.trans (.of_eq ?_);refine List.ext_getElem (by simp;omega) λi h1 h2=>?_;simp[h2]
      ·rw[List.pairwise_map];exact pw
     rw[←srt]at w;have I1:Inv X pq σ H {s with heap:=h1}:=I.kept (t':=s.toks) k1;have I2:Inv X pq σ (upd H h1.objs.size (.lst (p.map λi=>vs.getD i .non))) {s with heap:=h'}:=I1.laid (t':=s.toks) k2 (Zi _) ⟨by rw[List.length_map,hlen,sizeLine_eq];omega,_,c2,fin2,eo⟩;have hfr:H h1.objs.size=none:=I1.hok.fresh (Zi _);refine⟨.ref h1.objs.size,_,I2,rfl,?_⟩;cases box with
     |true=>exact Want.box w sk fin _ hfr
     |false=>exact Want.lst w sk fin _ hfr
   ·exact w.elim
  ·exact w.elim
 ·exact w.elim
end Py
namespace Py
open PySem PySem.W PySem.Spec PyProof.Rows L2
end Py
namespace Py
section
variable {E:XK}
theorem blt_ok(O:XOk X cell N sc CX E Φ Γ k)(b:Blt)(hb:bltB b=true):CallR X (bltIs b) (rC X.K X.mg (bltD b)):=by
 cases b with
 |len=>exact len_D
 |tuple=>exact tuple_D
 |list=>cases hb
 |int=>exact int_D
 |min=>cases hb
 |max=>cases hb
 |isinst=>exact a8s'
 |all=>exact all_D O.calm
 |any=>cases hb
 |sum=>cases hb
 |repr=>cases hb
 |abs=>cases hb
 |sorted box t=>exact a8T' O.room.units box t (by unfold bltB at hb;simpa using hb)
theorem a1C':∀{l:Ls},a4H' l=true→l.Nodup
 | [],_=>List.nodup_nil
 |x::r,h=>by unfold a4H' at h;simp only[ZA,Bool.not_eq_true',List.contains_eq_mem,decide_eq_false_iff_not]at h;exact List.nodup_cons.mpr ⟨h.1,a1C' h.2⟩
theorem a6e'(O:XOk X cell N sc CX E Φ Γ k)(h:scB scope sc=true):CScope X scope:=by
 unfold scB at h;simp only[ZA,beq_iff_eq]at h;obtain⟨h1,h2⟩:=h;have key:∀y∈scope.names,((y.2 !=NameKind.cell||scope.names.lookup y.1==some .cell)&&(y.2 !=.local||scope.names.lookup y.1==some .local)&&(y.2 !=.free||(sc.lookup y.1==some .cell||sc.lookup y.1==some .free)))=true:=λy hy=>Zp.mp h2 y hy;refine⟨h1,λy hy z=>?_,λy hy z=>?_,λy hy z=>?_⟩
 ·have:=key y hy;rw[z]at this;simp at this;exact this
 ·have:=key y hy;rw[z]at this;simp at this;exact this
 ·have:=key y hy;rw[z]at this;simp at this;show X.env.scope.names.lookup y.1=_∨X.env.scope.names.lookup y.1=_;rw[O.sc];exact this
theorem a6f'(O:XOk X cell N sc CX E Φ Γ k)(h:frB scope.names N' N fr=true):CsOk X scope N' (csOf fr):=by
 unfold frB at h;simp only[ZA,beq_iff_eq]at h;obtain⟨h1,h2⟩:=h;intro σ hl;refine⟨by simp[csOf,h1],λi v x hx hv=>?_⟩;have hi:i<N'.length:=(Ze.mp hx).1;have:=Zp.mp h2 i (List.mem_range.mpr hi);unfold csOf at hv;rw[ZQ]at hv;cases e:fr[i]? with
 |none=>rw[e]at hv;cases hv
 |some o=>
  rw[e]at hv;cases o with
  |none=>cases hv
  |some j=>
   rw[e]at this;simp only[hx,ZA,beq_iff_eq]at this;have hv':(σ[j]?).join=some v:=ZL hv;refine⟨this.1,j,by rw[O.n];exact this.2,?_⟩;cases e2:σ[j]? with
   |none=>rw[e2]at hv';cases hv'
   |some o=>rw[e2]at hv';have e3:o=some v:=hv';rw[e3]
theorem relB_eq(O:XOk X cell N sc CX E Φ Γ k):(relabel scope X.env).names=relB scope.names sc:=by
 unfold relabel relB;show scope.names.map _=scope.names.map _;congr 1;funext p;obtain⟨n,kd⟩:=p;have e1:X.env.kindOf n=sc.lookup n:=by show X.env.scope.names.lookup n=_;rw[O.sc]
 simp only[e1,O.kd,beq_self_eq_true,Bool.and_true]
theorem a6g'(O:XOk X cell N sc CX E Φ Γ k)(hs:scope.kind=.function)(hn:a4H' N'=true)(C:Addr)(s0:Shared)(H0:Hp)(fp:La):XOk (cxC X scope N' C s0 H0 fp) (ownB scope.names) N' (relB scope.names sc) CX E0 Φ Γ k where
 n:=rfl
 nd:=a1C' hn
 sc:=relB_eq O
 kd:=hs
 calm:=O.calm
 room:=O.room
 fn:=λx z=>z
 mod:=O.mod
 pass:=λ_ _ _ _ _ _ _ z=>O.cx0 _ _ _ _ _ z
 cx0:=O.cx0
theorem a1f'{i:Expr}(h:a6T' i=true):∀x,foldedSetIterable i env x=pure x:=by intro x;cases i<;>first|rfl|cases h
theorem t_val{e:Expr}{c:CE}(ha:PE X e (tE X.K X.mg E Φ Γ c))(he:∀whole,isTrue e X.env whole=(do let v ←whole;standAt e.pos;holding [v] (truthy v))){σ:L2.St}:
  PT X e (λσ H Q=>∃F μ ρ S,SOk X.K ⟨X.mg,F⟩ μ S H∧EnvR X.K ⟨X.mg,F⟩ μ H ρ σ∧WantG X.K ⟨X.mg,F⟩ E (λ_ _ a b=>a=b) μ H Q ((den Φ Γ c ρ S).bind λd S1=>match truD S1 d with|some k=>.ok k S1|none=>.fail)):=
 weakT (a8g' ha he) λσ H Q zz=>ex43 zz λF μ ρ S sk en w=>⟨F,μ,ρ,S,sk,en,(WantG.bind w).mono λv H1 zz=>ex34 zz λμ1 S1 d x1 s1 r1 w1=>by obtain⟨k,e,w2⟩:=a5G' w1;exact⟨k,tru_D s1 r1 e,w2 μ1 H1 k .refl s1 rfl⟩⟩
end
section
variable {E:XK}
theorem a4v'{a:Int}(h:a.natAbs<2^64):a.natAbs.log2<1920:=by
 by_cases h0:a.natAbs=0
 ·rw[h0];decide
 ·exact Nat.lt_trans ((Nat.log2_lt h0).mpr h) (by decide)
theorem fp_ok(O:XOk X cell N sc CX E Φ Γ k){p:FP}{P:Vs}(I:L2.Inv X pq σ H s)(en:EnvR X.K ⟨X.mg,F⟩ μ H ρ σ)(hs:sdP N sc p=true)(hp:fpD Γ ρ p=some y)
  (h:∀t s',L2.Inv X pq σ H s'→P (.str y t) s'):wpAny (model X.prog X.w) X.A (eval (emP p N e) X.env) P X.xe s:=by
 cases p with
 |s x=>
  have hp:some x=some y:=hp;injection hp with hp
  subst hp;exact thn (a7Z' (X:=X) (x:=x) pq s σ H (λv H'=>v=.str x∧H'=H) I ⟨rfl,rfl⟩) λu s1 ⟨v,H1,I1,r1,e1,e2⟩=>by subst e1 e2;obtain⟨t,rfl⟩:=r1;exact h t s1 I1
 |v i=>
  obtain⟨h1,h2⟩:=andB hs;obtain⟨h2,h3⟩:=andB h2;dsimp only[fpD]at hp;split at hp
  ·rename_i a ea;split at hp
   ·rename_i hb;cases hp;obtain⟨v,e1,r1⟩:=en.2 i _ ea;cases a0a' r1;refine FormattedValue_plain (thn (a6A' (X:=X) (i:=i) (by rw[O.n];simpa using h1) (a4k' O.sc h2) (a0v' h3).1 (a0v' h3).2 pq s σ H (λv H'=>v=.int a∧H'=H) I ⟨_,e1,rfl,rfl⟩) λu s1 ⟨v,H1,I1,rr,e1,e2⟩=>?_);subst e2;rw[e1]at rr;obtain⟨t,ht⟩:=(show ∃t,u=Value.int a t from rr);rw[ht];exact formatField_int_small (a4v' hb) (h _ _ (I1.kept (t':=s1.toks+1+1) λ_ _ z=>z))
   ·cases hp
  ·cases hp
 |g z=>
  obtain⟨g1,g2,g3⟩:=a0n' hs;dsimp only[fpD]at hp;split at hp
  ·rename_i a ea;split at hp
   ·rename_i hb;cases hp;obtain⟨v,u,m1,m2,m3⟩:=O.mod.gl z _ ea;have e1:=a0a' (m3 F μ H);subst e1;refine FormattedValue_plain (a2p' I (O.gl g1) m1 ?_ g2);obtain⟨t,rfl⟩:=m2;exact formatField_int_small (a4v' hb) (h _ _ (I.kept (t':=s.toks+1+1) λ_ _ z=>z))
   ·cases hp
  ·cases hp
theorem fj_ok(O:XOk X cell N sc CX E Φ Γ k){x:Str}{pq:Lp}{σ:L2.St}{H:Hp}{F:La}{μ:La}{ρ:Rho}{Q:VK}(en:EnvR X.K ⟨X.mg,F⟩ μ H ρ σ)(q:Q (.str x) H):∀{ps:List FP} {es:Lx} {out:Str} {s:Shared},L2.Inv X pq σ H s→(∀p∈ps,sdP N sc p=true)→fJ (ps.map (fpD Γ ρ)) out=some x→
  wpAny (model X.prog X.w) X.A (joinParts out (evalEach (emF ps N es) X.env)) (EP X pq σ Q) X.xe s
 | [],es,out,s,I,_,h=>by
  unfold fJ at h;simp only[List.map_nil]at h;split at h
  ·rename_i hl;cases h;exact joinParts_nil ⟨.str _,H,I.kept (t':=s.toks+1) λ_ _ z=>z,⟨_,rfl⟩,q⟩ (ZE hl (by decide))
  ·cases h
 |p::ps,es,out,s,I,hs,h=>by
  rw[List.map_cons]at h;cases hp:fpD Γ ρ p with
  |none=>rw[hp]at h;cases h
  |some y=>
   rw[hp]at h;unfold fJ at h;split at h
   ·rename_i hl;show wpAny _ _ (joinParts out (eval (emP p N (es.headD dE)) X.env::evalEach (emF ps N es.tail) X.env)) _ _ s;refine joinParts_cons (fp_ok O I en (hs p Zc) hp λt s' I'=>⟨ZE hl (by decide),?_⟩);exact fj_ok O en q I' (λp hp=>hs p (Zb _ hp)) h
   ·cases h
theorem s_fst(O:XOk X cell N sc CX E Φ Γ k){ps:List FP}{pos:Pos}(h:(decide (2≤ps.length)&&ps.all (sdP N sc))=true):PE X (.JoinedStr (emF ps N es) pos) (tE X.K X.mg E Φ Γ (.fst ps)):=by
 intro pq s σ H Q I zz;obtain⟨F,μ,ρ,S,sk,en,w⟩:=zz;obtain⟨h1,h2⟩:=andB h;have h1:=of_decide_eq_true h1
 have w':WantG X.K ⟨X.mg,F⟩ E (Rep X.K ⟨X.mg,F⟩) μ H Q (match fJ (ps.map (fpD Γ ρ)) Str.empty with
  |some x=>.ok (.str x) S
  |none=>.fail):=w
 cases e:fJ (ps.map (fpD Γ ρ)) Str.empty with
 |none=>rw[e]at w';exact w'.elim
 |some x=>
  rw[e]at w';have q:Q (.str x) H:=w' μ H (.str x) .refl sk a6J';cases ps with
  |nil=>cases h1
  |cons p ps=>
   cases ps with
   |nil=>simp at h1
   |cons p' ps=>show wpAny _ _ (eval (.JoinedStr (emP p N _::emP p' N _::emF ps N _) pos) X.env) _ _ s;exact JoinedStr_many (fj_ok O (es:=es) en q I (λp hp=>Zp.mp h2 p hp) e)
theorem a6h'(O:XOk X cell N sc CX E Φ Γ k):∀{fs:Ls} {es:Lx},(∀f∈fs,gloB sc f=true∧(Φ f).isSome=true)→PA X (emNs fs es) (λ_ H Q=>∀as:La,as.length=fs.length→(∀(i:Nat) (f:Str) (a:Addr),fs[i]?=some f→as[i]?=some a→X.mg f=some (.ref a))→Q (as.map V.ref) H)
 | [],es,_=>weakA a2S' λσ H Q h=>h [] rfl (λi f a z=>by simp at z)
 |f::fs,es,hf=>by
  obtain⟨h1,h2⟩:=hf f Zc;obtain⟨g1,g2,_⟩:=a0n' h1;obtain⟨φ,ef⟩:=Option.isSome_iff_exists.mp h2;obtain⟨fa,fd,ps,m1,_⟩:=(O.mod.fns f φ ef).ex;refine weakA (a1n' (a5b' (v:=.ref fa) (O.gl g1) m1 rfl g2) (a6h' O (es:=es.tail) λf hf'=>hf f (Zb _ hf'))) λσ H Q h=>?_;intro as hl hm;refine h (fa::as) (by simp[hl]) λi f' a e1 e2=>?_;cases i with
  |zero=>simp at e1 e2;subst e1 e2;exact m1
  |succ i=>exact hm i f' a (by simpa using e1) (by simpa using e2)
theorem s_sel(O:XOk X cell N sc CX E Φ Γ k){fs:Ls}{i:CE}{cs:List CE}{ns:Lx}{ie:Expr}{p1 pos:Pos}(h:(fs.all λf=>gloB sc f)=true)(hi:PE X ie (tE X.K X.mg E Φ Γ i))(hsl:a0X' ie=true)(hst:∀x∈e::es,a0w' x=true)(ha:PA X (e::es) (tL X.K X.mg E Φ Γ cs)):
  PE X (.Call (.Subscript (.List (emNs fs ns) p1) ie p2) (e::es) [] pos) (tE X.K X.mg E Φ Γ (.sel fs i cs)):=by
 intro pq s σ H Q I zz;obtain⟨F,μ,ρ,S,sk,en,w⟩:=zz
 have w':WantG X.K ⟨X.mg,F⟩ E (Rep X.K ⟨X.mg,F⟩) μ H Q (if(fs.all λf=>(Φ f).isSome)=true∧fs.length<1000 then(den Φ Γ i ρ S).bind λd S1=>(match d with
   | .int k=>(match(if 0≤k then fs[k.toNat]? else none)with
    |some f=>(match Φ f with
     |some φ=>(denL Φ Γ cs ρ S1).bind λds S2=>φ ds S2
     |none=>.fail)
    |none=>.fail)
   |_=>.fail)else .fail):=w
 split at w'
 ·rename_i hall;obtain⟨hall,hlen⟩:=hall;show wpAny _ _ (do callWith pos (←eval (.Subscript (.List (emNs fs ns) p1) ie p2) X.env) [] (backTo pos (starEach (e::es) X.env)) (backToKw pos (keywordEach [] X.env))) _ _ s;have hN:=a6h' O (fs:=fs) (es:=ns) λf hf=>⟨Zp.mp h f hf,Zp.mp hall f hf⟩;refine Za (thn (pe_ix a5m' (a4E' hN) hi (a5F' hsl) pq s σ H (λv H1=>∃f φ fa μ1 S1,Φ f=some φ∧X.mg f=some (.ref fa)∧v=.ref fa∧SOk X.K ⟨X.mg,F⟩ μ1 S1 H1∧EnvR X.K ⟨X.mg,F⟩ μ1 H1 ρ σ∧WantG X.K ⟨X.mg,F⟩ E (Rep X.K ⟨X.mg,F⟩) μ1 H1 Q ((denL Φ Γ cs ρ S1).bind λds S2=>φ ds S2)) I ?_) λv s1 ⟨x,H1,I1,r1,f,φ,fa,μ1,S1,ef,em,ev,sk1,en1,w1⟩=>?_)
  ·intro as hl hm;refine⟨by rw[List.length_map,hl];exact Nat.le_of_lt (Zv hlen (by decide)),λp hp=>?_⟩;refine⟨F,μ,ρ,S,sk.laid hp,en.mono (Ext.laid hp),(WantG.bind (WantG.ext (Ext.laid (o:=.lst (as.map V.ref)) hp) w')).mono λy H2 zz=>?_⟩;obtain⟨μ2,S2,d,x2,s2,r2,w2⟩:=zz;have hlist:=x2.lst (a:=p) (vs:=as.map V.ref) a0h' (sk.notin hp);cases d with
   |int k=>
    cases a0a' r2
    have w3:WantG X.K ⟨X.mg,F⟩ E (Rep X.K ⟨X.mg,F⟩) μ2 H2 Q (match(if 0≤k then fs[k.toNat]? else none)with
     |some f=>(match Φ f with
      |some φ=>(denL Φ Γ cs ρ S2).bind λds S2=>φ ds S2
      |none=>.fail)
     |none=>.fail):=w2
    by_cases hk:0≤k
    ·rw[if_pos hk]at w3;cases hf:fs[k.toNat]? with
     |none=>rw[hf]at w3;exact w3.elim
     |some f=>
      rw[hf]at w3;dsimp only at w3;cases ef:Φ f with
      |none=>rw[ef]at w3;exact w3.elim
      |some φ=>
       rw[ef]at w3;have hkl:k.toNat<as.length:=by rw[hl];exact(Ze.mp hf).1
       refine⟨p,as.map V.ref,k,.ref as[k.toNat],rfl,rfl,.of hlist.1,?_,f,φ,as[k.toNat],μ2,S2,ef,hm _ f _ hf (Zh hkl),rfl,s2,en.mono ((Ext.laid hp).trans x2),w3⟩;unfold atI ixN;rw[List.length_map,if_pos hk,if_pos (by omega)];show(as.map V.ref)[k.toNat]?=_;rw[ZQ,Zh hkl];rfl
    ·rw[if_neg hk]at w3;exact w3.elim
   |_=>exact w2.elim
  ·subst ev;cases r1;obtain⟨fa',fd,ps,m1,m2,m3,m4,m5⟩:=(O.mod.fns f φ ef).ex;rw[em]at m1;cases m1;refine PySem.W.callWith_K (h₀:=X.base) I1.ok.mod.kin m2 (thn (ha pos pq s1 σ H1 _ I1 ⟨F,μ1,ρ,S1,sk1,en1,(WantG.bind w1).mono λvs H2 zz=>?_⟩) λus s2 ⟨vs,H2,I2,r2,q2⟩=>⟨I2.kIn,run_fn (E:=E) m4 O.room m3 .nil O.pass I2 r2 q2⟩) (a0j' (hst e Zc)) (a0S' λx hx=>hst x (Zb _ hx));obtain⟨μ2,S2,ds,x2,s2,r2,w2⟩:=zz;rw[List.append_nil];refine⟨?_,F,μ2,S2,ds,s2,r2,w2⟩;rw[←r2.length];exact m5 ds S2 λz=>by rw[z]at w2;exact w2
 ·exact w'.elim
end
theorem tT_fail{E:XK}{c:CE}(h:∀ρ S,denT Φ Γ c ρ S=.fail):PW X e (tT X.K X.mg E Φ Γ c):=λwh pq s σ H Q I zz=>ex43 zz λF μ ρ S sk en w=>by rw[h]at w;exact w.elim
theorem a8U'{l:List α}{d:Nat}{x:α}{r:List α}(h:l.drop d=x::r):l[d]?=some x:=by have:=congrArg (λl=>l[0]?) h;simpa using this
theorem a7b'{l:List α}{d:Nat}(h:l.drop d=[]):l[d]?=none:=by have:=congrArg (λl=>l[0]?) h;simpa using this
theorem a7c'{l:List α}{d:Nat}{x:α}{r:List α}(h:l.drop d=x::r):l.drop (d+1)=r:=by
 have:(l.drop d).drop 1=r:=by rw[h];rfl
 rwa [List.drop_drop]at this
section
variable {E:XK}{a b:CE}{l x y:Expr}{pos:Pos}{n:Bool}
theorem em_and(ha:PE X l (tE X.K X.mg E Φ Γ a))(h1:n=true→PE X x (tE X.K X.mg E Φ Γ b))(h2:n=false→∃r rest,y=.BoolOp .And (r::rest) pos∧PE X y (tE X.K X.mg E Φ Γ b)):PE X (.BoolOp .And (l::cond n [x] (vw y).es) pos) (tE X.K X.mg E Φ Γ (.band a b)):=by
 cases n with
 |true=>exact s_and ha (pe_one (h1 rfl))
 |false=>obtain⟨r,rest,rfl,q⟩:=h2 rfl;exact s_and ha q
theorem em_or(ha:PE X l (tE X.K X.mg E Φ Γ a))(h1:n=true→PE X x (tE X.K X.mg E Φ Γ b))(h2:n=false→∃r rest,y=.BoolOp .Or (r::rest) pos∧PE X y (tE X.K X.mg E Φ Γ b)):PE X (.BoolOp .Or (l::cond n [x] (vw y).es) pos) (tE X.K X.mg E Φ Γ (.bor a b)):=by
 cases n with
 |true=>exact s_or ha (pe_one (h1 rfl))
 |false=>obtain⟨r,rest,rfl,q⟩:=h2 rfl;exact s_or ha q
theorem a7Q'(ha:PT X l (tT X.K X.mg E Φ Γ a))(h1:n=true→PT X x (tT X.K X.mg E Φ Γ b))(h2:n=false→∃r rest,y=.BoolOp .And (r::rest) pos∧PW X y (tT X.K X.mg E Φ Γ b)):PW X (.BoolOp .And (l::cond n [x] (vw y).es) pos) (tT X.K X.mg E Φ Γ (.band a b)):=by
 cases n with
 |true=>exact t_and ha (pw_and1 (h1 rfl))
 |false=>obtain⟨r,rest,rfl,q⟩:=h2 rfl;exact t_and ha q
theorem em_orT(ha:PT X l (tT X.K X.mg E Φ Γ a))(h1:n=true→PT X x (tT X.K X.mg E Φ Γ b))(h2:n=false→∃r rest,y=.BoolOp .Or (r::rest) pos∧PW X y (tT X.K X.mg E Φ Γ b)):PW X (.BoolOp .Or (l::cond n [x] (vw y).es) pos) (tT X.K X.mg E Φ Γ (.bor a b)):=by
 cases n with
 |true=>exact t_or ha (pw_or1 (h1 rfl))
 |false=>obtain⟨r,rest,rfl,q⟩:=h2 rfl;exact t_or ha q
theorem a6i'(h:a8A' b=true):∃r rest,emE b N (.BoolOp .And es pos)=.BoolOp .And (r::rest) pos:=by cases b<;>first|exact⟨_,_,rfl⟩|cases h
theorem a8V'(h:isBor b=true):∃r rest,emE b N (.BoolOp .Or es pos)=.BoolOp .Or (r::rest) pos:=by cases b<;>first|exact⟨_,_,rfl⟩|cases h
theorem a3l'{tg:CT}(h:a6U' tg=true):isTup (emT tg N e)=true:=by
 cases tg with
 |var i=>cases h
 |tup ts=>rfl
theorem cond1{a b:Bool}(h:cond n a b=true)(z:n=true):a=true:=by rw[z]at h;exact h
theorem cond2{a b:Bool}(h:cond n a b=true)(z:n=false):b=true:=by rw[z]at h;exact h
end
mutual
theorem a0k'(c:CE):∀{X:Cx} {cell:Str→Bool} {N:Ls} {sc:Sc} {CX:CXT} {E:XK} {Φ:FT} {Γ:Str→Option D} {k:Nat} {e:Expr},XOk X cell N sc CX E Φ Γ k→sdE c N sc e=true→PE X (emE c N e) (tE X.K X.mg E Φ Γ c):=by
 intro X cell N sc CX E Φ Γ k e O h;cases c with
 |var i=>exact s_var O (andB h).1 (andB (andB h).2).1 (andB (andB h).2).2
 |dct=>exact s_dct
 |rv0 a b c=>cases h
 |odd a b c=>cases h
 |rev a b=>cases h
 |lit d=>exact s_lit h
 |glob y=>exact s_glob O h
 |ty n=>exact s_ty O (andB h).1 (andB h).2
 |bin op a b=>exact s_bin (a0k' a O (andB h).1) (a0k' b O (andB h).2)
 |binB a b=>cases h
 |neg a=>exact s_neg (a0k' a O h)
 |cmp op a b=>exact s_cmp O.room.units (a0k' a O (andB h).1) (a0k' b O (andB (andB h).2).1) (notB (andB (andB h).2).2)
 |chain op op' a b c=>exact s_chain O.room.units (a0k' a O (andB h).1) (a0k' b O (andB (andB h).2).1) (a0k' c O (andB (andB (andB h).2).2).1) (notB (andB (andB (andB h).2).2).2)
 |band a b=>exact em_and (a0k' a O (andB h).1) (λz=>a0k' b O (cond1 (andB h).2 z)) λz=>by obtain⟨r,rest,q⟩:=a6i' (pos:=(vw e).pos) (N:=N) (es:=(vw e).es.tail) (andB (cond2 (andB h).2 z)).1;exact⟨r,rest,q,a0k' b O (andB (cond2 (andB h).2 z)).2⟩
 |bor a b=>exact em_or (a0k' a O (andB h).1) (λz=>a0k' b O (cond1 (andB h).2 z)) λz=>by obtain⟨r,rest,q⟩:=a8V' (pos:=(vw e).pos) (N:=N) (es:=(vw e).es.tail) (andB (cond2 (andB h).2 z)).1;exact⟨r,rest,q,a0k' b O (andB (cond2 (andB h).2 z)).2⟩
 |bnot a=>exact s_not (a0k' a O h)
 |ite c a b=>exact s_ite (a1N' c O (andB h).1) (a0k' a O (andB (andB h).2).1) (a0k' b O (andB (andB h).2).2)
 |tup es=>exact s_tup (decB (andB h).2) (a1D' es O (andB h).1)
 |lst box es=>exact s_lst (decB (andB h).2) (a1D' es O (andB h).1)
 |idx a b=>exact s_idx (andB (andB h).2).2 (a0k' a O (andB h).1) (a0k' b O (andB (andB h).2).1)
 |sl a lo hi=>exact s_sl (a0k' a O (andB h).1) (soundP lo O (andB (andB h).2).1 (decB (andB (andB (andB (andB h).2).2).2).1)) (soundP hi O (andB (andB (andB h).2).2).1 (decB (andB (andB (andB (andB h).2).2).2).2))
 |call f es=>
  have hL:=a1D' es O (andB (andB h).2).1;cases es with
  |nil=>cases(andB (andB h).2).2
  |cons c cs=>exact s_call O (andB h).1 (a0K' (cs:=c::cs) (andB (andB h).2).1) hL
 |blt b es=>
  have hL:=a1D' es O (andB (andB h).2).1;cases es with
  |nil=>cases(andB (andB (andB h).2).2).1
  |cons c cs=>exact s_blt O (blt_ok O b (andB (andB (andB h).2).2).2) (andB h).1 (a0K' (cs:=c::cs) (andB (andB h).2).1) hL
 |fst ps=>exact s_fst O h
 |sel fs i es=>
  obtain⟨h1,h⟩:=andB h;obtain⟨h2,h⟩:=andB h;obtain⟨h3,h⟩:=andB h;obtain⟨h4,h5⟩:=andB h;have hL:=a1D' es O h4;cases es with
  |nil=>cases h5
  |cons c cs=>exact s_sel O h1 (a0k' i O h2) h3 (a0K' (cs:=c::cs) h4) hL
 |tix o es=>have h4:=(andB (andB (andB (andB h).2).2).2).1;exact s_tix (andB h).1 (andB (andB h).2).1 (a0K' h4) (by rw[a4j'];exact decB (andB (andB (andB (andB h).2).2).2).2) (a0k' o O (andB (andB (andB h).2).2).1) (a1D' es O h4)
 |meth m o es=>have h4:=(andB (andB (andB (andB h).2).2).2).1;exact s_meth (andB h).1 (andB (andB h).2).1 (a0K' h4) (by rw[a4j'];exact decB (andB (andB (andB (andB h).2).2).2).2) a4j'.symm (a0k' o O (andB (andB (andB h).2).2).1) (a1D' es O h4)
 |lenset=>cases h
 |sset=>cases h
 |sumL=>cases h
 |rng=>cases h
 |comp box N' fr tg it ifs body=>
  obtain⟨h1,h⟩:=andB h;obtain⟨h2,h⟩:=andB h;obtain⟨h3,h⟩:=andB h;obtain⟨h4,h⟩:=andB h;obtain⟨h5,h⟩:=andB h;obtain⟨h6,h⟩:=andB h;obtain⟨h7,h8⟩:=andB h;have sc1:=a6e' O h1
  refine weakE (pe_comp (N:=N') (g:=gCT X.K tg) (tb:=tC X.K X.mg Φ Γ ifs body) O.calm sc1 (a6f' O h2) (a7e' it O h5 a3l') (λacc env=>a3d' _ env>>=λok=>if ok=true then cRest _ (_::_) _ _ 0 (.ref acc) env else pure ())
   (λit acc env=>a1B' rfl) (λC s0 H0 fp acc=>?_) (a1f' h6)) λσ H Q q=>c_comp (tg0:=emT tg N' ((vw e).gs.headD dG).target) q
  have O':=a6g' O sc1.kind h3 C s0 H0 fp;exact⟨g_pg O' h4,a8N' (a4w' ifs O' h7) (a8W' body O' rfl rfl h8)⟩
 |emit e=>cases h
 |inner a b c d=>cases h
 |seq a=>cases h
 |range a=>cases h
 |zip a=>cases h
 |enum a=>cases h
 |revl a=>cases h
 |by2 a=>cases h
 |down a=>cases h
theorem a1N'(c:CE):∀{X:Cx} {cell:Str→Bool} {N:Ls} {sc:Sc} {CX:CXT} {E:XK} {Φ:FT} {Γ:Str→Option D} {k:Nat} {e:Expr},XOk X cell N sc CX E Φ Γ k→sdE c N sc e=true→PT X (emE c N e) (tT X.K X.mg E Φ Γ c):=by
 intro X cell N sc CX E Φ Γ k e O h;cases c with
 |var i=>
  refine weakT (t_val (σ:=[]) (s_var O (andB h).1 (andB (andB h).2).1 (andB (andB h).2).2) λ_=>rfl) λσ H Q zz=>ex43 zz λF μ ρ S sk en w=>⟨F,μ,ρ,S,sk,en,?_⟩;cases e1:ρ[i]? with
  |none=>simp only[denT,e1]at w;exact w.elim
  |some o=>
   cases o with
   |none=>simp only[denT,e1]at w;exact w.elim
   |some d=>simp only[denT,e1]at w;simp only[den,e1];exact w
 |lit d=>exact weakT (t_val (Φ:=Φ) (Γ:=Γ) (σ:=[]) (s_lit h) λ_=>rfl) λσ H Q zz=>ex43 zz λF μ ρ S sk en w=>⟨F,μ,ρ,S,sk,en,w⟩
 |call f es=>
  have hL:=a1D' es O (andB (andB h).2).1;cases es with
  |nil=>cases(andB (andB h).2).2
  |cons c cs=>
   refine weakT (t_val (σ:=[]) (s_call O (andB h).1 (a0K' (cs:=c::cs) (andB (andB h).2).1) hL) λ_=>rfl) λσ H Q zz=>ex43 zz λF μ ρ S sk en w=>⟨F,μ,ρ,S,sk,en,?_⟩;simp only[denT]at w;simp only[den];cases e1:Φ f with
   |none=>rw[e1]at w;exact w
   |some φ=>
    rw[e1]at w;show WantG _ _ _ _ _ _ _ (((denL Φ Γ (c::cs) ρ S).bind λds S1=>φ ds S1).bind _);cases e2:denL Φ Γ (c::cs) ρ S with
    |ok ds S1=>rw[e2]at w;exact w
    |err y S1=>rw[e2]at w;exact w
    |fail=>rw[e2]at w;exact w
 |blt b es=>
  have hL:=a1D' es O (andB (andB h).2).1;cases es with
  |nil=>cases(andB (andB (andB h).2).2).1
  |cons c cs=>
   refine weakT (t_val (σ:=[]) (s_blt O (blt_ok O b (andB (andB (andB h).2).2).2) (andB h).1 (a0K' (cs:=c::cs) (andB (andB h).2).1) hL) λ_=>rfl) λσ H Q zz=>ex43 zz λF μ ρ S sk en w=>⟨F,μ,ρ,S,sk,en,?_⟩;simp only[denT]at w;simp only[den];cases e2:denL Φ Γ (c::cs) ρ S with
   |ok ds S1=>rw[e2]at w;exact w
   |err y S1=>rw[e2]at w;exact w
   |fail=>rw[e2]at w;exact w
 |cmp op a b=>exact t_cmp O.room.units (a0k' a O (andB h).1) (a0k' b O (andB (andB h).2).1) (notB (andB (andB h).2).2)
 |chain op op' a b c=>exact t_chain O.room.units (a0k' a O (andB h).1) (a0k' b O (andB (andB h).2).1) (a0k' c O (andB (andB (andB h).2).2).1) (notB (andB (andB (andB h).2).2).2)
 |band a b=>exact(a7Q' (a1N' a O (andB h).1) (λz=>a1N' b O (cond1 (andB h).2 z)) λz=>by have g:=(andB (cond2 (andB h).2 z)).1;obtain⟨r,rest,q⟩:=a6i' (pos:=(vw e).pos) (N:=N) (es:=(vw e).es.tail) g;exact⟨r,rest,q,a7d' b O (andB (cond2 (andB h).2 z)).2 (by rw[g];rfl)⟩).pt
 |bor a b=>exact(em_orT (a1N' a O (andB h).1) (λz=>a1N' b O (cond1 (andB h).2 z)) λz=>by have g:=(andB (cond2 (andB h).2 z)).1;obtain⟨r,rest,q⟩:=a8V' (pos:=(vw e).pos) (N:=N) (es:=(vw e).es.tail) g;exact⟨r,rest,q,a7d' b O (andB (cond2 (andB h).2 z)).2 (by rw[g,Bool.or_true])⟩).pt
 |bnot a=>exact t_not (a1N' a O h)
 |_=>exact(tT_fail λ_ _=>by simp only[denT]).pt
theorem a7d'(c:CE):∀{X:Cx} {cell:Str→Bool} {N:Ls} {sc:Sc} {CX:CXT} {E:XK} {Φ:FT} {Γ:Str→Option D} {k:Nat} {e:Expr},XOk X cell N sc CX E Φ Γ k→sdE c N sc e=true→(a8A' c||isBor c)=true→PW X (emE c N e) (tT X.K X.mg E Φ Γ c):=by
 intro X cell N sc CX E Φ Γ k e O h hb;cases c with
 |band a b=>exact a7Q' (a1N' a O (andB h).1) (λz=>a1N' b O (cond1 (andB h).2 z)) λz=>by have g:=(andB (cond2 (andB h).2 z)).1;obtain⟨r,rest,q⟩:=a6i' (pos:=(vw e).pos) (N:=N) (es:=(vw e).es.tail) g;exact⟨r,rest,q,a7d' b O (andB (cond2 (andB h).2 z)).2 (by rw[g];rfl)⟩
 |bor a b=>exact em_orT (a1N' a O (andB h).1) (λz=>a1N' b O (cond1 (andB h).2 z)) λz=>by have g:=(andB (cond2 (andB h).2 z)).1;obtain⟨r,rest,q⟩:=a8V' (pos:=(vw e).pos) (N:=N) (es:=(vw e).es.tail) g;exact⟨r,rest,q,a7d' b O (andB (cond2 (andB h).2 z)).2 (by rw[g,Bool.or_true])⟩
 |_=>cases hb
theorem a1D'(cs:List CE):∀{X:Cx} {cell:Str→Bool} {N:Ls} {sc:Sc} {CX:CXT} {E:XK} {Φ:FT} {Γ:Str→Option D} {k:Nat} {es:Lx},XOk X cell N sc CX E Φ Γ k→sdL cs N sc es=true→PA X (emL cs N es) (tL X.K X.mg E Φ Γ cs):=by
 intro X cell N sc CX E Φ Γ k es O h;cases cs with
 |nil=>exact s_nil
 |cons c cs=>exact s_cons (andB (andB h).2).1 (a0k' c O (andB h).1) (a1D' cs O (andB (andB h).2).2)
theorem soundP(cs:List CE):∀{X:Cx} {cell:Str→Bool} {N:Ls} {sc:Sc} {CX:CXT} {E:XK} {Φ:FT} {Γ:Str→Option D} {k:Nat} {es:Lx},XOk X cell N sc CX E Φ Γ k→sdL cs N sc es=true→cs.length<2→PO X (emL cs N es).head? (tPt X.K X.mg E Φ Γ cs):=by
 intro X cell N sc CX E Φ Γ k es O h hl;cases cs with
 |nil=>exact s_part0
 |cons c cs=>cases cs with
  |nil=>exact s_part1 (a0k' c O (andB h).1)
  |cons _ _=>exact absurd hl (by simp)
theorem a4w'(cs:List CE):∀{X:Cx} {cell:Str→Bool} {N:Ls} {sc:Sc} {CX:CXT} {E:XK} {Φ:FT} {Γ:Str→Option D} {k:Nat} {es:Lx},XOk X cell N sc CX E Φ Γ k→sdL cs N sc es=true→PTs X (emL cs N es) (cs.map (tT X.K X.mg E Φ Γ)):=by
 intro X cell N sc CX E Φ Γ k es O h;cases cs with
 |nil=>trivial
 |cons c cs=>exact⟨a1N' c O (andB h).1,a4w' cs O (andB (andB h).2).2⟩
theorem a7e'(c:CE):∀{X:Cx} {cell:Str→Bool} {N:Ls} {sc:Sc} {CX:CXT} {E:XK} {Φ:FT} {Γ:Str→Option D} {k:Nat} {tg:CT} {t e:Expr},XOk X cell N sc CX E Φ Γ k→sdI c N sc tg e=true→(a6U' tg=true→isTup t=true)→PI X t (emI c N e) (tI X.K X.mg E Φ Γ c):=by
 intro X cell N sc CX E Φ Γ k tg t e O h ht;cases c with
 |seq a=>exact i_seq (a0k' a O h)
 |range es=>
  have h2:=(andB (andB h).2).1;have h3:=(andB (andB h).2).2;have hs:=a0K' h2;have hL:=a1D' es O h2;cases es with
  |nil=>cases h3
  |cons a es=>cases es with
   |nil=>exact a8H' O (andB h).1 (hs _ Zc) rfl hL
   |cons b es=>cases es with
    |nil=>exact a8I' O (andB h).1 (hs _ Zc) (hs _ (Zb _ Zc)) rfl hL
    |cons d es=>cases h3
 |down es=>cases h
 |by2 es=>cases h
 |revl es=>cases h
 |enum es=>cases h
 |zip es=>
  have h2:=(andB (andB h).2).1;have h3:=(andB (andB h).2).2;have hs:=a0K' h2;have hL:=a1D' es O h2;cases es with
  |nil=>cases(andB h3).1
  |cons a es=>cases es with
   |nil=>cases(andB h3).1
   |cons b es=>cases es with
    |nil=>exact i_zip O (andB h).1 (ht (andB h3).2) (hs _ Zc) (hs _ (Zb _ Zc)) hL
    |cons d es=>cases(andB h3).1
 |_=>cases h
theorem a8W'(c:CE):∀{X:Cx} {cell:Str→Bool} {N:Ls} {sc:Sc} {CX:CXT} {E:XK} {Φ:FT} {Γ:Str→Option D} {k:Nat} {el:Expr} {gens gs:List Comprehension} {scope:Scope} {pos:Pos} {d:Nat} {acc:Addr},XOk X cell N sc CX E Φ Γ k→X.xe=(λ_ _=>False)→gens.drop (d+1)=emBg c N gs→sdB c cell N sc gs el=true→
  PB X (cRest (emBe c N el) gens scope pos d (.ref acc) X.env) (tB X.K X.mg Φ Γ c acc):=by
 intro X cell N sc CX E Φ Γ k el gens gs scope pos d acc O hx hd h;cases c with
 |emit a=>exact c_emit (a7b' hd) (a0k' a O h)
 |inner tg it ifs body=>obtain⟨h4,h⟩:=andB h;obtain⟨h5,h⟩:=andB h;obtain⟨h6,h⟩:=andB h;obtain⟨h7,h8⟩:=andB h;exact c_inner hx O.calm (a8U' hd) (a7e' it O h5 a3l') (a1f' h6) (g_pg O h4) (a8N' (a4w' ifs O h7) (a8W' body O hx (a7c' hd) h8))
 |_=>cases h
end
def WantS(K:Fg)(mg:GS)(E:XK)(D:Ends)(μ:La)(H:Hp):Res Fl→Prop
 | .ok (.next ρ') S'=>∀μ' H' σ',Ext μ H μ' H'→SOk K mg μ' S' H'→EnvR K mg μ' H' ρ' σ'→D.nx σ' H'
 | .ok (.ret d) S'=>∀μ' H' v,Ext μ H μ' H'→SOk K mg μ' S' H'→Rep K mg μ' H' d v→D.rt v H'
 | .ok (.brk ρ') S'=>∀μ' H' σ',Ext μ H μ' H'→SOk K mg μ' S' H'→EnvR K mg μ' H' ρ' σ'→D.bk σ' H'
 | .ok (.cont ρ') S'=>∀μ' H' σ',Ext μ H μ' H'→SOk K mg μ' S' H'→EnvR K mg μ' H' ρ' σ'→D.ct σ' H'
 | .err x S'=>∀μ' H',Ext μ H μ' H'→SOk K mg μ' S' H'→exOf mg.mg E x H'
 | .fail=>False
def tS(K:Fg)(mg:Mg)(E:XK)(Φ:FT)(Γ:Str→Option D)(c:CS):TS:=λD σ H=>∃F μ ρ S,SOk K ⟨mg,F⟩ μ S H∧EnvR K ⟨mg,F⟩ μ H ρ σ∧WantS K ⟨mg,F⟩ E D μ H (denS Φ Γ c ρ S)
def tSs(K:Fg)(mg:Mg)(E:XK)(Φ:FT)(Γ:Str→Option D)(cs:List CS):TS:=λD σ H=>∃F μ ρ S,SOk K ⟨mg,F⟩ μ S H∧EnvR K ⟨mg,F⟩ μ H ρ σ∧WantS K ⟨mg,F⟩ E D μ H (denSs Φ Γ cs ρ S)
section
variable {mg:GS}{E:XK}{D D':Ends}
theorem WantS.ext{r:Res Fl}(x:Ext μ H μ' H')(w:WantS K mg E D μ H r):WantS K mg E D μ' H' r:=by
 cases r with
 |ok f S=>
  cases f with
  |next ρ=>exact λm h s y=>w m h s (x.trans y)
  |ret d=>exact λm h s y=>w m h s (x.trans y)
  |brk ρ=>exact λm h s y=>w m h s (x.trans y)
  |cont ρ=>exact λm h s y=>w m h s (x.trans y)
 |err z S=>exact λm h y=>w m h (x.trans y)
 |fail=>exact w
theorem WantS.bind{Rel:La→Hp→α→β→Prop}{r:Res α}{f:α→Store→Res Fl}(w:WantS K mg E D μ H (r.bind f)):
  WantG K mg E Rel μ H (λb H'=>∃μ' S' a,Ext μ H μ' H'∧SOk K mg μ' S' H'∧Rel μ' H' a b∧WantS K mg E D μ' H' (f a S')) r:=by
 cases r with
 |ok a S'=>exact λμ2 H2 b x s r=>⟨μ2,S',a,x,s,r,WantS.ext x (show WantS K mg E D μ H (f a S')from w)⟩
 |err y S'=>exact w
 |fail=>exact w
theorem WantS.seq{r:Res Fl}{f:Rho→Store→Res Fl}{N:L2.St→Hp→Prop}(w:WantS K mg E D μ H (r.bind λfl S1=>match fl with
   | .next ρ'=>f ρ' S1
   |fl=>.ok fl S1)) (hN:∀μ' H' σ' ρ' S',Ext μ H μ' H'→SOk K mg μ' S' H'→EnvR K mg μ' H' ρ' σ'→WantS K mg E D μ' H' (f ρ' S')→N σ' H'):WantS K mg E {D with nx:=N} μ H r:=by
 cases r with
 |ok fl S=>
  cases fl with
  |next ρ=>exact λm h s x k en=>hN m h s ρ S x k en (WantS.ext x (show WantS K mg E D μ H (f ρ S)from w))
  |ret d=>exact w
  |brk ρ=>exact w
  |cont ρ=>exact w
 |err z S=>exact w
 |fail=>exact w
end
theorem weakS{t t':TS}(h:PS X st t)(w:∀D σ H,t' D σ H→t D σ H):PS X st t':=λpq s σ H D I q=>h pq s σ H D I (w D σ H q)
theorem weakSs{st:List Stmt}{t t':TS}(h:PSs X st t)(w:∀D σ H,t' D σ H→t D σ H):PSs X st t':=λpq s σ H D I q=>h pq s σ H D I (w D σ H q)
def a1z':Expr→Bool
 | .ListComp .. =>false
 | .SetComp .. =>false
 | .DictComp .. =>false
 |_=>true
def isComp:Expr→Bool
 | .ListComp .. =>true
 |_=>false
def locB(sc:Sc)(x:Str):Bool:=sc.lookup x==some .local||sc.lookup x==some .cell
def swB(sc:Sc)(x:Str)(p:Pos)(v:Expr):Bool:=sc.lookup x==some .local&&(p.line==(vw v).pos.line&& !((vw v).sc.names.any λ(n,k)=>n==x&&(k== .local||k== .cell)))
def dS:Stmt:=.Pass ⟨0,0,0,0⟩
structure NdS where
 e0:Expr:=dE
 e1:Expr:=dE
 a:List Stmt:=[]
 b:List Stmt:=[]
 pos:Pos:=⟨0,0,0,0⟩
 hp:Pos:=⟨0,0,0,0⟩
def vs:Stmt→NdS
 | .Assign ts v p=>{e0:=ts.headD dE,e1:=v,pos:=p}
 | .AugAssign t _ v p=>{e0:=t,e1:=v,pos:=p}
 | .Expr v p=>{e0:=v,pos:=p}
 | .Return v p=>{e0:=v.getD dE,pos:=p}
 | .Pass p=>{pos:=p}
 | .Break p=>{pos:=p}
 | .Continue p=>{pos:=p}
 | .If t x y p=>{e0:=t,a:=x,b:=y,pos:=p}
 | .For t i x _ p=>{e0:=t,e1:=i,a:=x,pos:=p}
 | .While t x _ p=>{e0:=t,a:=x,pos:=p}
 | .Raise v _ p=>{e0:=v.getD dE,pos:=p}
 | .Try x [.ExceptHandler t _ y hp] _ _ p=>{e0:=t.getD dE,a:=x,b:=y,pos:=p,hp:=hp}
 |_=>{}
def emSub(o i:CE)(N:Ls)(e:Expr):Expr:=.Subscript (emE o N (vw e).e0) (emE i N (vw e).e1) (vw e).pos
def sdSub(o i:CE)(N:Ls)(sc:Sc)(e:Expr):Bool:=a0X' (emE i N (vw e).e1)&&(sdE o N sc (vw e).e0&&sdE i N sc (vw e).e1)
def hnd(pe n y:Str)(tp np vp cp rp hp:Pos):ExceptHandler:=.ExceptHandler (some (.Name pe tp)) (some n) [.Return (some (.Call (.Name y np) [.Name n vp] [] cp)) rp] hp
mutual
def emS:CS→Ls→Stmt→Stmt
 | .asg i e,N,st=>.Assign [.Name (N.getD i "") (vw (vs st).e0).pos] (emE e N (vs st).e1) (vs st).pos
 | .asgT t e,N,st=>.Assign [emT t N (vs st).e0] (emE e N (vs st).e1) (vs st).pos
 | .par _ _,_,st=>st
 | .aug _ _,_,st=>st
 | .set o i v,N,st=>.Assign [emSub o i N (vs st).e0] (emE v N (vs st).e1) (vs st).pos
 | .set2 _ _ _ _ _,_,st=>st
 | .expr e,N,st=>.Expr (emE e N (vs st).e0) (vs st).pos
 | .ret e,N,st=>.Return (some (emE e N (vs st).e0)) (vs st).pos
 | .retN,_,st=>.Return none (vs st).pos
 | .pass,_,st=>.Pass (vs st).pos
 | .brk,_,st=>.Break (vs st).pos
 | .cont,_,st=>.Continue (vs st).pos
 | .ite c a b,N,st=>.If (emE c N (vs st).e0) (emSs a N (vs st).a) (emSs b N (vs st).b) (vs st).pos
 | .for_ t it body,N,st=>.For (emT t N (vs st).e0) (emI it N (vs st).e1) (emSs body N (vs st).a) [] (vs st).pos
 | .while_ _ _ _,_,st=>st
 | .never,_,st=>st
 | .raise_ x es,N,st=>.Raise (some (.Call (.Name x (vw (vw (vs st).e0).e0).pos) (emL es N (vw (vs st).e0).es) [] (vw (vs st).e0).pos)) none (vs st).pos
 | .tryK i body f _ _,N,st=>.Try (emSs body N (vs st).a) [hnd "PairError" (N.getD i "") f (vw (vs st).e0).pos (vw (vw (vs ((vs st).b.headD dS)).e0).e0).pos (vw ((vw (vs ((vs st).b.headD dS)).e0).es.headD dE)).pos (vw (vs ((vs st).b.headD dS)).e0).pos (vs ((vs st).b.headD dS)).pos (vs st).hp] [] [] (vs st).pos
def emSs:List CS→Ls→List Stmt→List Stmt
 | [],_,_=>[]
 |c::cs,N,st=>emS c N (st.headD dS)::emSs cs N st.tail
end
def foldB:Expr→Bool
 | .Tuple xs _ _=>xs.all (foldedForSure 8)
 |_=>true
def cellB(sc:Sc):Expr→Bool
 | .Tuple ts _ _=>ts.any fun
  | .Name id _=>sc.lookup id==some .cell
  |_=>false
 |_=>false
mutual
def sdS:CS→Ls→Sc→Stmt→Bool
 | .asg i e,N,sc,st=>N[i]?==some (N.getD i "")&&(locB sc (N.getD i "")&&(sdE e N sc (vs st).e1&&(a1z' (emE e N (vs st).e1)||(isCmp e&&(sc.lookup (N.getD i "")==some .cell||swB sc (N.getD i "") (vw (vs st).e0).pos (emE e N (vs st).e1))))))
 | .asgT t e,N,sc,st=>a6U' t&&((foldB (emE e N (vs st).e1)||cellB sc (emT t N (vs st).e0))&&(a1z' (emE e N (vs st).e1)&&(sdT (λ_=>true) N sc t&&sdE e N sc (vs st).e1)))
 | .par _ _,_,_,_=>false
 | .aug _ _,_,_,_=>false
 | .set o i v,N,sc,st=>sdSub o i N sc (vs st).e0&&(a1z' (emE v N (vs st).e1)&&sdE v N sc (vs st).e1)
 | .set2 _ _ _ _ _,_,_,_=>false
 | .expr e,N,sc,st=>a1z' (emE e N (vs st).e0)&&sdE e N sc (vs st).e0
 | .ret e,N,sc,st=>sdE e N sc (vs st).e0
 | .retN,_,_,_=>true
 | .pass,_,_,_=>true
 | .brk,_,_,_=>true
 | .cont,_,_,_=>true
 | .ite c a b,N,sc,st=>sdE c N sc (vs st).e0&&(sdSs a N sc (vs st).a&&sdSs b N sc (vs st).b)
 | .for_ t it body,N,sc,st=>sdT (λ_=>true) N sc t&&(sdI it N sc t (vs st).e1&&(a6T' (emI it N (vs st).e1)&&sdSs body N sc (vs st).a))
 | .while_ _ _ _,_,_,_=>false
 | .never,_,_,_=>true
 | .raise_ x es,N,sc,st=>gloB sc x&&(sdL es N sc (vw (vs st).e0).es&&(0<es.length&&(emL es N (vw (vs st).e0).es).all a0w'))
 | .tryK i body f _ _,N,sc,st=>N[i]?==some (N.getD i "")&&(sc.lookup (N.getD i "")==some .local&&(a2j' (N.getD i "")&&(gloB sc "PairError"&&(gloB sc f&&sdSs body N sc (vs st).a))))
def sdSs:List CS→Ls→Sc→List Stmt→Bool
 | [],_,_,_=>true
 |c::cs,N,sc,st=>sdS c N sc (st.headD dS)&&sdSs cs N sc st.tail
end
section
variable {E:XK}{pos:Pos}
theorem a6j'{v:Expr}{o:Option Expr}(h:a1z' v=true):swapsWith v o line env=pure false:=by cases v<;>first|rfl|cases h
theorem bk_fn(O:XOk X cell N sc CX E Φ Γ k):X.env.blockKind=.function:=by unfold Env.blockKind;rw[O.kd];rfl
theorem sw_cell(O:XOk X cell N sc CX E Φ Γ k){v:Expr}{x:Str}{p:Pos}(h:isComp v=true)(hx:sc.lookup x=some .cell):swapsWith v (some (.Name x p)) line X.env=pure false:=by
 have e1:X.env.kindOf x=some .cell:=by show X.env.scope.names.lookup x=_;rw[O.sc];exact hx
 cases v<;>first| (cases h;done)|skip
 rename_i el gs scope vp;unfold swapsWith;show(pure (X.env.blockKind== .function&&X.env.kindOf x==some .local&&p.line==vp.line&& !_):Sem Bool)=pure false;rw[e1];have e2:(some NameKind.cell==some NameKind.local)=false:=by decide
 rw[e2,Bool.and_false,Bool.false_and,Bool.false_and]
theorem sw_yes(O:XOk X cell N sc CX E Φ Γ k){el:Expr}{gs:List Comprehension}{p:Pos}{x:Str}(h:swB sc x p (.ListComp el gs scope vp)=true):swapsWith (.ListComp el gs scope vp) (some (.Name x p)) line X.env=pure true:=by
 obtain⟨h1,h⟩:=andB h;obtain⟨h2,h3⟩:=andB h;have e1:X.env.kindOf x=some .local:=by show X.env.scope.names.lookup x=_;rw[O.sc];exact beq_iff_eq.mp h1
 unfold swapsWith;show(pure (X.env.blockKind== .function&&X.env.kindOf x==some .local&&p.line==vp.line&& !_):Sem Bool)=pure true;rw[bk_fn O,e1,show(p.line==vp.line)=true from h2];have h3':(!(scope.names.any λx_1=>match x_1 with| (n,k)=>n==x&&(k== .local||k== .cell)))=true:=h3
 first|rw[h3'];rfl|simp_all
theorem loc_ok(O:XOk X (λ_=>true) N sc CX E Φ Γ k){x:Str}(h:locB sc x=true):L2.Loc X.env.scope x:=by unfold L2.Loc;rw[O.sc];unfold locB at h;simpa using h
theorem a7R'{D:Ends}{i:Nat}{e:CE}(h:tS X.K X.mg E Φ Γ (.asg i e) D σ H):tE X.K X.mg E Φ Γ e σ H λv H1=>D.nx (σ.set i (some v)) H1:=by obtain⟨F,μ,ρ,S,sk,en,w⟩:=h;simp only[denS]at w;exact⟨F,μ,ρ,S,sk,en,(WantS.bind w).mono λv H1 zz=>ex34 zz λμ1 S1 d x1 s1 r1 w1=>w1 μ1 H1 _ .refl s1 ((en.mono x1).set r1)⟩
theorem s_asg(O:XOk X (λ_=>true) N sc CX E Φ Γ k){i:Nat}{e:CE}(h:sdS (.asg i e) N sc st=true):PS X (emS (.asg i e) N st) (tS X.K X.mg E Φ Γ (.asg i e)):=by
 obtain⟨h1,h⟩:=andB h;obtain⟨h2,h⟩:=andB h;obtain⟨h3,h4⟩:=andB h;have h1:=beq_iff_eq.mp h1
 have plain:swapsWith (emE e N (vs st).e1) (some (.Name (N.getD i "") (vw (vs st).e0).pos)) (vs st).pos.line X.env=pure false→PS X (emS (.asg i e) N st) (tS X.K X.mg E Φ Γ (.asg i e)):=λhs=>
  weakS (ps_set (i:=i) (by rw[O.n];exact O.nd) (by rw[O.n];exact h1) (loc_ok O h2) (a0k' e O h3) hs (.inl (O.fn _ rfl))) λD σ H q=>a7R' q
 rcases Bool.or_eq_true_iff.mp h4 with h4|h4
 ·exact plain (a6j' h4)
 ·obtain⟨h4,h5⟩:=andB h4;cases e with
  |comp box N' fr tg it ifs body=>
   rcases Bool.or_eq_true_iff.mp h5 with h5|h5
   ·exact plain (sw_cell O rfl (beq_iff_eq.mp h5))
   ·have hsw:=sw_yes O (line:=(vs st).pos.line) h5;have hx:X.env.scope.names.lookup (N.getD i "")=some .local:=by rw[O.sc];exact beq_iff_eq.mp (andB h5).1
    obtain⟨k1,h⟩:=andB h3;obtain⟨k2,h⟩:=andB h;obtain⟨k3,h⟩:=andB h;obtain⟨k4,h⟩:=andB h;obtain⟨k5,h⟩:=andB h;obtain⟨k6,h⟩:=andB h;obtain⟨k7,k8⟩:=andB h;have sc1:=a6e' O k1
    refine weakS (ps_comp (N:=N') (j:=i) (g:=gCT X.K tg) (tb:=tC X.K X.mg Φ Γ ifs body) O.calm (by rw[O.n];exact O.nd) (by rw[O.n];exact h1) hx hsw sc1 (a6f' O k2) (a7e' it O k5 a3l') (λacc env=>a3d' _ env>>=λok=>if ok=true then cRest _ (_::_) _ _ 0 (.ref acc) env else pure ())
     (λit acc env=>a1B' rfl) (λC s0 H0 fp acc=>?_) (a1f' k6)) λD σ H q=>c_comp (tg0:=.Name (N.getD i "") (vw (vs st).e0).pos) (a7R' q)
    have O':=a6g' O sc1.kind k3 C s0 H0 fp;exact⟨g_pg O' k4,a8N' (a4w' ifs O' k7) (a8W' body O' rfl rfl k8)⟩
  |_=>cases h4
end
def Fly(h0:Heap)(H':Hp)(h':Heap)(e:Addr)(cls:Value):Prop:=
 ∃oe vs a0 T oT ts,h'.get? e=some oe∧(oe.cls=cls∧vs[0]?=some a0)∧oe.data=.fields vs∧vs[1]?=some (.ref T)∧T≠e∧h'.get? T=some oT∧oT.data=.fields ts∧ts[3]?=some .none∧(h0.get? e=none∧h0.get? T=none)∧H' e=none∧H' T=none
def CX1(P:Program)(w:World):CXT:=λouter H s E v s'=>∃e cls H',v=.ref e∧s'.os=s.os∧AllBare s'.gens∧Un (frs outer) [] H H' s.heap s'.heap∧HOk P w H' s'.heap∧E cls none H'∧Fly s.heap H' s'.heap e cls
theorem cx1_0(outer:List Env)(H:Hp)(s:Shared)(e:Value)(s':Shared)(z:CX1 P w outer H s E0 e s'):False:=by obtain⟨_,_,_,_,_,_,_,_,q,_⟩:=z;exact q
theorem a8X'(x:ObjOk P w H h a o):∃u,h.get? a=some u:=by
 cases o with
 |lst xs=>obtain⟨_,_,_,_,e⟩:=x;exact⟨_,e⟩
 |tup xs=>obtain⟨_,_,_,_,u,e,_⟩:=x;exact⟨_,e⟩
 |dK kvs=>obtain⟨_,_,_,_,o,_,_,e,_⟩:=x;exact⟨_,e⟩
 |dT kvs=>obtain⟨_,_,_,_,o,_,_,e,_⟩:=x;exact⟨_,e⟩
 |set S n=>obtain⟨o,_,_,_,e,_⟩:=x;exact⟨_,e⟩
 |ins C dx fs=>obtain⟨_,_,_,e,_⟩:=x;exact⟨_,e⟩
 |own y=>obtain⟨_,e⟩:=x;exact⟨_,e⟩
 |xd fs=>obtain⟨_,⟨_,_,_,e,_⟩,_⟩:=x;exact⟨_,e⟩
 |rng lo hi=>obtain⟨_,_,_,e⟩:=x;exact⟨_,e⟩
 |frz ob u=>obtain⟨e,_⟩:=x;exact⟨_,e⟩
 |tbl ps=>exact⟨_,show h.get? a=some _ from x⟩
 |met f y=>exact⟨_,show h.get? a=some _ from x⟩
 |ext φ=>obtain⟨_,e,_⟩:=x;exact e
section
variable {s3:Shared}{e T:Addr}{a0:Value}{B:Heap}{E:XK}
theorem a7S'(I:Inv X pq σ H' s2)(hex:X.ex=[])(hst:X.stack=X.env::X.outer)(hB:∀b o,s2.heap.get? b=some o→b∉frs X.stack→b≠e→b≠T→B.get? b=some o)
  (he:X.s₀.heap.get? e=none∧X.s₀.heap.get? T=none) (He:H' e=none∧H' T=none) (fl:Heap.FlyingW B X.outer e cls a0 h') (up:s2.heap.UpToSlots h') (q:E cls none H')
  (e1:s3.os=s2.os) (e2:s3.gens=s2.gens) (e3:s3.heap=h'):CX1 X.prog X.w X.outer X.H₀ X.s₀ E (.ref e) s3:=by
 have U:=I.base;rw[hex]at U;have stk:=I.stack;have hfr:∀b,b∈frs X.stack→∃o,s2.heap.get? b=some o∧∀vs,o.data≠.fields vs:=λb hb=>(stk.mem hb).2;have hfree:∀b∈frs X.stack,H' b=none:=I.stkFree;have keepB:∀b o,s2.heap.get? b=some o→b∉frs X.stack→b≠e→b≠T→h'.get? b=some o:=λb o h1 h2 h3 h4=>fl.1 b o (hB b o h1 h2 h3 h4);have old:∀b o,X.s₀.heap.get? b=some o→b≠e∧b≠T:=λb o h1=>⟨λz=>(by rw[z,he.1]at h1;cases h1),λz=>(by rw[z,he.2]at h1;cases h1)⟩
 have nl:∀b o,X.s₀.heap.get? b=some o→b∉frs X.outer→b∉frs X.stack:=λb o h1 h2 h3=>by
  rcases Zo.mp (I.stkSub b h3)with z|z
  ·have:=Zk h1;rw[z]at this;exact absurd this (Nat.not_lt.mpr I.ok.above)
  ·exact h2 z
 have sub:∀b∈frs X.outer,b∈frs X.stack:=λb hb=>by rw[hst];obtain⟨en,h1,h2⟩:=List.mem_filterMap.mp hb;exact List.mem_filterMap.mpr ⟨en,Zb _ h1,h2⟩
 have there:∀b o,s2.heap.get? b=some o→b≠e→b≠T→∃o',h'.get? b=some o':=λb o h1 h2 h3=>by
  by_cases hb:b∈frs X.stack
  ·obtain⟨o1,h4,h5⟩:=hfr b hb;obtain⟨sl,h6⟩:=up b o1 h4 h5;exact⟨_,h6⟩
  ·exact⟨o,keepB b o h1 hb h2 h3⟩
 have U':Un (frs X.outer) [] X.H₀ H' X.s₀.heap h':=by
  refine⟨λb o h1 h2 h3 h4=>keepB b o (U.keep b o h1 h2 h3 h4) (nl b o h1 h3) (old b o h1).1 (old b o h1).2,λb o h1 h2 h3 h4=>?_,U.free,λb o h1 h2=>?_,U.tups,U.frzs,U.tbls⟩
  ·obtain⟨sl,h5⟩:=U.slot b o h1 h2 h3 h4;obtain⟨o1,h6,h7⟩:=hfr b (sub b h3);rw[h5]at h6;cases h6;obtain⟨sl',h8⟩:=up b _ h5 h7;exact⟨sl',h8⟩
  ·obtain⟨o',h5⟩:=U.there b o h1 h2;exact there b o' h5 (old b o h1).1 (old b o h1).2
 have tracked:∀b u,H' b=some u→b∉frs X.stack∧b≠e∧b≠T:=λb u h1=>
  ⟨λz=>(by rw[hfree b z]at h1;cases h1),λz=>(by rw[z,He.1]at h1;cases h1),λz=>(by rw[z,He.2]at h1;cases h1)⟩
 have hok:HOk X.prog X.w H' h':=λa o ea=>(I.hok a o ea).stay (λb u hb h1=>by
  have hb':∃u,H' b=some u:=by rcases hb with rfl|hb<;>exact⟨_,by assumption⟩
  obtain⟨u',hu⟩:=hb';obtain⟨t1,t2,t3⟩:=tracked b u' hu;exact keepB b u h1 t1 t2 t3) (λ_ q=>q) λ_ _ q=>q
 obtain⟨k1,k2,k3,oe,vs,T',oT,ts,h1,h2,h3,h4,h5,h6,h7,h8,h9⟩:=fl
 have notB:∀o,s2.heap.get? T'=some o→T'=T:=λo ho=>by
  refine Classical.byContradiction λhn=>?_;by_cases hb:T'∈frs X.stack
  ·obtain⟨o1,h10,h11⟩:=hfr T' hb;obtain⟨sl,h12⟩:=up T' o1 h10 h11;rw[h7]at h12;cases h12;exact h11 _ h8
  ·rw[hB T' o ho hb h6 hn]at h5;cases h5
 refine⟨e,cls,H',rfl,by rw[e1];exact I.os,by rw[e2];exact I.bare,by rw[e3];exact U',by rw[e3];exact hok,q,?_⟩;rw[e3];refine⟨oe,vs,a0,T',oT,ts,h1,h2,h3,h4,h6,h7,h8,h9,⟨he.1,?_⟩,He.1,?_⟩
 ·cases hq:X.s₀.heap.get? T' with
  |none=>rfl
  |some o=>obtain⟨o',h10⟩:=U.there T' o hq (by simp);rw[notB o' h10,he.2]at hq;cases hq
 ·cases hq:H' T' with
  |none=>rfl
  |some u=>obtain⟨o,ho⟩:=a8X' (I.hok T' u hq);rw[notB o ho,He.2]at hq;cases hq
theorem a3m'{l:List Env}(f:Fly h0 Hx h e cls)(hf:h.FunFrames base l):∃T a0,(h0.get? e=none∧h0.get? T=none)∧(Hx e=none∧Hx T=none)∧Heap.FlyingW (PySem.W.hideAll h (e::T::frs l)) l e cls a0 h:=by obtain⟨oe,vs,a0,T,oT,ts,h1,h2,h3,h4,h6,h7,h8,h9,h10,h11⟩:=f;refine⟨T,a0,h10,h11,λb o q=>PySem.W.of_hideAll _ q,PySem.W.hideAll_none _ (by simp),PySem.W.funFrames_hide hf (λenv he a ha=>?_),oe,vs,T,oT,ts,h1,h2,h3,h4,PySem.W.hideAll_none _ (by simp),h6,h7,h8,h9⟩;exact Zb _ (Zb _ (List.mem_filterMap.mpr ⟨env,he,ha⟩))
theorem a7T'{l:List Env}:∀b o,h.get? b=some o→b∉frs l→b≠e→b≠T→(PySem.W.hideAll h (e::T::frs l)).get? b=some o:=λb o h1 h2 h3 h4=>
 PySem.W.hideAll_get _ h1 λhm=>by
  rcases Zo.mp hm with z|hm
  ·exact h3 z
  ·rcases Zo.mp hm with z|hm
   ·exact h4 z
   ·exact h2 hm
theorem a7U'{v:Value}(I:Inv X pq σ H s)(c:CX1 X.prog X.w X.stack H s E v s2)(hx:X.ex=[]):∃e cls H',v=.ref e∧Inv X pq σ H' s2∧E cls none H'∧Fly s.heap H' s2.heap e cls:=by obtain⟨e,cls,H',rfl,os,bare,un,hok,q,f⟩:=c;exact⟨e,cls,H',rfl,I.call' os un hok bare (λb z=>absurd z (by simp)),q,f⟩
theorem Fly.old(f:Fly h0 Hx h e cls)(t:∀b o,h1.get? b=some o→∃o',h0.get? b=some o'):Fly h1 Hx h e cls:=by
 obtain⟨oe,vs,a0,T,oT,ts,g1,g2,g3,g4,g6,g7,g8,g9,g10,g11⟩:=f
 have n:∀b,h0.get? b=none→h1.get? b=none:=λb hb=>by
  cases q:h1.get? b with
  |none=>rfl
  |some o=>obtain⟨o',e'⟩:=t b o q;rw[hb]at e';cases e'
 exact⟨oe,vs,a0,T,oT,ts,g1,g2,g3,g4,g6,g7,g8,g9,⟨n _ g10.1,n _ g10.2⟩,g11⟩
end
section
variable {E:XK}
def LvX(X:Cx)(E:XK):Prop:=X.ex=[]∧X.stack=X.env::X.outer∧X.env.frame=some X.env.locals∧X.xe=λe s'=>wpAny (model X.prog X.w) X.A (leaving X.env e) (λ_ s''=>CX1 X.prog X.w X.outer X.H₀ X.s₀ E e s'') (λe' s''=>CX1 X.prog X.w X.outer X.H₀ X.s₀ E e' s'') s'
theorem LvX.of{E:XK}:LvX (cxOf (CX1 P w) P w K mg base N qual scope f cd A outer s H E) E:=
 ⟨rfl,rfl,rfl,rfl⟩
theorem LvX.own(L:LvX X E):PassesOwn (model X.prog X.w) X.A X.env X.xe:=by rw[L.2.2.2];exact PassesOwn.leaving
theorem LvX.pass(L:LvX X E):a5i' (CX1 X.prog X.w) X E:=by intro pq σ H s v s' I c;obtain⟨hex,hst,hf,hxe⟩:=L;obtain⟨e,cls,H',rfl,I2,q,f⟩:=a7U' I c hex;have f':=f.old (h1:=X.s₀.heap) λb o hb=>I.base.there b o hb (by rw[hex];simp);obtain⟨T,a0,n1,n2,fw⟩:=a3m' f' (hst▸I2.stack);rw[hxe];refine wpAny_leaves_onW (by rw[I.ok.frames,hst]) hf fw λh' fl up=>?_;exact a7S' (T:=T) I2 hex hst (by rw[hst];exact a7T') n1 n2 fl up q rfl rfl rfl
theorem LvX.made{e:Addr}(L:LvX X E)(I:Inv X pq σ H s)(m:Heap.MadeExcOf s.heap h2 e (.ref C) args)(q:E (.ref C) none H):X.xe (.ref e) {s with heap:=h2}:=by
 obtain⟨hex,hst,hf,hxe⟩:=L;rw[hxe];have hin:∀env∈X.env::X.outer,∀a,env.frame=some a→a∈frs (X.env::X.outer):=λenv he a ha=>List.mem_filterMap.mpr ⟨env,he,ha⟩;refine wpAny_leaves_madeW (base:=PySem.W.hideAll s.heap (frs X.stack)) (h:=s.heap) (by rw[I.ok.frames,hst]) hf (λb o z=>PySem.W.of_hideAll _ z) (PySem.W.funFrames_hide (hst▸I.stack) (by rw[hst];exact hin)) m λh' t fl tu bt up=>?_
 have ne:X.s₀.heap.get? e=none:=by
  cases hq:X.s₀.heap.get? e with
  |none=>rfl
  |some o=>obtain⟨o',h10⟩:=I.base.there e o hq (by rw[hex];simp);rw[m.new]at h10;cases h10
 have nH:H e=none:=by
  cases hq:H e with
  |none=>rfl
  |some u=>obtain⟨o,ho⟩:=a8X' (I.hok e u hq);rw[m.new]at ho;cases ho
 exact a7S' (T:=e) I hex hst (λb o h1 h2 _ _=>PySem.W.hideAll_get _ h1 h2) ⟨ne,ne⟩ ⟨nH,nH⟩ fl ((Heap.UpToSlots.of_keeps m.keeps).trans up) q rfl rfl rfl
end
def bmVE:Lv:=[.type "ValueError",.type "Exception",.type "BaseException",.type "object"]
section
variable {E:XK}{x:Str}
end
open PySem PySem.Spec PySem.Calls PyProof.Rows PySem.W
def IsA(x C:Addr)(h:Heap):Prop:=∃ox,h.get? x=some ox∧ox.cls=.ref C
theorem IsA.type{x:Addr}(I:IsA x C h):Looks M h (typeOf (.ref x)) (.ref C):=by obtain⟨ox,h1,h2⟩:=I;exact h2▸(Looks.ld h1).andThen .now
theorem a7f'{Q:Unit→Shared→Prop}{x:Addr}{nameV:Value}(L0:Looks M s.heap (typeOf (.ref x)) (.ref C))(L4:Looks M s.heap (isSubtype (.ref C) (.type "BaseException")) true)(hQ:Q () s):
  wpAny M A (checkBuiltinCall "BaseException.__getattribute__" ⟨[.ref x,nameV],[]⟩) Q E s:=by
 have hk:builtinKind "BaseException.__getattribute__"=some .slot:=by decide+kernel
 have hsplit:splitId "BaseException.__getattribute__"=some ("BaseException","__getattribute__"):=by decide+kernel
 have ha:=PySem.F.args_bexc_ga (.ref x) nameV;obtain⟨hh,g,d,t,os⟩:=s;simp only[checkBuiltinCall,hk,hsplit];refine Za ?_;unfold isInstance;refine Za (L0.at (L4.at ?_));simp only[Bool.not_true,ZD,if_false];cases hsig:Manifest.signature? "BaseException.__getattribute__" with
 |none=>exact Zg hQ
 |some sig=>simp only[argsOk,hsig]at ha;have h2:Bind.checkArgs "BaseException.__getattribute__" sig ⟨[.ref x,nameV],[]⟩=pure ():=ha;show wpAny M A (Bind.checkArgs "BaseException.__getattribute__" sig ⟨[.ref x,nameV],[]⟩) Q E _;rw[h2];exact Zg hQ
section
variable {x:Addr}
theorem isa_get{tp:Value}{R:Result→Shared→Prop}(X:K.In s.heap)(I:IsA x C s.heap)(hm:mroIn K C (.type "object")=some true)
  (h:R (.ok (.ret (.ref C))) s):codeAny (model prog w) A (.call (.builtin "getset_descriptor.__get__") ⟨[.builtin "object.__class__",.ref x,tp],[]⟩) R s:=by
 obtain⟨hh,g,dr,t,os⟩:=s;have L0:=I.type (M:=model prog w);have L1:=looks_mroIn (M:=model prog w) X hm;refine codeAny_call_builtin KF.slot_gs.plain KF.entry_gs (KF.slot_gs.check _ _ _ _ _ _ _ _ KF.type_class (KF.args_gs _ _ _) ?_);unfold Builtin.«getset_descriptor.__get__» Builtin.Getset_descriptor.descrGet;rw[dga_obj];refine Za (Zg ?_);unfold Builtin.Getset_descriptor.descrGetter Builtin.Getset_descriptor.descrCheckInstance Builtin.Getset_descriptor.descrNameAndClass isInstance;simp only[KF.owner_class]
 repeat lk
 refine⟨Code.quiet_builtin _ (by decide+kernel),codeAny_builtin KF.entry_class ?_⟩;unfold Builtin.«object.__class__» shownTypeOf
 repeat lk
 exact h
structure ExcC (K:Fg)(C:Addr):Prop where
 cls:∃cd,clsIn K C=some cd
 ga:findIn K (.ref C) "__getattribute__"=some (some (.builtin "BaseException.__getattribute__"))
 gn:findIn K (.ref C) "__getattr__"=some none
 at_:findIn K (.ref C) "__class__"=some (some (.builtin "object.__class__"))
 ob:mroIn K C (.type "object")=some true
 be:mroIn K C (.type "BaseException")=some true
 sp:specialIn K (.builtin "object.__class__") "__get__"=some (some (.builtin "getset_descriptor.__get__"))
 tk:takesIn K (.builtin "object.__class__")=some true
theorem a7g'{Q:Ov→Shared→Prop}(Z:ExcC K C)(X:K.In s.heap)(I:IsA x C s.heap)(h:Q (some (.ref C)) {s with toks:=s.toks+1}):wpAny (model prog w) A (getAttr? (.ref x) "__class__") Q E s:=by
 obtain⟨hh,g,d,t,os⟩:=s;have L0:=I.type (M:=model prog w);have L1:=looks_findIn (M:=model prog w) X Z.ga;have L2:=looks_findIn (M:=model prog w) X Z.gn
 have L3:Looks (model prog w) hh (Builtin.ObjectAttr.find (.ref x) (.ref C) "__class__") (.bind (.builtin "getset_descriptor.__get__") (.builtin "object.__class__")):=
  (looks_findIn (M:=model prog w) X Z.at_).andThen ((looks_specialIn X Z.sp).andThen
   ((show Looks (model prog w) hh (Builtin.ObjectAttr.dataDescriptor? (some (.builtin "object.__class__")) (some (.builtin "getset_descriptor.__get__"))) (some (.builtin "getset_descriptor.__get__",.builtin "object.__class__"))from(looks_takesIn (M:=model prog w) X Z.tk).andThen .now).andThen (Looks.tag .now)))
 have L4:=looks_mroIn (M:=model prog w) X Z.be;unfold getAttr? getAttrBy? getAttrBy;refine Za (wpAny_mkText (Za (wpAny_attempt (wpAny_holding (Za (L0.at (Za (L1.at ?_))))))));show wpAny _ _ (getAttrByItsOwn _ _ _ _ _ _) _ _ _;unfold getAttrByItsOwn hookBefore;refine Za ?_;show wpAny _ _ (typeLookup (.ref C) "__getattr__") _ _ _;refine L2.at ?_;refine Za (wpAny_attempt (wpAny_holding ?_));show wpAny _ _ (boundAndCalled _ _ _) _ _ _;unfold boundAndCalled;have hbd:bindSpecial (.builtin "BaseException.__getattribute__") (.ref x)=pure (.builtin "BaseException.__getattribute__",[.ref x]):=PySem.F.attr_ValueError.ga.bind _;rw[hbd];refine Za (Zg ?_);refine wpAny_call (codeAny_call_builtin PySem.F.attr_ValueError.ga.plain PySem.F.entry_bexc_ga (a7f' (s:=⟨hh,g,d,t+1,os⟩) L0 L4 ?_));unfold Builtin.«object.__getattribute__»;refine Za (Zg ?_);refine Za (Zg ?_);refine Za (L0.at (Za (L3.at ?_)));show wpAny _ _ (Builtin.ObjectAttr.bindTo _ _ _ _) _ _ _;unfold Builtin.ObjectAttr.bindTo
 repeat(any_goals (first|assumption|wp_step))
 refine isa_get (s:=⟨hh,g,d,t+1,os⟩) X I Z.ob ?_
 repeat(any_goals (first|assumption|wp_step))
theorem a8Y'(Z:ExcC K C):KitX K (.ref x) (.ref C) (IsA x C) where
 ty:=λ_ _ _ I=>I.type
 it:=λ_ _ X _=>by
  obtain⟨cdD,hcD⟩:=Z.cls;unfold clsIn at hcD;split at hcD
  ·rename_i c' d' cd' sl' ho;intro A' Q' E' s' k q;unfold isType loadHead;exact Za (wpAny_loadPart (k _ _ (X _ _ ho)) (Zg q))
  ·cases hcD
 ne:=λh tp dd its n sl X htp=>by
  obtain⟨cdD,hcD⟩:=Z.cls;refine Bool.eq_false_iff.mpr λq=>?_;have e:C=tp:=Value.ref.inj (beq_iff_eq.mp q);subst e;unfold clsIn at hcD;split at hcD
  ·rename_i c' d' cd' sl' ho;have z:=(X _ _ ho).symm.trans htp;cases z
  ·cases hcD
 ca:=λX I k=>a7g' Z X I k
end
section
variable {x:Addr}
def excO(x C:Addr):HO:=.ext (IsA x C)
theorem excO_ok(i:IsA x C h):ObjOk P w H h x (excO x C):=
 ⟨i,let⟨o,e,_⟩:=i;⟨o,e⟩,λh1 h2 ⟨o,e,c⟩ k=>⟨o,k o e,c⟩⟩
theorem a6k'{D:Value}{b:Bool}(Z:ExcC X.K C)(e:kitOne X.K (.ref C) D=some b):CallR X (.builtin "isinstance") (λxs H Q=>∃v,xs=[.ref x,v]∧RelV v D∧(∀u,RelV v u→u=D)∧H x=some (excO x C)∧Q (.bl b) H):=by
 intro pq s σ H vs us Q I r h;obtain⟨v,rfl,hr,hu,hx,q⟩:=h;cases r with
 |cons r1 r2=>
  cases r2 with
  |cons r3 r4=>cases r4;cases r1;rw[hu _ r3];obtain⟨i,_,_⟩:=(show ObjOk X.prog X.w H s.heap x (excO x C)from I.hok x _ hx);exact kia_one (a8Y' Z) I.kIn i e (λz=>nomatch z) λtk=>⟨.bl b,H,I.kept (t':=tk) λb o e=>e,rfl,q⟩
end
end Py
namespace Py
open PySem PySem.Spec PySem.SeqAt PyProof.Rows L2
def Sub(H H':Hp):Prop:=∀b o,H b=some o→H' b=some o
theorem Sub.refl:Sub H H:=λ_ _ h=>h
theorem Sub.laid{p:Addr}(s:Sub H H')(hp:H' p=none):Sub H (upd H' p o):=λb u h=>by have h2:=s b u h;rw[a0e' (λz=>by rw[z,hp]at h2;cases h2)];exact h2
theorem a6l':∀{bs:List Bool} {us:Lv},Vals (bs.map V.bl) us→us=bs.map Value.bool
 | [],_,.nil=>rfl
 |b::bs,_,.cons r t=>by rw[a6l' t,show _=Value.bool b from r];rfl
theorem a6m'(bs:List Bool)(A:Around)(s:Shared):∀y,y∈(bs.map Value.bool).toArray→EqAt A s y (.bool true) (isBoolOf true y):=λy hy=>by obtain⟨b,_,rfl⟩:=List.mem_map.mp (List.mem_toArray.mp hy);exact EqAt.bool_bool b true
theorem a8Z':MtR X "list.count" (λx xs H Q=>∃(l:Addr) (bs:List Bool),x=.ref l∧xs=[.bl true]∧H l=some (.lst (bs.map V.bl))∧Q (.int (bs.count true:Nat)) H):=by
 intro pq s σ H x xs v us Q I rx rs h;obtain⟨l,bs,rfl,rfl,hl,q⟩:=h;cases rx;cases rs with
 |cons r1 r2=>
  cases r2;cases r1;obtain⟨_,its,n,rv,ho⟩:=(show ObjOk X.prog X.w H s.heap l (.lst (bs.map V.bl))from I.hok l _ hl);rw[a6l' rv]at ho;refine call_meets PySem.F.slot_list_count ⟨_,ho,rfl⟩ PySem.F.entry_list_count (PySem.F.args_list_count_2 _ _) (list_countAt l _ n none #[] (.bool true) (isBoolOf true)) ⟨ho,a6m' bs _ _,?_⟩;have e:List.countP (isBoolOf true) (bs.map Value.bool).toArray.toList=bs.count true:=by rw[List.toList_toArray,List.countP_map];rfl
  rw[e];exact⟨.int _,H,I.kept (t':=s.toks+1) λb o e=>e,⟨_,rfl⟩,q⟩
theorem a9a':MtR X "list.index" (λx xs H Q=>∃(l:Addr) (bs:List Bool),x=.ref l∧xs=[.bl true]∧H l=some (.lst (bs.map V.bl))∧true∈bs∧bs.length<1000∧Q (.int (bs.idxOf true:Nat)) H):=by
 intro pq s σ H x xs v us Q I rx rs h;obtain⟨l,bs,rfl,rfl,hl,hm,hb,q⟩:=h;cases rx;cases rs with
 |cons r1 r2=>
  cases r2;cases r1;obtain⟨_,its,n,rv,ho⟩:=(show ObjOk X.prog X.w H s.heap l (.lst (bs.map V.bl))from I.hok l _ hl);rw[a6l' rv]at ho;have hj:bs.idxOf true<bs.length:=List.idxOf_lt_length_of_mem hm;refine call_meets PySem.F.slot_list_index ⟨_,ho,rfl⟩ PySem.F.entry_list_index (PySem.F.args_list_index_2 _ _) (list_indexAt l _ n none #[] (.bool true) (isBoolOf true) (bs.idxOf true) (by simpa using hj) (by omega) ?_ ?_) ⟨ho,a6m' bs _ _,?_⟩
  ·simp[isBoolOf]
  ·intro m hm' hlt;have:=List.not_of_lt_findIdx (p:=(· ==true)) (xs:=bs) (i:=m) hlt;simpa[isBoolOf]using this
  ·exact⟨.int _,H,I.kept (t':=s.toks+1) λb o e=>e,⟨_,rfl⟩,q⟩
def isC(y:Str):CE:=.blt .isinst [.var 0,.glob y]
def strC(y:Str):CE:=.lit (.str y)
def kindC(a b c d w v:Ls):List CS:=
 [.asg 1 (.lst false (a.map isC)),.asg 1 (.bin .Add (.var 1) (.lst false (b.map isC))),.asg 1 (.bin .Add (.var 1) (.lst false (c.map isC))),.asg 1 (.bin .Add (.var 1) (.lst false (d.map isC))),
  .ite (.bor (.bnot (isC "ValueError")) (.cmp .NotEq (.meth .count (.var 1) [.lit (.bl true)]) (.lit (.int 1)))) [.ret (.lit (.str "other"))] [],
  .asg 2 (.lst false (w.map strC)),.ret (.idx (.bin .Add (.var 2) (.lst false (v.map strC))) (.tix (.var 1) [.lit (.bl true)]))]
def kindB(st:List Stmt):Bool:=((st.drop 4).take 1).all (λs=>(vw (vs s).e0).es.length==2&&(vw (vw (vw ((vw (vs s).e0).es.tail.headD dE)).e0).e0).pos.endLine==(vw (vw ((vw (vs s).e0).es.tail.headD dE)).e0).pos.line)&&(st.length==7&&
 ((st.drop 6).take 1).all λs=>(vw (vw (vw (vs s).e0).e1).e0).pos.endLine==(vw (vw (vs s).e0).e1).pos.line)
structure KX (X:Cx)(N:Ls)(C:Addr)(bf:Str→Bool)(ys:Ls):Prop where
 n:X.N=N
 nd:N.Nodup
 len:N.length=3
 loc:∀(i:Nat) (y:Str),N[i]?=some y→X.env.scope.names.lookup y=some .local∧a2j' y=true
 fn:∀y,X.fn y=true
 isi:Gl X "isinstance"∧X.mg "isinstance"=none
 ve:Gl X "ValueError"∧X.mg "ValueError"=none
 kv:PySem.W.kitOne X.K (.ref C) (.type "ValueError")=some true
 z:ExcC X.K C
 cl:∀y∈ys,Gl X y∧(y==("__debug__":Str))=false∧∃D,X.mg y=some (.ref D)∧PySem.W.kitOne X.K (.ref C) (.ref D)=some (bf y)
section
variable {x:Addr}{ys:Ls}
theorem k_get(O:KX X N C bf ys){i:Nat}(hi:i<3):N[i]?=some (N.getD i ""):=by rw[List.getD_eq_getElem?_getD,Zh (by rw[O.len];exact hi)];rfl
theorem k_var(O:KX X N C bf ys){i:Nat}{pos:Pos}(hi:i<3):PE X (.Name (N.getD i "") pos) (tVar i):=by obtain⟨h1,h2⟩:=O.loc i _ (k_get O hi);exact a6A' (by rw[O.n];exact k_get O hi) (.inl h1) (a0v' h2).1 (a0v' h2).2
def tIs(x C:Addr)(b:Bool):TE:=λσ H Q=>σ[0]?=some (some (.ref x))∧H x=some (excO x C)∧Q (.bl b) H
theorem k_is1(O:KX X N C bf ys)(hy:y∈ys):PE X (emE (isC y) N e) (tIs x C (bf y)):=by obtain⟨g1,g2,D,g3,g4⟩:=O.cl y hy;refine weakE (a3y' (x:="isinstance") (a6k' (x:=x) O.z g4) O.isi.1 O.isi.2 (by decide+kernel) (a1n' (k_var O (by decide)) (a1n' (a5b' (v:=.ref D) g1 g3 rfl g2) a2S'))) λσ H Q h=>?_;exact⟨_,h.1,.ref D,rfl,rfl,λu r=>r,h.2.1,h.2.2⟩
theorem k_isV(O:KX X N C bf ys):PE X (emE (isC "ValueError") N e) (tIs x C true):=by refine weakE (a3y' (x:="isinstance") (a6k' (x:=x) O.z O.kv) O.isi.1 O.isi.2 (by decide+kernel) (a1n' (k_var O (by decide)) (a1n' (a7w' (v:=.ty "ValueError") O.ve.1 O.ve.2 (by decide+kernel) rfl) a2S'))) λσ H Q h=>?_;exact⟨_,h.1,.ty "ValueError",rfl,rfl,λu r=>r,h.2.1,h.2.2⟩
theorem k_isL(O:KX X N C bf ys):∀{zs:Ls} {es:Lx},(∀y∈zs,y∈ys)→PA X (emL (zs.map isC) N es) (λσ H Q=>σ[0]?=some (some (.ref x))∧H x=some (excO x C)∧Q ((zs.map bf).map V.bl) H)
 | [],es,_=>weakA a2S' λσ H Q h=>h.2.2
 |z::zs,es,hz=>by refine weakA (a1n' (k_is1 (x:=x) O (hz z Zc)) (k_isL O (es:=es.tail) λy hy=>hz y (Zb _ hy))) λσ H Q h=>?_;exact⟨h.1,h.2.1,h.1,h.2.1,h.2.2⟩
theorem a9b':∀{zs:Ls} {es:Lx},PA X (emL (zs.map strC) N es) (λσ H Q=>Q (zs.map V.str) H)
 | [],es=>weakA a2S' λσ H Q h=>h
 |z::zs,es=>weakA (a1n' (a7Z' (x:=z)) (a9b' (zs:=zs) (es:=es.tail))) λσ H Q h=>h
theorem a6n'{t t':TS}(h:PS X st t)(w:∀D σ H,t' D σ H→t D σ H):PS X st t':=λpq s σ H D I q=>h pq s σ H D I (w D σ H q)
def Mk(x C:Addr)(bs:List Bool)(σ:L2.St)(H:Hp):Prop:=σ.length=3∧σ[0]?=some (some (.ref x))∧H x=some (excO x C)∧∃p,σ[1]?=some (some (.ref p))∧H p=some (.lst (bs.map V.bl))
theorem k_set(O:KX X N C bf ys){i:Nat}{p pos:Pos}(hi:i<3)(he:PE X e te)(hn:a1z' e=true):PS X (.Assign [.Name (N.getD i "") p] e pos) (tAsg te (gName i)):=
 ps_set (by rw[O.n];exact O.nd) (by rw[O.n];exact k_get O hi) (.inl (O.loc i _ (k_get O hi)).1) he (a6j' hn) (.inl (O.fn _))
theorem k_first(O:KX X N C bf ys){a:Ls}(ha:∀y∈a,y∈ys)(hl:a.length≤1000):PS X (emS (.asg 1 (.lst false (a.map isC))) N st)
  (λD σ H=>(σ.length=3∧σ[0]?=some (some (.ref x))∧H x=some (excO x C))∧∀σ' H',Mk x C (a.map bf) σ' H'→Sub H H'→D.nx σ' H'):=
 a6n' (k_set O (by decide) (a4E' (k_isL (x:=x) O ha)) rfl) λD σ H ⟨⟨h1,h2,h3⟩,h4⟩=>⟨h2,h3,by simp;exact ZE hl (by decide),λp hp=>h4 _ _ ⟨by simp[h1],by simpa using h2,by rw[a0e' (a0c' h3 hp)];exact h3,p,by simp[h1],a0h'⟩ (Sub.refl.laid hp)⟩
theorem a9c'(O:KX X N C bf ys){a:Ls}(bs:List Bool)(ha:∀y∈a,y∈ys)(hl:bs.length+a.length≤1000):PS X (emS (.asg 1 (.bin .Add (.var 1) (.lst false (a.map isC)))) N st)
  (λD σ H=>Mk x C bs σ H∧∀σ' H',Mk x C (bs++a.map bf) σ' H'→Sub H H'→D.nx σ' H'):=
 a6n' (k_set O (by decide) (pe_op a8l' (k_var O (i:=1) (by decide)) (a4E' (k_isL (x:=x) O ha))) rfl) λD σ H ⟨⟨h1,h2,h3,p,h5,h6⟩,h4⟩=>⟨_,h5,h2,h3,by simp;exact ZE (ZE (Nat.le_add_left _ _) hl) (by decide),λq hq=>
  ⟨p,q,bs.map V.bl,(a.map bf).map V.bl,rfl,rfl,by rw[a0e' (a0c' h6 hq)];exact h6,a0h',by simp;exact ZE hl (by decide),λr hr=>by
   have hx:upd H q (.lst ((a.map bf).map V.bl)) x=some (excO x C):=by rw[a0e' (a0c' h3 hq)];exact h3
   exact h4 _ _ ⟨by simp[h1],by simpa using h2,by rw[a0e' (a0c' hx hr)];exact hx,r,by simp[h1],by rw[a0h',List.map_append]⟩ ((Sub.refl.laid hq).laid hr)⟩⟩
theorem few1(h:a0w' e=true):((backTo cpos (starEach [e] env)).all (λx=> !x.1)&&(backToKw cpos (keywordEach [] env)).all (λx=>x.1.isSome)&&decide ([e].length+([]:List Keyword).length+(if([]:List Keyword).isEmpty then 0 else 1)<30))=true:=by rw[a2H' (es:=[e]) (λx hx=>by rw[List.mem_singleton.mp hx];exact h)];rfl
theorem k_meth(O:KX X N C bf ys){id:String}{p:Pos}{j}(slot:Slot "list" name id)(hty:typeOf (.builtin id)=pure (.type "method_descriptor"))(hm:MtR X id r)(hl:(apos.endLine==cpos.line)=true):
  PE X (.Call (.Attribute (.Name (N.getD 1 "") vp) name apos) [.Constant (.bool true) j p] [] cpos) (tBM X.K "list" r (tVar 1) (tCons (L2.tC (.bl true)) tNil)):=
 pe_bm PySem.F.plainAttrs_list slot hty hm (k_var O (by decide)) (a1n' pe_bl a2S') rfl (few1 rfl) hl rfl rfl
theorem k_test(O:KX X N C bf ys)(bs:List Bool)(hb:bs.count true=1)(h2:(vw (vs st).e0).es.length=2)(hl:((vw (vw (vw ((vw (vs st).e0).es.tail.headD dE)).e0).e0).pos.endLine==(vw (vw ((vw (vs st).e0).es.tail.headD dE)).e0).pos.line)=true):
  PS X (emS (.ite (.bor (.bnot (isC "ValueError")) (.cmp .NotEq (.meth .count (.var 1) [.lit (.bl true)]) (.lit (.int 1)))) [.ret (.lit (.str "other"))] []) N st) (λD σ H=>Mk x C bs σ H∧D.nx σ H):=by
 have e:emE (.bor (.bnot (isC "ValueError")) (.cmp .NotEq (.meth .count (.var 1) [.lit (.bl true)]) (.lit (.int 1)))) N (vs st).e0=.BoolOp .Or [emE (.bnot (isC "ValueError")) N ((vw (vs st).e0).es.headD dE),emE (.cmp .NotEq (.meth .count (.var 1) [.lit (.bl true)]) (.lit (.int 1))) N ((vw (vs st).e0).es.tail.headD dE)] (vw (vs st).e0).pos:=by show Expr.BoolOp _ (_::cond ((vw (vs st).e0).es.length==2) _ _) _=_;rw[h2];rfl
 show PS X (.If (emE (.bor _ _) N (vs st).e0) (emSs [_] N _) [] _) _;rw[e];refine a6n' (ps_if (PW.pt (pw_or (pt_not (pt_val (k_isV (x:=x) O))) (pw_or1 (a7x' op_ne (k_meth O PySem.F.slot_list_count PySem.F.type_list_count a8Z' hl) pe_int rfl)))) (a6B') a3V') λD σ H ⟨⟨h1,h3,h4,p,h5,h6⟩,h7⟩=>?_;refine⟨h3,h4,true,rfl,_,h5,.inl ⟨rfl,_,.of h6⟩,p,bs,rfl,rfl,h6,rfl,?_⟩;rw[hb];exact⟨_,rfl,h7⟩
theorem k_words(O:KX X N C bf ys)(bs:List Bool){w:Ls}(hl:w.length≤1000):PS X (emS (.asg 2 (.lst false (w.map strC))) N st)
  (λD σ H=>Mk x C bs σ H∧∀σ' H',(Mk x C bs σ' H'∧∃q,σ'[2]?=some (some (.ref q))∧H' q=some (.lst (w.map V.str)))→Sub H H'→D.nx σ' H'):=
 a6n' (k_set O (by decide) (a4E' a9b') rfl) λD σ H ⟨⟨h1,h2,h3,p,h5,h6⟩,h4⟩=>⟨by simp;exact ZE hl (by decide),λq hq=>h4 _ _ ⟨⟨by simp[h1],by simpa using h2,by rw[a0e' (a0c' h3 hq)];exact h3,p,by simpa using h5,by rw[a0e' (a0c' h6 hq)];exact h6⟩,q,by simp[h1],a0h'⟩ (Sub.refl.laid hq)⟩
theorem k_ret(O:KX X N C bf ys)(bs:List Bool){w v:Ls}{r:Str}(hm:true∈bs)(hbl:bs.length<1000)(hr:(w++v)[bs.idxOf true]?=some r)(hw:w.length+v.length≤1000)
  (hl:((vw (vw (vw (vs st).e0).e1).e0).pos.endLine==(vw (vw (vs st).e0).e1).pos.line)=true):PS X (emS (.ret (.idx (.bin .Add (.var 2) (.lst false (v.map strC))) (.tix (.var 1) [.lit (.bl true)]))) N st)
  (λD σ H=>(Mk x C bs σ H∧∃q,σ[2]?=some (some (.ref q))∧H q=some (.lst (w.map V.str)))∧∀H',Sub H H'→D.rt (.str r) H'):=by
 refine a6n' (a8c' (pe_ix a5m' (pe_op a8l' (k_var O (i:=2) (by decide)) (a4E' a9b')) (k_meth O PySem.F.slot_list_index PySem.F.type_list_index a9a' hl) (λ_ _=>rfl))) λD σ H ⟨⟨⟨h1,h2,h3,p,h5,h6⟩,q,h7,h8⟩,h4⟩=>?_;refine⟨_,h7,by simp;exact ZE (ZE (Nat.le_add_left _ _) hw) (by decide),λa ha=>⟨q,a,w.map V.str,v.map V.str,rfl,rfl,by rw[a0e' (a0c' h8 ha)];exact h8,a0h',by simp;exact ZE hw (by decide),λb hb=>?_⟩⟩
 have e6:upd (upd H a (.lst (v.map V.str))) b (.lst (w.map V.str++v.map V.str)) p=some (.lst (bs.map V.bl)):=by
  have:upd H a (.lst (v.map V.str)) p=some (.lst (bs.map V.bl)):=by rw[a0e' (a0c' h6 ha)];exact h6
  rw[a0e' (a0c' this hb)];exact this
 refine⟨_,h5,.inl ⟨rfl,_,.of e6⟩,p,bs,rfl,rfl,e6,hm,hbl,b,w.map V.str++v.map V.str,_,_,rfl,rfl,.of a0h',?_,h4 _ ((Sub.refl.laid ha).laid hb)⟩;have hj:=(Ze.mp hr).1;unfold atI ixN;rw[←List.map_append];simp only[List.length_map];rw[if_pos (by omega),if_pos (by omega)];show(List.map V.str (w++v))[_]?=_;rw[ZQ,Int.toNat_natCast,hr];rfl
theorem k_kind(O:KX X N C bf ys){a b c d w v:Ls}{r:Str}{st:List Stmt}(hy:ys=a++b++c++d)(hl:ys.length<1000)(hw:w.length+v.length≤1000)(h1:(ys.map bf).count true=1)(hr:(w++v)[(ys.map bf).idxOf true]?=some r)(hk:kindB st=true):
  PSs X (emSs (kindC a b c d w v) N st) (λD σ H=>(σ.length=3∧σ[0]?=some (some (.ref x))∧H x=some (excO x C))∧∀H',Sub H H'→D.rt (.str r) H'):=by
 obtain⟨k1,k2⟩:=andB hk;obtain⟨k2,k3⟩:=andB k2;have k2:=ZT k2;obtain⟨s0,st,rfl⟩:=ZH (show st.length=6+1 from k2);obtain⟨s1,st,rfl⟩:=ZH (show st.length=5+1 from Zz k2);obtain⟨s2,st,rfl⟩:=ZH (show st.length=4+1 from Zz (Zz k2));obtain⟨s3,st,rfl⟩:=ZH (show st.length=3+1 from Zz (Zz (Zz k2)));obtain⟨s4,st,rfl⟩:=ZH (show st.length=2+1 from Zz (Zz (Zz (Zz k2))));obtain⟨s5,st,rfl⟩:=ZH (show st.length=1+1 from Zz (Zz (Zz (Zz (Zz k2)))));obtain⟨s6,st,rfl⟩:=ZH (show st.length=0+1 from Zz (Zz (Zz (Zz (Zz (Zz k2))))));have k1:((vw (vs s4).e0).es.length==2&&_)=true:=(andB (show(_&&true)=true from k1)).1;have k3:=(andB (show(_&&true)=true from k3)).1;obtain⟨k1,k4⟩:=andB k1;have hlen:a.length+b.length+c.length+d.length<1000:=by rw[hy]at hl;simpa[Nat.add_assoc]using hl
 have hm:true∈ys.map bf:=List.count_pos_iff.mp (by omega);have e0:ys.map bf=((a.map bf++b.map bf)++c.map bf)++d.map bf:=by rw[hy];simp
 refine λpq s σ H D I hq=>a0R' (k_first (x:=x) O (a:=a) (st:=s0) (λy h=>by rw[hy];simp[h]) (by omega)) (a0R' (a9c' (x:=x) O (st:=s1) (a.map bf) (λy h=>by rw[hy];simp[h]) (by simp;omega)) (a0R' (a9c' (x:=x) O (st:=s2) (a.map bf++b.map bf) (λy h=>by rw[hy];simp[h]) (by simp;omega))
  (a0R' (a9c' (x:=x) O (st:=s3) (a.map bf++b.map bf++c.map bf) (λy h=>by rw[hy];simp[h]) (by simp;omega)) (a0R' (k_test (x:=x) O (ys.map bf) (st:=s4) h1 (ZT k1) k4) (a0R' (k_words (x:=x) O (ys.map bf) (w:=w) (st:=s5) (by omega)) (a0R' (k_ret (x:=x) O (ys.map bf) (w:=w) (v:=v) (r:=r) (st:=s6) hm (by simpa using hl) hr hw k3) a3V')))))) pq s σ H D I ?_
 obtain⟨hq,hD⟩:=hq;refine⟨hq,λσ1 H1 m1 u1=>⟨m1,λσ2 H2 m2 u2=>⟨m2,λσ3 H3 m3 u3=>⟨m3,λσ4 H4 m4 u4=>?_⟩⟩⟩⟩;rw[←e0]at m4;exact⟨m4,m4,λσ5 H5 m5 u5=>⟨m5,λH6 u6=>hD H6 λb o z=>u6 b o (u5 b o (u4 b o (u3 b o (u2 b o (u1 b o z)))))⟩⟩
end
end Py
namespace Py
abbrev atA(X:Cx)(A:Around):Cx:={X with A:=A,calm:=false,xe:=λ_ _=>False}
theorem a9d'(I:L2.Inv X pq σ H s)(hf:A.frames=X.A.frames):L2.Inv (atA X A) pq σ H s:=
 ⟨⟨I.ok.mod,I.ok.kind,I.ok.glob,I.ok.blt,I.ok.above,I.ok.inj,I.ok.has,I.ok.cab,(λz=>by cases z),hf.trans I.ok.frames,I.ok.stk,I.ok.exf,I.ok.bs,I.ok.bsz,I.ok.noex,I.ok.exfs,I.ok.funs,I.ok.frf⟩,I.os,I.bare,I.base,I.loc,I.cell,I.free,I.freeC,I.pin,I.hok,I.len⟩
theorem un_at(I:L2.Inv (atA X A) pq σ H s)(ok:X.Ok):L2.Inv X pq σ H s:=⟨ok,I.os,I.bare,I.base,I.loc,I.cell,I.free,I.freeC,I.pin,I.hok,I.len⟩
def KRun(P:Program)(w:World)(K:Fg)(mg:Mg)(base:Heap)(fa:Addr)(C:Addr)(r:Str):Prop:=
 ∀(A:Around) (outer:List Env) (s:Shared) (H:Hp) (e:Addr),A.depth<recursionLimit→Env0 P w K mg base A outer s H→H e=some (excO e C)→codeAny (model P w) A (.call (.ref fa) ⟨[.ref e],[]⟩) (CR CX0 outer P w H s (λv H'=>v=.str r∧Sub H H') E0) s
structure KFx (K:Fg)(mg:Mg)(C:Addr)(bf:Str→Bool)(ys:Ls):Prop where
 kv:PySem.W.kitOne K (.ref C) (.type "ValueError")=some true
 z:ExcC K C
 cl:∀y∈ys,∃D,mg y=some (.ref D)∧PySem.W.kitOne K (.ref C) (.ref D)=some (bf y)
def kindSc(N ys:Ls)(sc:Scope):Bool:=(N.length==3&&N.all (λy=>sc.names.lookup y==some .local&&a2j' y))&&(gloB sc.names "isinstance"&&(gloB sc.names "ValueError"&&ys.all (λy=>gloB sc.names y)))
theorem a9e'{x e0:Str}{fd:FuncData}{a b c d wd v:Ls}{r:Str}
  (F:Fun K x qual st f fd) (S:FnScope N [e0] (a0d' st)) (hb:Binds K fd [e0] []) (hem:emSs (kindC a b c d wd v) N (a0o' st)=a0o' st) (hk:kindB (a0o' st)=true) (hsc:kindSc N (a++b++c++d) (a0d' st)=true)
  (kf:KFx K mg C bf (a++b++c++d)) (hi:mg "isinstance"=none) (hv:mg "ValueError"=none) (hl:(a++b++c++d).length<1000) (hw:wd.length+v.length≤1000) (h1:((a++b++c++d).map bf).count true=1) (hr:(wd++v)[((a++b++c++d).map bf).idxOf true]?=some r):
  KRun P w K mg base f C r:=by
 intro A outer s H e hdp e0' he;obtain⟨oc,od,kV,doc,pm,an,cdv,ct,osl,rfl,lk,hcd⟩:=F.ex;have KX0:K.In s.heap:=e0'.mod.kin.keeps λb o e=>(e0'.bs b o e).1;have lim:s.heap.NoLimit:=e0'.mod.nolimit.keeps λb o e=>(e0'.bs b o e).1
 have hkind:∀y∈[e0].zip [Value.ref e],(a0d' st).names.lookup y.1=some .local∨((a0d' st).names.lookup y.1=some .cell∧((cellsFrom (s.heap.objs.size+1) (a0d' st).names []).lookup y.1).isSome=true):=λ⟨n,v⟩ hy=>by
  rcases S.par n (List.of_mem_zip hy).1 with q|q
  ·exact .inl q
  ·exact .inr ⟨q,PySem.W.cellsFrom_some _ _ _ (.inl q)⟩
 refine codeAny_call_function hdp (KX0 _ _ lk) rfl S.co S.gen rfl (PySem.W.codeRec_of KX0 hcd) (hb s [.ref e] KX0 rfl _ _ _ _ ?_);refine wpAny_newFunctionEnv_cells S.kind hkind λenv he' s1 x'=>?_;subst he';refine⟨lim.keeps x'.toInCall.keep,codeAny_func ?_⟩;have I0:L2.Inv (cxOf CX0 P w K mg base N qual (a0d' st) f cdv {A with handled:=none} outer s H E0) [] (start N [.ref e]) H s1:=a4b' S rfl ⟨e0'.frames,e0'.mod,e0'.bs,e0'.bsz,e0'.funs,e0'.frf,e0'.hok,e0'.bare⟩ rfl (.cons rfl .nil) x';have I:=a9d' (A:=A.deeper (envOfC qual (a0d' st) s.heap.objs.size f cdv)) I0 rfl;obtain⟨k1,k2⟩:=andB hsc;obtain⟨k1,k3⟩:=andB k1;obtain⟨k2,k4⟩:=andB k2;obtain⟨k4,k5⟩:=andB k4;have hN:=ZT k1;have gl:∀y,gloB (a0d' st).names y=true→(a0d' st).names.lookup y=some .globalImplicit∧(y==("__debug__":Str))=false:=λy hy=>⟨(a0n' hy).1,(a0n' hy).2.1⟩
 have O:KX (atA (cxOf CX0 P w K mg base N qual (a0d' st) f cdv {A with handled:=none} outer s H E0) (A.deeper (envOfC qual (a0d' st) s.heap.objs.size f cdv))) N C bf (a++b++c++d):=
  ⟨rfl,S.nd,hN,λi y hy=>by have:=Zp.mp k3 y (Zw hy);obtain⟨q1,q2⟩:=andB this;exact⟨ZT q1,q2⟩,λ_=>rfl,⟨(gl _ k2).1,hi⟩,⟨(gl _ k4).1,hv⟩,kf.kv,kf.z,λy hy=>⟨(gl y (Zp.mp k5 y hy)).1,(gl y (Zp.mp k5 y hy)).2,kf.cl y hy⟩⟩
 have ht:=k_kind (x:=e) O (st:=a0o' st) rfl hl hw h1 hr hk;rw[hem]at ht;refine ZV (ht [] s1 (start N [.ref e]) H {nx:=λ_ _=>False,rt:=λv H'=>v=.str r∧Sub H H'} I ⟨⟨by simp[L2.start,hN],by simp[L2.start],he⟩,λH' h'=>⟨rfl,h'⟩⟩) (λfl s' hs=>?_) λe s' hs=>hs.elim;cases fl with
 |ret u=>obtain⟨v,σ',H',J,rv,q⟩:=hs;exact⟨v,H',J.os,J.bare,J.base,J.hok,rv,q⟩
 |next=>obtain⟨_,_,_,q⟩:=hs;exact False.elim q
 |brk=>obtain⟨_,_,_,q⟩:=hs;exact False.elim q
 |cont=>obtain⟨_,_,_,q⟩:=hs;exact False.elim q
section
variable {e T:Addr}{B:Heap}
theorem a7V'(I:L2.Inv X pq σ H s)(I2:L2.Inv X pq σ H' s2)(he:s.heap.get? e=none∧s.heap.get? T=none)(He:H' e=none∧H' T=none)(hB:∀b o,s2.heap.get? b=some o→b∉frs X.stack→b≠e→b≠T→B.get? b=some o)(st:B.StaysIn h3)(up:s2.heap.UpToSlots h3)
  (hex:X.ex=[]) (hst:X.stack=X.env::X.outer):L2.Inv X pq σ H' {s2 with heap:=h3,toks:=tk}:=by
 have keepB:∀b o,s2.heap.get? b=some o→b∉frs X.stack→b≠e→b≠T→h3.get? b=some o:=λb o h1 h2 h3 h4=>st b o (hB b o h1 h2 h3 h4);have hfr:∀b,b∈frs X.stack→∃o,s2.heap.get? b=some o∧∀vs,o.data≠.fields vs:=λb hb=>(I2.stack.mem hb).2;have hfree:∀b∈frs X.stack,H' b=none:=I2.stkFree;have U:=I2.base;rw[hex]at U;have old1:∀b o,s.heap.get? b=some o→b≠e∧b≠T:=λb o h1=>⟨λz=>(by rw[z,he.1]at h1;cases h1),λz=>(by rw[z,he.2]at h1;cases h1)⟩
 have old:∀b o,X.s₀.heap.get? b=some o→b≠e∧b≠T:=λb o h1=>by obtain⟨o',h2⟩:=I.base.there b o h1 (by rw[hex];simp);exact old1 b o' h2
 have nl:∀b o,X.s₀.heap.get? b=some o→b∉frs X.outer→b∉frs X.stack:=λb o h1 h2 h3=>by
  rcases Zo.mp (I2.stkSub b h3)with z|z
  ·have:=Zk h1;rw[z]at this;exact absurd this (Nat.not_lt.mpr I2.ok.above)
  ·exact h2 z
 have sub:∀b∈frs X.outer,b∈frs X.stack:=λb hb=>by rw[hst];obtain⟨en,h1,h2⟩:=List.mem_filterMap.mp hb;exact List.mem_filterMap.mpr ⟨en,Zb _ h1,h2⟩
 have there:∀b o,s2.heap.get? b=some o→b≠e→b≠T→∃o',h3.get? b=some o':=λb o h1 h2 h3=>by
  by_cases hb:b∈frs X.stack
  ·obtain⟨o1,h4,h5⟩:=hfr b hb;obtain⟨sl,h6⟩:=up b o1 h4 h5;exact⟨_,h6⟩
  ·exact⟨o,keepB b o h1 hb h2 h3⟩
 have tracked:∀b u,H' b=some u→b∉frs X.stack∧b≠e∧b≠T:=λb u h1=>
  ⟨λz=>(by rw[hfree b z]at h1;cases h1),λz=>(by rw[z,He.1]at h1;cases h1),λz=>(by rw[z,He.2]at h1;cases h1)⟩
 have hok:HOk X.prog X.w H' h3:=λa o ea=>(I2.hok a o ea).stay (λb u hb h1=>by
  have hb':∃u,H' b=some u:=by rcases hb with rfl|hb<;>exact⟨_,by assumption⟩
  obtain⟨u',hu⟩:=hb';obtain⟨t1,t2,t3⟩:=tracked b u' hu;exact keepB b u h1 t1 t2 t3) (λ_ q=>q) λ_ _ q=>q
 have cellK:∀c v,s2.heap.IsCell c v→h3.IsCell c v:=λc v ⟨o,h1,h2⟩=>by obtain⟨sl,h4⟩:=up c o h1 (λvs q=>by rw[h2]at q;cases q);exact⟨_,h4,h2⟩
 obtain⟨m,hm,hl⟩:=I2.loc;refine⟨I2.ok,I2.os,I2.bare,?_,⟨m,up.ns hm,λi x v h1 h2 h3=>?_⟩,λx c h1=>?_,I2.free,I2.freeC,λp hp=>?_,hok,I2.len⟩
 ·rw[hex];refine⟨λb o h1 h2 h3 h4=>keepB b o (U.keep b o h1 h2 h3 h4) (nl b o h1 h3) (old b o h1).1 (old b o h1).2,λb o h1 h2 h3 h4=>?_,U.free,λb o h1 h2=>?_,U.tups,U.frzs,U.tbls⟩
  ·obtain⟨sl,h5⟩:=U.slot b o h1 h2 h3 h4;obtain⟨o1,h6,h7⟩:=hfr b (sub b h3);rw[h5]at h6;cases h6;obtain⟨sl',h8⟩:=up b _ h5 h7;exact⟨sl',h8⟩
  ·obtain⟨o',h5⟩:=U.there b o h1 h2;exact there b o' h5 (old b o h1).1 (old b o h1).2
 ·obtain⟨u,r,q⟩:=hl i x v h1 h2 h3;refine⟨u,r,?_⟩;rcases q with⟨k,z⟩| ⟨k,c,z1,z2⟩
  ·exact .inl ⟨k,z⟩
  ·exact .inr ⟨k,c,z1,cellK c _ z2⟩
 ·obtain⟨v,hv⟩:=I2.cell x c h1;exact⟨v,cellK c v hv⟩
 ·obtain⟨p1,p2,p3,p4,p5⟩:=I2.pin p hp;have q1:=(I.pin p hp).1;refine⟨keepB p.1 p.2 p1 (λz=>?_) (old1 _ _ q1).1 (old1 _ _ q1).2,p2,p3,p4,p5⟩;rcases Zo.mp (I2.stkSub p.1 z)with z|z
  ·exact p3 z
  ·exact p4 z
theorem a7h'{vs:Av}{oe:Obj}(I:L2.Inv X pq σ H s)(hex:X.ex=[])(h0:X.s₀.heap.get? e=none)(hp:∀p∈X.pn++pq,p.1≠e)(He:H e=none)(ho:s.heap.get? e=some oe)(hc:oe.cls=.ref C)(hd:oe.data=.fields vs):
  L2.Inv X pq σ (upd H e (excO e C)) s:=by
 obtain⟨m,hm,hl⟩:=id I.loc;have ne:∀b,H b≠none→b≠e:=λb hb z=>hb (by rw[z];exact He);refine⟨I.ok,I.os,I.bare,?_,I.loc,I.cell,?_,λx c h1=>?_,λp hq=>?_,λb u hb=>?_,I.len⟩
 ·have U:=I.base;refine⟨U.keep,U.slot,λb o h1 h2 h3=>?_,U.there,λb xs h1=>?_,λb o u h1=>?_,λb ps h1=>?_⟩
  ·rw[a0e' (λz=>by rw[z,h0]at h1;cases h1)];exact U.free b o h1 h2 h3
  ·have:=U.tups b xs h1;rw[a0e' (ne b (by rw[this];simp))];exact this
  ·have:=U.frzs b o u h1;rw[a0e' (ne b (by rw[this];simp))];exact this
  ·obtain⟨m,this⟩:=U.tbls b ps h1;exact⟨m,by rw[a0e' (ne b (by rw[this];simp))];exact this⟩
 ·obtain⟨o,es,ep,h1,h2,_⟩:=hm;rw[a0e' (λz=>by rw[z,ho]at h1;cases h1;rw[hd]at h2;cases h2)];exact I.free
 ·obtain⟨v,o,h2,h3⟩:=I.cell x c h1;rw[a0e' (λz=>by rw[z,ho]at h2;cases h2;rw[hd]at h3;cases h3)];exact I.freeC x c h1
 ·obtain⟨p1,p2,p3⟩:=I.pin p hq;exact⟨p1,by rw[a0e' (hp p hq)];exact p2,p3⟩
 ·by_cases hb':b=e
  ·subst hb';rw[a0h']at hb;cases hb;exact excO_ok ⟨oe,ho,hc⟩
  ·rw[a0e' hb']at hb;exact(I.hok b u hb).stay (λ_ _ _ q=>q) (λc q=>by rw[a0e' (ne c (by rw[q];simp))];exact q) λc xs q=>by rw[a0e' (ne c (by rw[q];simp))];exact q
theorem a9f'{m':Mg}(I:L2.Inv X pq σ H s)(hn:h3.Ns X.env.locals m')(hs:Heap.SameBut X.env.locals s.heap h3):L2.Inv X pq (List.replicate X.N.length none) H {s with heap:=h3,toks:=tk}:=by
 obtain⟨m,hm,_⟩:=id I.loc;obtain⟨oL,_,_,hoL,_⟩:=id hm;have low:∀b o,X.s₀.heap.get? b=some o→b≠X.env.locals:=λb o e=>ZK (Zv (Zk e) I.ok.above);refine⟨I.ok,I.os,I.bare,⟨λb o e n hb hx=>(hs.2 b (low b o e)).trans (I.base.keep b o e n hb hx),λb o e n hb hx=>?_,I.base.free,λb o e hx=>?_,I.base.tups,I.base.frzs,I.base.tbls⟩,⟨m',hn,λj y v' e1 e2 e3=>?_⟩,λy c e=>?_,I.free,I.freeC,λp hp=>?_,λb ob eb=>?_,by simp⟩
 ·obtain⟨sl,e1⟩:=I.base.slot b o e n hb hx;exact⟨sl,(hs.2 b (low b o e)).trans e1⟩
 ·obtain⟨o',e1⟩:=I.base.there b o e hx;exact⟨o',(hs.2 b (low b o e)).trans e1⟩
 ·rw[List.getElem?_replicate]at e2;split at e2<;>cases e2
 ·obtain⟨v,o,h1,h2⟩:=I.cell y c e;exact⟨v,o,(hs.2 c (I.cne y c e)).trans h1,h2⟩
 ·obtain⟨p1,p2,p3,p4⟩:=I.pin p hp;exact⟨(hs.2 _ p3).trans p1,p2,p3,p4⟩
 ·refine(I.hok b ob eb).stay (λc w' hc q=>(hs.2 c ?_).trans q) (λ_ q=>q) λ_ _ q=>q;rintro rfl;rcases hc with rfl|hc
  ·rw[I.free]at eb;cases eb
  ·rw[I.free]at hc;cases hc
end
section
variable {n:Str}{i:Nat}
theorem pe_kind{x:Addr}{r:Str}{np pos:Pos}(KR:KRun X.prog X.w X.K X.mg X.base fa C r)(hdp:A.depth<recursionLimit)(hg:Gl X y)(hm:X.mg y=some (.ref fa))(hk:PySem.W.keepIn X.K (.ref fa)=true)(hdb:(y==("__debug__":Str))=false)
  (hn:X.N[i]?=some n) (hl:X.env.scope.names.lookup n=some .local) (hp:a2j' n=true):PE (atA X A) (.Call (.Name y np) [.Name n vp] [] pos) (λσ H Q=>(σ[i]?=some (some (.ref x))∧H x=some (excO x C))∧∀H',Sub H H'→Q (.str r) H'):=by
 intro pq s σ H Q I h;refine wpAny_Call_Name_kw (a2p' I hg hm ?_ hdb);refine PySem.W.callWith_K (h₀:=X.base) I.ok.mod.kin hk (thn ((a1n' (a6A' (X:=atA X A) hn (.inl hl) (a0v' hp).1 (a0v' hp).2) a2S') pos pq s σ H (λxs H1=>xs=[.ref x]∧H1=H) I ⟨_,h.1.1,rfl,rfl⟩) λus s1 ⟨vs,H1,I1,rr,q1,q2⟩=>⟨I1.kIn,?_⟩) rfl rfl;subst q1 q2;cases rr with
 |cons r1 r2=>
  cases r2;cases r1;refine wpAny_call (codeAny_mono (KR A X.stack s1 H1 x hdp I1.env0 h.1.2) λrs s' hq=>?_);cases rs with
  |error e=>exact False.elim hq
  |ok fl=>
   cases fl with
   |ret u=>obtain⟨v,H2,I2,r2,e2,u2⟩:=I1.after hq;subst e2;exact⟨_,H2,I2,r2,h.2 H2 u2⟩
   |next=>exact False.elim hq
   |brk=>exact False.elim hq
   |cont=>exact False.elim hq
def EH(X:Cx)(fa pa:Addr)(D:Ends):XK:=λcls _ H'=>∃C r,cls=.ref C∧KRun X.prog X.w X.K X.mg X.base fa C r∧PySem.W.exmOne X.K (.ref C) (.ref pa)=some true∧∀H'',Sub H' H''→D.rt (.str r) H''
structure TryF (X:Cx)(pe n y:Str)(i:Nat)(fa pa:Addr):Prop where
 ex:X.ex=[]
 st:X.stack=X.env::X.outer
 fr:X.env.frame=some X.env.locals
 dp:X.A.depth<recursionLimit
 gp:Gl X pe∧X.mg pe=some (.ref pa)∧(pe==("__debug__":Str))=false
 gy:Gl X y∧X.mg y=some (.ref fa)∧(y==("__debug__":Str))=false
 kp:PySem.W.keepIn X.K (.ref fa)=true
 nd:X.N.Nodup
 at_:X.N[i]?=some n
 nl:X.env.scope.names.lookup n=some .local
 np:a2j' n=true
 fn:X.fn n=true
def xeH(X:Cx)(pq:Lp)(D:Ends)(h:ExceptHandler):Vs:=λe s₁=>wpAny (model X.prog X.w) X.A (noteFrame e X.env) (λ_ s₂=>wpAny (model X.prog X.w) X.A (setFlight e none) (λ_ s₃=>wpAny (model X.prog X.w) X.A (handleBy e X.env [h]) (SP X pq D) X.xe s₃) X.xe s₂) X.xe s₁
theorem handled{e T:Addr}{a0:Value}{B:Heap}{D:Ends}{tp np cp rp hp:Pos}(Z:TryF X pe n y i fa pa)(I:L2.Inv X pq σ H s)(I2:L2.Inv X pq σ H' s2)(he:s.heap.get? e=none∧s.heap.get? T=none)(He:H' e=none∧H' T=none)
  (hB:∀b o,s2.heap.get? b=some o→b∉frs X.stack→b≠e→b≠T→B.get? b=some o)  (fl:Heap.FlyingW B X.stack e cls a0 h3) (up:s2.heap.UpToSlots h3) (q:EH X fa pa D cls none H'):
  wpAny (model X.prog X.w) X.A (handleBy (.ref e) X.env [hnd pe n y tp np vp cp rp hp]) (SP X pq D) X.xe {s2 with heap:=h3}:=by
 obtain⟨C,r,rfl,KR,hm,hD⟩:=q
 have h0:X.s₀.heap.get? e=none:=by
  cases hq:X.s₀.heap.get? e with
  |none=>rfl
  |some o=>obtain⟨o',h10⟩:=I.base.there e o hq (by rw[Z.ex];simp);rw[he.1]at h10;cases h10
 have I3:L2.Inv X pq σ H' {s2 with heap:=h3,toks:=s2.toks}:=a7V' I I2 he He hB fl.1 up Z.ex Z.st;have hfr:(X.A.mark (some (.ref e))).frames=X.A.frames:=rfl;unfold hnd;refine wpAny_handleBy_cons (codeAny_handlers_test ?_) (by intro q;cases q);refine a2p' (X:=atA X (X.A.mark (some (.ref e)))) (a9d' I3 hfr) Z.gp.1 Z.gp.2.1 ?_ Z.gp.2.2
 have LT:PySem.W.Looks (model X.prog X.w) h3 (typeOf (.ref e)) (.ref C):=by obtain⟨ob,h1,h2⟩:=fl.there;exact h2▸(PySem.W.Looks.ld h1).andThen .now
 refine(PySem.W.exm_one (M:=model X.prog X.w) I3.kIn LT hm).here ?_;refine codeAny_handlers_suite_as ?_;refine lands_againW (s:={s2 with heap:=h3}) fl λh4 fl4 up4=>?_;have I4:L2.Inv X pq σ H' {s2 with heap:=h4,toks:=s2.toks}:=a7V' I I2 he He hB fl4.1 (up.trans up4) Z.ex Z.st;obtain⟨oe,vs,g1,g2,g3,_⟩:=fl4.first
 have pn:∀p∈X.pn++pq,p.1≠e:=λp hp z=>by have:=(I.pin p hp).1;rw[z,he.1]at this;cases this
 have I5:=a9d' (A:=X.A.mark (some (.ref e))) (a7h' I4 Z.ex h0 pn He.1 g1 g2 g3) hfr;refine a3x' (X:=atA X (X.A.mark (some (.ref e)))) I5 Z.nd Z.at_ (.inl Z.nl) (v:=.ref e) rfl (λs6 I6=>?_) (.inl Z.fn);have hs:PSs (atA X (X.A.mark (some (.ref e)))) [.Return (some (.Call (.Name y np) [.Name n vp] [] cp)) rp] _:=a0R' (a8c' (pe_kind (x:=e) KR Z.dp Z.gy.1 Z.gy.2.1 Z.kp Z.gy.2.2 Z.at_ Z.nl Z.np)) a3V';refine ZV (hs pq s6 _ _ {nx:=λ_ _=>False,rt:=λv H6=>v=.str r∧Sub (upd H' e (excO e C)) H6} I6 ⟨⟨by rw[ZM (by rw[I3.len];exact(Ze.mp Z.at_).1)],a0h'⟩,λH6 h6=>⟨rfl,h6⟩⟩) (λf s7 h7=>?_) λ_ _ z=>z.elim;cases f with
 |ret u=>obtain⟨v,σ7,H7,I7,r7,rfl,u7⟩:=h7;obtain⟨m7,hm7,_⟩:=I7.loc;refine wpAny_nameGoes (env:=X.env) Z.nl hm7 (by rw[I.ok.kind];rfl) λh8 m8 n8 s8=>?_;refine⟨_,_,H7,a9f' (un_at I7 I.ok) n8 s8,r7,hD H7 λb o hb=>u7 b o ?_⟩;rw[a0e' (λz=>by rw[z,He.1]at hb;cases hb)];exact hb
 |next=>obtain⟨_,_,_,z⟩:=h7;exact z.elim
 |brk=>obtain⟨_,_,_,z⟩:=h7;exact z.elim
 |cont=>obtain⟨_,_,_,z⟩:=h7;exact z.elim
end
abbrev XB(X:Cx)(pq:Lp)(D:Ends)(h:ExceptHandler):Cx:={X with xe:=xeH X pq D h,pn:=X.pn++pq}
section
variable {D:Ends}{h:ExceptHandler}
theorem okB(ok:X.Ok):(XB X pq D h).Ok:=⟨ok.mod,ok.kind,ok.glob,ok.blt,ok.above,ok.inj,ok.has,ok.cab,ok.hd,ok.frames,ok.stk,ok.exf,ok.bs,ok.bsz,ok.noex,ok.exfs,ok.funs,ok.frf⟩
theorem ok_of(ok:(XB X pq D h).Ok):X.Ok:=⟨ok.mod,ok.kind,ok.glob,ok.blt,ok.above,ok.inj,ok.has,ok.cab,ok.hd,ok.frames,ok.stk,ok.exf,ok.bs,ok.bsz,ok.noex,ok.exfs,ok.funs,ok.frf⟩
theorem invB(I:L2.Inv X pq σ H s):L2.Inv (XB X pq D h) [] σ H s:=⟨okB I.ok,I.os,I.bare,I.base,I.loc,I.cell,I.free,I.freeC,λp hp=>I.pin p (by simpa using hp),I.hok,I.len⟩
theorem a4Q'(I:L2.Inv (XB X pq D h) pins' σ H s):L2.Inv X pq σ H s:=⟨ok_of I.ok,I.os,I.bare,I.base,I.loc,I.cell,I.free,I.freeC,λp hp=>I.pin p (ZG _ hp),I.hok,I.len⟩
theorem sp_of_B{f:Flow}(q:SP (XB X pq D h) pins' D f s):SP X pq D f s:=by
 cases f with
 |next=>obtain⟨σ',H',I,q⟩:=q;exact⟨σ',H',a4Q' I,q⟩
 |brk=>obtain⟨σ',H',I,q⟩:=q;exact⟨σ',H',a4Q' I,q⟩
 |cont=>obtain⟨σ',H',I,q⟩:=q;exact⟨σ',H',a4Q' I,q⟩
 |ret u=>obtain⟨v,σ',H',I,r,q⟩:=q;exact⟨v,σ',H',a4Q' I,r,q⟩
theorem ownB_:PassesOwn (model X.prog X.w) X.A X.env (XB X pq D h).xe:=PassesOwn.looking
variable {n:Str}{i:Nat}{tp np cp rp hp:Pos}
theorem passB(Z:TryF X pe n y i fa pa):a5i' (CX1 X.prog X.w) (XB X pq D (hnd pe n y tp np vp cp rp hp)) (EH X fa pa D):=by intro pins' σ H s v s2 I' c;have I:=a4Q' I';obtain⟨e,cls,H',rfl,I2,q,f⟩:=a7U' I c Z.ex;obtain⟨T,a0,n1,n2,fw⟩:=a3m' f I2.stack;show xeH X pq D _ (.ref e) s2;unfold xeH;refine wpAny_looks_onW (by rw[I.ok.frames,Z.st]) Z.fr (Z.st▸fw) λh3 held up=>?_;refine wpAny_landsW (s:={s2 with heap:=h3}) held λh4 fl4 up4=>?_;exact handled (s2:=s2) (B:=PySem.W.hideAll s2.heap (e::T::frs X.stack)) (a0:=a0) Z I I2 n1 n2 a7T' (Z.st▸fl4) (up.trans up4) q
theorem madeB(Z:TryF X pe n y i fa pa){e:Addr}(I':L2.Inv (XB X pq D (hnd pe n y tp np vp cp rp hp)) pins' σ H s)(m:Heap.MadeExcOf s.heap h2 e (.ref C) args)(q:EH X fa pa D (.ref C) none H):(XB X pq D (hnd pe n y tp np vp cp rp hp)).xe (.ref e) {s with heap:=h2}:=by
 have I:=a4Q' I';show xeH X pq D _ (.ref e) _;unfold xeH;obtain⟨t,he,htn,ht⟩:=m.there;have hin:∀env∈X.env::X.outer,∀a,env.frame=some a→a∈frs (X.env::X.outer):=λenv he a ha=>List.mem_filterMap.mpr ⟨env,he,ha⟩
 have fre:∀b,s.heap.get? b=none→(PySem.W.hideAll s.heap (frs X.stack)).get? b=none:=λb hb=>by
  cases hq:(PySem.W.hideAll s.heap (frs X.stack)).get? b with
  |none=>rfl
  |some o'=>have:=PySem.W.of_hideAll _ hq;rw[hb]at this;cases this
 have nH:H e=none:=by
  cases hq:H e with
  |none=>rfl
  |some u=>obtain⟨o,ho⟩:=a8X' (I.hok e u hq);rw[m.new]at ho;cases ho
 have hff:s.heap.FunFrames (PySem.W.hideAll s.heap (frs X.stack)) (X.env::X.outer):=PySem.W.funFrames_hide (Z.st▸I.stack) (by rw[Z.st];exact hin);unfold noteFrame;simp only[Z.fr];refine Za (ZX he rfl (x:=.none) rfl ?_);rw[if_neg (by decide)];refine wpAny_entryW (base:=PySem.W.hideAll s.heap (frs X.stack)) (a0:=.ref t) (by rw[I.ok.frames,Z.st]) (hff.of_keeps λb o hb _=>⟨o,m.keeps b o hb,rfl⟩) Z.fr he (λb o hb=>m.keeps b o (PySem.W.of_hideAll _ hb)) (fre e m.new) rfl (show 1<6 by decide) rfl λh3 nt=>?_;obtain⟨k1,k2,k3,k4⟩:=nt;refine wpAny_landsW (base:=PySem.W.hideAll s.heap (frs X.stack)) (l:=X.env::X.outer) (L:=X.env.locals) (cls:=.ref C) (a0:=.ref t) ⟨k1,fre e m.new,k2,k3⟩ λh4 fl4 up4=>?_;exact handled (s2:=s) (T:=e) (B:=PySem.W.hideAll s.heap (frs X.stack)) (a0:=.ref t) Z I I ⟨m.new,m.new⟩ ⟨nH,nH⟩ (λb o h1 h2 _ _=>PySem.W.hideAll_get _ h1 h2) (Z.st▸fl4) (((Heap.UpToSlots.of_keeps m.keeps).trans k4).trans up4) q
theorem try_ok{body:List Stmt}{pos:Pos}{t:TS}(I:L2.Inv X pq σ H s)(hb:PSs (XB X pq D (hnd pe n y tp np vp cp rp hp)) body t)(h:t D σ H):
  wpAny (model X.prog X.w) X.A (exec (.Try body [hnd pe n y tp np vp cp rp hp] [] [] pos) X.env) (SP X pq D) X.xe s:=by
 refine wpAny_Try_except (ZV (hb [] s σ H D (invB I) h) (λf s1 q=>?_) λe s1 q=>q);have q:=sp_of_B q;cases f with
 |next=>obtain⟨σ',H',I',q⟩:=q;exact wpAny_execs_nil ⟨σ',H',I',q⟩
 |brk=>exact q
 |cont=>exact q
 |ret u=>exact q
end
inductive Rz where
 |cls (x:Str)|kind (f:Str) (ys ws:Ls)
 deriving DecidableEq
mutual
def rzS:CS→List Rz
 | .raise_ x _=>[.cls x]
 | .tryK _ body f ys ws=>.kind f ys ws::rzSs body
 | .ite _ a b=>rzSs a++rzSs b
 | .for_ _ _ body=>rzSs body
 | .while_ _ _ body=>rzSs body
 |_=>[]
def rzSs:List CS→List Rz
 | []=>[]
 |c::cs=>rzS c++rzSs cs
end
def XC(P:Program)(w:World)(K:Fg)(mg:Mg):Rz→Prop
 | .cls x=>∃C,mg x=some (.ref C)∧PySem.W.excIn K C bmVE "ValueError.__new__"=true
 | .kind f ys ws=>∃fa pa,mg f=some (.ref fa)∧PySem.W.keepIn K (.ref fa)=true∧mg "PairError"=some (.ref pa)∧
   ∀x r,(ys.zip ws).lookup x=some r→∀v,mg x=some v→∃C,v=.ref C∧PySem.W.exmOne K (.ref C) (.ref pa)=some true∧∀base,KRun P w K mg base fa C r
theorem own_in{x:Str}(X:K.In h)(e:mg x=some (.ref C))(q:PySem.W.excIn K C bmVE "ValueError.__new__"=true):OwnCls x C bmVE "ValueError.__new__" mg h:=by
 refine⟨e,?_⟩;unfold PySem.W.excIn at q;split at q
 ·rename_i dd cd sl ho;split at q
  ·rename_i C' bm k0 k1 k2 k3 n k5 hm hs;simp only[ZA,beq_iff_eq,Bool.not_eq_true']at q;obtain⟨⟨⟨⟨⟨rfl,rfl⟩,hdel⟩,ht⟩,hok⟩,hni⟩:=q;obtain⟨nm,bs,mro,ns,qn,hd,sn,sub,ab,col,del⟩:=cd;dsimp only at hm hdel hok hni;subst hm hdel;have hsl:sl= #[k0,k1,k2,k3,some (.builtin "ValueError.__new__"),k5]:=by obtain⟨l⟩:=sl;simp only at hs;rw[hs]
   subst hsl;exact⟨bm,ns,nm,qn,bs,hd,sn,sub,ab,col,dd,k0,k1,k2,k3,k5,_,X _ _ ho,.of_isNs (PySem.W.isNs_of_in X hok),PySem.W.nsMap_none_of_in X hok hni,PySem.W.tail_of_in X ht⟩
  ·cases q
 ·cases q
theorem Sub.ext(s:Sub H H'):Ext μ H μ H':=⟨⟨[],by simp⟩,λa o h _=>s a o h,λa o h=>⟨o,s a o h⟩,λ_ h=>.inl h⟩
theorem Sub.sok{mg:GS}(s:Sub H H')(k:SOk K mg μ S H):SOk K mg μ S H':=
 ⟨λa h=>let⟨o,e⟩:=k.live a h;⟨o,s a o e⟩,k.len,k.nd,λn a ds h1 h2=>let⟨vs,e,r⟩:=k.at_ n a ds h1 h2;⟨vs,s a _ e,RepL.mono s.ext _ _ r⟩⟩
structure YOk (X:Cx)(N:Ls)(sc:Sc)(CX:CXT)(E:XK)(Φ:FT)(Γ:Str→Option D)(k:Nat):Prop where
 x:XOk X (λ_=>true) N sc CX E Φ Γ k
 own:PassesOwn (model X.prog X.w) X.A X.env X.xe
 cx:CX=CX1 X.prog X.w
 fr:X.ex=[]∧X.stack=X.env::X.outer∧X.env.frame=some X.env.locals
 made:∀(pq:Lp) (σ:L2.St) (H:Hp) (s:Shared) (h2:Heap) (e C:Addr) (args:Lv),L2.Inv X pq σ H s→Heap.MadeExcOf s.heap h2 e (.ref C) args→E (.ref C) none H→X.xe (.ref e) {s with heap:=h2}
section
variable {E:XK}{pos:Pos}
theorem fm_lt{α β:Type}{f:α→Option β}{x:α}(h:f x=none):∀{l:List α},x∈l→(l.filterMap f).length<l.length
 | [],hx=>by cases hx
 |y::l,hx=>by
  rcases Zo.mp hx with rfl|hx
  ·rw[List.filterMap_cons_none h];exact Nat.lt_succ_of_le (List.length_filterMap_le _ _)
  ·have:=fm_lt h hx;have h2:=List.length_filterMap_le f [y];rw[show y::l=[y]++l from rfl,List.filterMap_append,ZI,ZI];simp at h2⊢;omega
theorem sws_tup{v:Expr}(hs:env.scope.names=sc)(h1:isTup tg=true)(h2:(foldB v||cellB sc tg)=true):swappedStores [tg] v env=pure none:=by
 cases tg<;>first| (cases h1;done)|skip
 cases v<;>first|rfl|skip
 rename_i ts _ _ us _ _;unfold swappedStores;simp only[];split
 ·rfl
 ·split
  ·rfl
  ·split
   ·rfl
   ·rename_i hn;rcases Bool.or_eq_true_iff.mp h2 with h|h
    ·have h:(List.all us (foldedForSure 8))=true:=h
     first|rfl|rw[if_pos h]
    ·exfalso
     have h:(ts.any λx=>match x with
      | .Name id _=>sc.lookup id==some .cell
      |_=>false)=true:=h
     obtain⟨x,hx,hc⟩:=List.any_eq_true.mp h;refine hn ?_
     have hl:=fm_lt (f:=λx=>match x with
      |Expr.Name id pos=>if env.kindOf id==some .local&&pos.line==(ts.head?.map (·.pos.line)).getD 0 then some id else none
      |_=>none) (x:=x) (by
       cases x<;>first|rfl|skip
       rename_i id pos;have hc:(sc.lookup id==some .cell)=true:=hc
       have e:env.kindOf id=some .cell:=by show env.scope.names.lookup id=_;rw[hs];exact ZT hc
       show(if(env.kindOf id==some .local&&_)=true then _ else _)=none;rw[e];rfl) hx
     rw[Bool.or_eq_true];exact .inl (bne_iff_ne.mpr (ZK hl))
theorem a9g'(h1:isTup tg=true):(assignEach [tg] env).map (·.2)=[assign tg env]:=by cases tg<;>first|rfl|cases h1
theorem sole{t v:Expr}(h:swapsWith v (some t) line env=pure false):swapsWithSole [t] v line env=pure false:=h
theorem asg_sub{o i:Expr}{p:Pos}(h:a0X' i=true):∀v,assign (.Subscript o i p) env v=(do
   let ov ←holding [v] (eval o env)
   let iv ←holding [v,ov] (eval i env)
   standAt p
   holding [v,ov,iv] (setItem ov iv v)
   release [v,ov,iv] []):=by
 intro v;cases i<;>first|rfl|cases h
theorem s_asgT(O:XOk X (λ_=>true) N sc CX E Φ Γ k){t:CT}{e:CE}{v:Expr}(h1:isTup (emT t N tg)=true)(h2:(foldB v||cellB sc (emT t N tg))=true)(h3:a1z' v=true)(h4:sdT (λ_=>true) N sc t=true)(h5:PE X v (tE X.K X.mg E Φ Γ e)):PS X (.Assign [emT t N tg] v pos) (tS X.K X.mg E Φ Γ (.asgT t e)):=
 weakS (ps_asg h5 (g_pg O h4) (a6j' h3) (sws_tup O.sc h1 h2) (a9g' h1)) λD σ H zz=>ex43 zz λF μ ρ S sk en w=>by
  simp only[denS]at w;refine⟨F,μ,ρ,S,sk,en,(WantS.bind w).mono λv H1 zz=>ex34 zz λμ1 S1 d x1 s1 r1 w1=>?_⟩;cases ea:asgCT t d ρ with
  |none=>rw[ea]at w1;exact w1.elim
  |some ρ'=>rw[ea]at w1;exact g_do ea r1 (en.mono x1) λσ' en'=>w1 μ1 H1 σ' .refl s1 en'
theorem s_set{o i v:CE}{eo ei ev:Expr}{p:Pos}(hn:a0X' ei=true)(h0:a1z' ev=true)(ho:PE X eo (tE X.K X.mg E Φ Γ o))(hi:PE X ei (tE X.K X.mg E Φ Γ i))(hv:PE X ev (tE X.K X.mg E Φ Γ v)):PS X (.Assign [.Subscript eo ei p] ev pos) (tS X.K X.mg E Φ Γ (.set o i v)):=
 weakS (ps_asg hv (pg_sub ho hi set_D (asg_sub hn)) (sole (a6j' h0)) (by cases ev<;>rfl)) λD σ H zz=>ex43 zz λF μ ρ S sk en w=>by
  simp only[denS]at w;refine⟨F,μ,ρ,S,sk,en,(WantS.bind w).mono λvv H1 zz=>ex34 zz λμ1 S1 f x1 s1 r1 w1=>?_⟩;refine⟨F,μ1,ρ,S1,s1,en.mono x1,(WantS.bind w1).mono λvo H2 zz=>ex34 zz λμ2 S2 d x2 s2 r2 w2=>?_⟩;refine⟨F,μ2,ρ,S2,s2,(en.mono x1).mono x2,(WantS.bind w2).mono λvi H3 zz=>ex34 zz λμ3 S3 e x3 s3 r3 w3=>?_⟩;cases es:setD d e f S3 with
  |none=>rw[es]at w3;exact w3.elim
  |some S4=>rw[es]at w3;exact⟨F,μ3,S3,d,e,f,s3,Rep.mono x3 _ _ r2,r3,Rep.mono (x2.trans x3) _ _ r1,S4,es,λμ4 H4 x4 s4=>w3 μ4 H4 σ x4 s4 ((((en.mono x1).mono x2).mono x3).mono x4)⟩
theorem s_expr{e:CE}{v:Expr}(h0:a1z' v=true)(he:PE X v (tE X.K X.mg E Φ Γ e)):PS X (.Expr v pos) (tS X.K X.mg E Φ Γ (.expr e)):=
 weakS (ps_expr he (a6j' h0)) λD σ H zz=>ex43 zz λF μ ρ S sk en w=>by simp only[denS]at w;exact⟨F,μ,ρ,S,sk,en,(WantS.bind w).mono λv H1 zz=>ex34 zz λμ1 S1 d x1 s1 r1 w1=>w1 μ1 H1 σ .refl s1 (en.mono x1)⟩
theorem s_ret{e:CE}{v:Expr}(he:PE X v (tE X.K X.mg E Φ Γ e)):PS X (.Return (some v) pos) (tS X.K X.mg E Φ Γ (.ret e)):=
 weakS (a8c' he) λD σ H zz=>ex43 zz λF μ ρ S sk en w=>by simp only[denS]at w;exact⟨F,μ,ρ,S,sk,en,(WantS.bind w).mono λv H1 zz=>ex34 zz λμ1 S1 d x1 s1 r1 w1=>w1 μ1 H1 v .refl s1 r1⟩
theorem s_retN:PS X (.Return none pos) (tS X.K X.mg E Φ Γ .retN):=weakS ps_retN λD σ H zz=>ex43 zz λF μ ρ S sk en w=>w μ H .non .refl sk a6K'
theorem s_pass:PS X (.Pass pos) (tS X.K X.mg E Φ Γ .pass):=weakS ps_pass λD σ H zz=>ex43 zz λF μ ρ S sk en w=>w μ H σ .refl sk en
theorem s_brk:PS X (.Break pos) (tS X.K X.mg E Φ Γ .brk):=weakS a8b' λD σ H zz=>ex43 zz λF μ ρ S sk en w=>w μ H σ .refl sk en
theorem s_cont:PS X (.Continue pos) (tS X.K X.mg E Φ Γ .cont):=weakS a4C' λD σ H zz=>ex43 zz λF μ ρ S sk en w=>w μ H σ .refl sk en
theorem s_if{c:CE}{a b:List CS}{t:Expr}{x y:List Stmt}(hc:PT X t (tT X.K X.mg E Φ Γ c))(ha:PSs X x (tSs X.K X.mg E Φ Γ a))(hb:PSs X y (tSs X.K X.mg E Φ Γ b)):PS X (.If t x y pos) (tS X.K X.mg E Φ Γ (.ite c a b)):=
 weakS (ps_if hc ha hb) λD σ H zz=>ex43 zz λF μ ρ S sk en w=>by
  simp only[denS]at w;refine⟨F,μ,ρ,S,sk,en,(WantS.bind w).mono λk H1 zz=>ex34 zz λμ1 S1 k' x1 s1 e1 w1=>?_⟩;subst e1;cases k' with
  |true=>rw[if_pos rfl]at w1⊢;exact⟨F,μ1,ρ,S1,s1,en.mono x1,w1⟩
  |false=>rw[if_neg (by decide)]at w1⊢;exact⟨F,μ1,ρ,S1,s1,en.mono x1,w1⟩
theorem s_nilS:PSs X [] (tSs X.K X.mg E Φ Γ []):=weakSs a3V' λD σ H zz=>ex43 zz λF μ ρ S sk en w=>w μ H σ .refl sk en
theorem s_consS{c:CS}{cs:List CS}{s:Stmt}{st:List Stmt}(h1:PS X s (tS X.K X.mg E Φ Γ c))(h2:PSs X st (tSs X.K X.mg E Φ Γ cs)):PSs X (s::st) (tSs X.K X.mg E Φ Γ (c::cs)):=
 weakSs (a0R' h1 h2) λD σ H zz=>ex43 zz λF μ ρ S sk en w=>by simp only[denSs]at w;exact⟨F,μ,ρ,S,sk,en,WantS.seq w λμ' H' σ' ρ' S' x k en' w'=>⟨F,μ',ρ',S',k,en',w'⟩⟩
theorem a7i'{mg:GS}{D:Ends}{r:Res Fl}{f:Rho→Store→Res Fl}{Nx:L2.St→Hp→Prop}(w:WantS K mg E D μ H (r.bind λfl S'=>match fl with
   | .next ρ'=>f ρ' S'
   | .cont ρ'=>f ρ' S'
   | .brk ρ'=>.ok (.next ρ') S'
   | .ret d=>.ok (.ret d) S')) (hN:∀μ' H' σ' ρ' S',Ext μ H μ' H'→SOk K mg μ' S' H'→EnvR K mg μ' H' ρ' σ'→WantS K mg E D μ' H' (f ρ' S')→Nx σ' H'):WantS K mg E {D with nx:=Nx,ct:=Nx,bk:=D.nx} μ H r:=by
 cases r with
 |ok fl S=>
  cases fl with
  |next ρ=>exact λm h s x k en=>hN m h s ρ S x k en (WantS.ext x (show WantS K mg E D μ H (f ρ S)from w))
  |ret d=>exact w
  |brk ρ=>exact w
  |cont ρ=>exact λm h s x k en=>hN m h s ρ S x k en (WantS.ext x (show WantS K mg E D μ H (f ρ S)from w))
 |err z S=>exact w
 |fail=>exact w
end
theorem a2a'(step:D→Rho→Store→Res Fl)(xs:List D):∀(n i:Nat) (ρ:Rho) (S:Store),i+n=xs.length→forB step (λ_ i=>some xs[i]?) (n+1) i ρ S=forD step (xs.drop i) ρ S
 |0,i,ρ,S,h=>by rw[List.drop_eq_nil_of_le (by omega)];unfold forB;have:xs[i]?=none:=List.getElem?_eq_none_iff.mpr (by omega);rw[this];rfl
 |n+1,i,ρ,S,h=>by
  have hi:i<xs.length:=by omega
  rw[List.drop_eq_getElem_cons hi];unfold forB;rw[Zh hi];show(step xs[i] ρ S).bind _=(step xs[i] ρ S).bind _;congr 1;funext fl S';cases fl with
  |next ρ'=>exact a2a' step xs n (i+1) ρ' S' (by omega)
  |cont ρ'=>exact a2a' step xs n (i+1) ρ' S' (by omega)
  |brk ρ'=>rfl
  |ret d=>rfl
theorem forI_eq(step:D→Rho→Store→Res Fl)(its:Its)(ρ:Rho)(S:Store):forI step its ρ S=forB step (getOf its) (a5Q' its) 0 ρ S:=by
 cases its with
 |items xs=>exact(a2a' step xs xs.length 0 ρ S (by omega)).symm
 |live f get=>rfl
def stepF(Φ:FT)(Γ:Str→Option D)(t:CT)(body:List CS):D→Rho→Store→Res Fl:=λx ρ S=>match asgCT t x ρ with
 |some ρ'=>denSs Φ Γ body ρ' S
 |none=>.fail
section
variable {E:XK}{pos:Pos}
theorem s_for{t:CT}{it:CE}{i:Expr}{x:List Stmt}(hp:PassesOwn (model X.prog X.w) X.A X.env X.xe)(hc:X.calm=true)(hi:PI X tg i (tI X.K X.mg E Φ Γ it))(hg:PG X tg (gCT X.K t))(hs:∀x,foldedSetIterable i X.env x=pure x)(hb:PSs X x (tSs X.K X.mg E Φ Γ body)):
  PS X (.For tg i x [] pos) (tS X.K X.mg E Φ Γ (.for_ t it body)):=
 weakS (ps_for hp hc hi hg hb hs) λD σ H zz=>ex43 zz λF μ ρ S sk en w=>by
  simp only[denS]at w;refine⟨F,μ,ρ,S,sk,en,WantG.mono (Rel:=λμ' H' its J=>ItOk X.K ⟨X.mg,F⟩ J (getOf its) μ' H') (WantS.bind w) λJ H1 h=>?_⟩;obtain⟨μ1,S1,its,x1,s1,ok,w1⟩:=h;have w2:WantS X.K ⟨X.mg,F⟩ E D μ1 H1 (forI (stepF Φ Γ t body) its ρ S1):=w1;rw[forI_eq]at w2;refine⟨λi m σ H=>∃μ ρ S,Chg X.K F μ1 H1 F μ H∧SOk X.K ⟨X.mg,F⟩ μ S H∧EnvR X.K ⟨X.mg,F⟩ μ H ρ σ∧WantS X.K ⟨X.mg,F⟩ E D μ H (forB (stepF Φ Γ t body) (getOf its) m i ρ S),⟨a5Q' its,μ1,ρ,S1,.refl,s1,en.mono x1,w2⟩,?_⟩;rintro i m σ H ⟨μ,ρ,S,ch,sk,en,w⟩;cases m with
  |zero=>exact w.elim
  |succ m=>
   unfold forB at w;obtain⟨k1,k2⟩:=ok i μ S H F ch sk;cases e:getOf its S i with
   |none=>rw[e]at w;exact w.elim
   |some o=>
    cases o with
    |none=>rw[e]at w;exact .inl ⟨k2 e,w μ H σ .refl sk en⟩
    |some y=>
     rw[e]at w;obtain⟨go,yld⟩:=k1 y e;refine .inr ⟨go,λσ' H'=>∃μ ρ S,Chg X.K F μ1 H1 F μ H'∧SOk X.K ⟨X.mg,F⟩ μ S H'∧EnvR X.K ⟨X.mg,F⟩ μ H' ρ σ'∧WantS X.K ⟨X.mg,F⟩ E D μ H' (forB (stepF Φ Γ t body) (getOf its) m (i+1) ρ S),λσ' H' q=>⟨m,Nat.lt_succ_self m,q⟩,λv H' hv=>?_⟩;obtain⟨x2,s2,r2⟩:=yld v H' hv;have ch2:Chg X.K F μ1 H1 F μ H':=ch.trans (.of_ext x2 λ_ z=>.inl z);have w':=WantS.ext x2 w
     have w3:WantS X.K ⟨X.mg,F⟩ E D μ H' ((stepF Φ Γ t body y ρ S).bind λfl S'=>match fl with
      | .next ρ'=>forB (stepF Φ Γ t body) (getOf its) m (i+1) ρ' S'
      | .cont ρ'=>forB (stepF Φ Γ t body) (getOf its) m (i+1) ρ' S'
      | .brk ρ'=>.ok (.next ρ') S'
      | .ret d=>.ok (.ret d) S'):=w'
     have w4:=a7i' (f:=λρ' S'=>forB (stepF Φ Γ t body) (getOf its) m (i+1) ρ' S') (Nx:=λσ' H'=>∃μ ρ S,Chg X.K F μ1 H1 F μ H'∧SOk X.K ⟨X.mg,F⟩ μ S H'∧EnvR X.K ⟨X.mg,F⟩ μ H' ρ σ'∧WantS X.K ⟨X.mg,F⟩ E D μ H' (forB (stepF Φ Γ t body) (getOf its) m (i+1) ρ S)) w3
      λμ' H'' σ' ρ' S' x3 k en' w''=>⟨μ',ρ',S',ch2.trans (.of_ext x3 λ_ z=>.inl z),k,en',w''⟩
     unfold stepF at w4;cases ea:asgCT t y ρ with
     |none=>simp only[ea]at w4;exact w4.elim
     |some ρ'=>simp only[ea]at w4;exact g_do ea r2 (en.mono x2) λσ2 en2=>⟨F,μ,ρ',S,s2,en2,w4⟩
end
section
variable {E:XK}
theorem s_raise(O:YOk X N sc CX E Φ Γ k){x:Str}{es:List CE}(h:sdS (.raise_ x es) N sc st=true)(hx:XC X.prog X.w X.K X.mg (.cls x))(ha:PA X (emL es N (vw (vs st).e0).es) (tL X.K X.mg E Φ Γ es)):PS X (emS (.raise_ x es) N st) (tS X.K X.mg E Φ Γ (.raise_ x es)):=by
 obtain⟨h1,h⟩:=andB h;obtain⟨_,h⟩:=andB h;obtain⟨h2,h3⟩:=andB h;obtain⟨C,hm,hq⟩:=hx;obtain⟨g1,g2,_⟩:=a0n' h1;intro pq s σ H D I zz;have own:=own_in I.mod.kin hm hq;cases es with
 |nil=>cases h2
 |cons e es=>
  have hst:∀z∈emL (e::es) N (vw (vs st).e0).es,a0w' z=true:=Zp.mp h3;obtain⟨tl,N0,nm,q,bs,hdct,sn,sub,ab,col,dd,k0,k1,k2,k3,k5,mN,hC,hN,hni,T⟩:=own.obj;show wpAny _ _ (exec (.Raise (some (.Call (.Name x _) (emE e N _::emL es N _) [] _)) none _) X.env) _ _ s
  refine wpAny_Raise_call_subU (C:=C) (nm:=nm) (q:=q) (N:=N0) (bs:=bs) (bm:=tl) (hdct:=hdct) (sn:=sn) (sub:=sub) (ab:=ab) (col:=col) (dd:=dd) (k0:=k0) (k1:=k1) (k2:=k2) (k3:=k3) (k5:=k5)
   PySem.F.excBase_ValueError (bmB:=bmVE) (by decide+kernel) PySem.F.excBase_ValueError (mN:=mN) (T.hasType (by decide+kernel)) (I.ok.hd O.x.calm) (a0S' hst) hni (a2p' I (O.x.gl g1) own.bound ⟨rfl,?_⟩ g2)
  obtain⟨F,μ,ρ,S,sk,en,w⟩:=zz;have h':=ha (vw (vs st).e0).pos pq s σ H (λws H1=>ws.length≤sizeLine∧E (.ref C) none H1) I ⟨F,μ,ρ,S,sk,en,?_⟩
  ·have he:=a0j' (env:=X.env) (es:=emL es N (vw (vs st).e0).es.tail) (hst _ Zc);have h'':wpAny _ _ (spliced (backTo _ (starEach (emE e N ((vw (vs st).e0).es.headD dE)::emL es N (vw (vs st).e0).es.tail) X.env))) _ _ s:=h';rw[he]at h''⊢;refine Calls.evalArgs_plain (ZV h'' (λus s₂ h₂=>?_) λ_ _ y=>y);obtain⟨ws,H1,I1,r,z,q⟩:=h₂;exact⟨rfl,by rw[←r.length];exact z,(I1.bs _ _ hC).1,hN.keeps I1.bk,T.keeps I1.bk,λh' e m=>O.made pq σ H1 _ h' e C _ I1 m q⟩
  ·have w':WantS X.K ⟨X.mg,F⟩ E D μ H ((denL Φ Γ (e::es) ρ S).bind λds S1=>if ds.length≤1000 then .err ⟨x,[]⟩ S1 else .fail):=w;cases ed:denL Φ Γ (e::es) ρ S with
   |ok ds S1=>
    rw[ed]at w';intro μ' H' ws x1 s1 r1;have w2:WantS X.K ⟨X.mg,F⟩ E D μ H (if ds.length≤1000 then .err ⟨x,[]⟩ S1 else .fail):=w';split at w2
    ·rename_i hl;exact⟨by rw[←r1.length];exact ZE hl (by decide),w2 μ' H' x1 s1 (.ref C) none ⟨hm,rfl⟩⟩
    ·exact w2.elim
   |err y S1=>rw[ed]at w';exact w'
   |fail=>rw[ed]at w';exact w'
theorem s_try(O:YOk X N sc CX E Φ Γ k){i:Nat}{f:Str}{ys ws:Ls}(h:sdS (.tryK i body f ys ws) N sc st=true)(hx:XC X.prog X.w X.K X.mg (.kind f ys ws))
  (hb:∀{X':Cx} {E':XK},X'.prog=X.prog→X'.w=X.w→X'.K=X.K→X'.mg=X.mg→YOk X' N sc CX E' Φ Γ k→PSs X' (emSs body N (vs st).a) (tSs X'.K X'.mg E' Φ Γ body)):PS X (emS (.tryK i body f ys ws) N st) (tS X.K X.mg E Φ Γ (.tryK i body f ys ws)):=by
 obtain⟨h1,h⟩:=andB h;obtain⟨h2,h⟩:=andB h;obtain⟨h3,h⟩:=andB h;obtain⟨h4,h⟩:=andB h;obtain⟨h5,h6⟩:=andB h;obtain⟨fa,pa,m1,m2,m3,m4⟩:=hx;obtain⟨g1,g2,_⟩:=a0n' h4;obtain⟨g3,g4,_⟩:=a0n' h5;have Z:TryF X "PairError" (N.getD i "") f i fa pa:=⟨O.fr.1,O.fr.2.1,O.fr.2.2,O.x.room.depth,⟨O.x.gl g1,m3,g2⟩,⟨O.x.gl g3,m1,g4⟩,m2,by rw[O.x.n];exact O.x.nd,by rw[O.x.n];exact ZT h1,by rw[O.x.sc];exact ZT h2,h3,O.x.fn _ rfl⟩;intro pq s σ H D I zz;obtain⟨F,μ,ρ,S,sk,en,w⟩:=zz;refine try_ok I (hb (X':=XB X pq D _) (E':=EH X fa pa D) rfl rfl rfl rfl ⟨⟨O.x.n,O.x.nd,O.x.sc,O.x.kd,O.x.calm,O.x.room,O.x.fn,O.x.mod,?_,O.x.cx0⟩,ownB_,O.cx,O.fr,λpins' σ' H' s' h2' e C args I' m q=>madeB Z I' m q⟩) ⟨F,μ,ρ,S,sk,en,?_⟩
 ·rw[O.cx];exact passB Z
 ·show WantS X.K ⟨X.mg,F⟩ (EH X fa pa D) D μ H (denSs Φ Γ body ρ S)
  have w':WantS X.K ⟨X.mg,F⟩ E D μ H (match denSs Φ Γ body ρ S with
   | .err x S'=>(match x.fs,(ys.zip ws).lookup x.cls with
    | [],some r=>.ok (.ret (.str r)) S'
    |_,_=>.fail)
   |r=>r):=w
  cases ed:denSs Φ Γ body ρ S with
  |ok fl S'=>rw[ed]at w';cases fl<;>exact w'
  |fail=>rw[ed]at w';exact w'
  |err x S'=>
   rw[ed]at w';obtain⟨cls,fs⟩:=x;cases fs with
   |cons _ _=>exact False.elim w'
   |nil=>
    cases el:(ys.zip ws).lookup cls with
    |none=>dsimp only at w';rw[el]at w';exact False.elim w'
    |some r=>dsimp only at w';rw[el]at w';have w2:WantS X.K ⟨X.mg,F⟩ E D μ H (.ok (.ret (.str r)) S'):=w';intro μ' H' x1 s1 v dict hv;obtain⟨C,e1,e2,e3⟩:=m4 cls r el v hv.1;exact⟨C,r,e1,e3 _,e2,λH'' u=>w2 μ' H'' (.str r) (x1.trans u.ext) (u.sok s1) a6J'⟩
end
mutual
theorem soundS(c:CS):∀{X:Cx} {N:Ls} {sc:Sc} {CX:CXT} {E:XK} {Φ:FT} {Γ:Str→Option D} {k:Nat} {st:Stmt},YOk X N sc CX E Φ Γ k→sdS c N sc st=true→(∀z∈rzS c,XC X.prog X.w X.K X.mg z)→PS X (emS c N st) (tS X.K X.mg E Φ Γ c):=by
 intro X N sc CX E Φ Γ k st O h hx;cases c with
 |asg i e=>exact s_asg O.x h
 |asgT t e=>exact s_asgT O.x (a3l' (andB h).1) ((andB (andB h).2).1) (andB (andB (andB h).2).2).1 (andB (andB (andB (andB h).2).2).2).1 (a0k' e O.x (andB (andB (andB (andB h).2).2).2).2)
 |par=>cases h
 |aug=>cases h
 |set o i v=>exact s_set (andB (andB h).1).1 (andB (andB h).2).1 (a0k' o O.x (andB (andB (andB h).1).2).1) (a0k' i O.x (andB (andB (andB h).1).2).2) (a0k' v O.x (andB (andB h).2).2)
 |set2=>cases h
 |expr e=>exact s_expr (andB h).1 (a0k' e O.x (andB h).2)
 |ret e=>exact s_ret (a0k' e O.x h)
 |retN=>exact s_retN
 |pass=>exact s_pass
 |brk=>exact s_brk
 |cont=>exact s_cont
 |ite c a b=>exact s_if (a1N' c O.x (andB h).1) (a2v' a O (andB (andB h).2).1 λz hz=>hx z (ZG _ hz)) (a2v' b O (andB (andB h).2).2 λz hz=>hx z (Zq _ hz))
 |for_ t it body=>exact s_for O.own O.x.calm (a7e' it O.x (andB (andB h).2).1 a3l') (g_pg O.x (andB h).1) (a1f' (andB (andB (andB h).2).2).1) (a2v' body O (andB (andB (andB h).2).2).2 hx)
 |while_=>cases h
 |never=>exact λpq s σ H D I zz=>ex43 zz λF μ ρ S sk en w=>w.elim
 |raise_ x es=>exact s_raise O h (hx _ Zc) (a1D' es O.x (andB (andB h).2).1)
 |tryK i body f ys ws=>exact s_try O h (hx _ Zc) λ{X' E'} e1 e2 e3 e4 O'=>a2v' body O' (andB (andB (andB (andB (andB h).2).2).2).2).2 λz hz=>by rw[e1,e2,e3,e4];exact hx z (Zb _ hz)
theorem a2v'(cs:List CS):∀{X:Cx} {N:Ls} {sc:Sc} {CX:CXT} {E:XK} {Φ:FT} {Γ:Str→Option D} {k:Nat} {st:List Stmt},YOk X N sc CX E Φ Γ k→sdSs cs N sc st=true→(∀z∈rzSs cs,XC X.prog X.w X.K X.mg z)→PSs X (emSs cs N st) (tSs X.K X.mg E Φ Γ cs):=by
 intro X N sc CX E Φ Γ k st O h hx;cases cs with
 |nil=>exact s_nilS
 |cons c cs=>exact s_consS (soundS c O (andB h).1 λz hz=>hx z (ZG _ hz)) (a2v' cs O (andB h).2 λz hz=>hx z (Zq _ hz))
end
mutual
def lowD(k:Nat):D→Bool
 | .tup xs=>lowL k xs
 | .lst xs=>lowL k xs
 | .scr xs=>lowL k xs
 | .ref n=>decide (n<k)
 |_=>true
def lowL(k:Nat):List D→Bool
 | []=>true
 |x::xs=>lowD k x&&lowL k xs
end
def trim(k:Nat)(d:D)(S':Store):Res D:=
 if(S'.take k).all (lowL k)=true then
  (if lowD k d=true then .ok d (S'.take k)else match d with
   | .ref n=>(match S'[n]? with
    |some xs=>if lowL k xs=true∧k≤n then .ok (.ref k) (S'.take k++[xs])else .fail
    |none=>.fail)
   |_=>.fail)
 else .fail
def runD(Φ:FT)(Γ:Str→Option D)(body:List CS)(n np:Nat)(ds:List D)(S:Store):Res D:=
 if ds.length=np then
  (match denSs Φ Γ body (ds.map some++List.replicate (n-np) none) S with
  | .ok (.ret d) S'=>trim S.length d S'
  | .ok (.next _) S'=>trim S.length .non S'
  | .err x S'=>if(S'.take S.length).all (lowL S.length)=true then .err x (S'.take S.length)else .fail
  |_=>.fail)
 else .fail
section
variable {mg:GS}{μ'':La}
mutual
theorem Rep.low(hk:∀n,n<k→μ''[n]?=μ'[n]?)(hs:∀a∈μ'',a∈μ'):∀(d:D) (v:V),lowD k d=true→Rep K mg μ' H d v→Rep K mg μ'' H d v
 | .non,_,_,h=>h
 | .bl _,_,_,h=>h
 | .int _,_,_,h=>h
 | .str _,_,_,h=>h
 | .tup ds,v,l,h=>by unfold Rep at h⊢;unfold lowD at l;obtain⟨a,vs,e,q,r⟩:=h;exact⟨a,vs,e,q,RepL.low hk hs ds vs l r⟩
 | .lst ds,v,l,h=>by unfold Rep at h⊢;unfold lowD at l;obtain⟨a,vs,e,q,n,r⟩:=h;exact⟨a,vs,e,q,⟨λz=>n.1 (hs a z),n.2⟩,RepL.low hk hs ds vs l r⟩
 | .scr ds,v,l,h=>by unfold Rep at h⊢;unfold lowD at l;obtain⟨a,vs,e,q,r⟩:=h;exact⟨a,vs,e,q,RepL.low hk hs ds vs l r⟩
 | .ref n,v,l,h=>by unfold Rep at h⊢;unfold lowD at l;obtain⟨a,e,q⟩:=h;exact⟨a,e,by rw[hk n (by simpa using l)];exact q⟩
 | .fn y,v,_,h=>h
 | .ty y,v,_,h=>h
 | .dct,v,_,h=>h
theorem RepL.low(hk:∀n,n<k→μ''[n]?=μ'[n]?)(hs:∀a∈μ'',a∈μ'):∀(ds:List D) (vs:List V),lowL k ds=true→RepL K mg μ' H ds vs→RepL K mg μ'' H ds vs
 | [],vs,_,h=>h
 |d::ds,vs,l,h=>by unfold RepL at h⊢;unfold lowL at l;simp only[ZA]at l;obtain⟨w,ws,e,r,q⟩:=h;exact⟨w,ws,e,Rep.low hk hs d w l.1 r,RepL.low hk hs ds ws l.2 q⟩
end
theorem Ext.cut(x:Ext μ H μ' H'):Ext μ H μ H':=⟨⟨[],by simp⟩,x.keep,x.there,λ_ h=>.inl h⟩
theorem SOk.cut(x:Ext μ H μ' H')(hk:μ.length=k)(s:SOk K mg μ' S' H')(l:(S'.take k).all (lowL k)=true):SOk K mg μ (S'.take k) H':=by
 obtain⟨r,rfl⟩:=x.pre;have hl:=s.len;simp at hl;refine⟨s.live,by rw[ZN];omega,(List.nodup_append.mp s.nd).1,λn a ds h1 h2=>?_⟩;have hn:n<k:=by rw[←hk];exact(Ze.mp h1).1
 have h2':=h2;rw[List.getElem?_take_of_lt hn]at h2;obtain⟨vs,q,rr⟩:=s.at_ n a ds (by rw[Zm (by omega)];exact h1) h2;exact⟨vs,q,RepL.low (k:=k) (λm hm=>by rw[Zm (by omega)]) (λb hb=>ZG _ hb) _ _ (Zp.mp l ds (Zw h2')) rr⟩
theorem a7W'{E:XK}{Q:VK}(x:Ext μ H μ' H')(hk:μ.length=k)(s:SOk K mg μ' S' H')(r:Rep K mg μ' H' d v)(w:WantG K mg E (Rep K mg) μ H Q (trim k d S')):Q v H':=by
 unfold trim at w;split at w
 ·rename_i hl;split at w
  ·rename_i hd;refine w μ H' v x.cut (SOk.cut x hk s hl) ?_;obtain⟨r',rfl⟩:=x.pre;exact Rep.low (k:=k) (λm hm=>by rw[Zm (by omega)]) (λb hb=>ZG _ hb) _ _ hd r
  ·split at w
   ·rename_i n hnl;split at w
    ·rename_i xs hx;split at w
     ·rename_i hxl;unfold Rep at r;obtain⟨a,rfl,ha⟩:=r;obtain⟨vs,q,rr⟩:=s.at_ n a xs ha hx;have s1:=SOk.cut x hk s hl;obtain⟨r',rfl⟩:=x.pre;have hnd:=List.nodup_append.mp s.nd;have hn:μ.length≤n:=by omega
      have har:a∈r':=by rw[Zr hn]at ha;exact Zw ha
      have hna:a∉μ:=λz=>hnd.2.2 a z a har rfl
      have hfr:H a=none:=by
       rcases x.fresh a (Zq _ har)with z|z
       ·exact absurd z hna
       ·exact z
      have sub:∀b∈μ++[a],b∈μ++r':=λb hb=>by
       rcases ZC.mp hb with z|z
       ·exact ZG _ z
       ·have:b=a:=by simpa using z
        subst this;exact Zq _ har
      have same:∀m,m<k→(μ++[a])[m]?=(μ++r')[m]? :=λm hm=>by rw[Zm (by omega),Zm (by omega)]
      have hl2:=s.len;simp at hl2;refine w (μ++[a]) H' (.ref a) ⟨⟨[a],rfl⟩,x.keep,x.there,λb hb=>?_⟩ ⟨s.live,?_,?_,λm b ds h1 h2=>?_⟩ ?_
      ·rcases ZC.mp hb with z|z
       ·exact .inl z
       ·have:b=a:=by simpa using z
        subst this;exact .inr hfr
      ·rw[ZI,ZI,ZN];simp;omega
      ·rw[List.nodup_append]
       exact⟨hnd.1,by simp,λb hb c hc=>by
        have:c=a:=by simpa using hc
        subst this;intro z;subst z;exact hna hb⟩
      ·by_cases hm:m<μ.length
       ·rw[Zm hm]at h1;rw[Zm (by rw[ZN];omega)]at h2;have h2':=h2;rw[List.getElem?_take_of_lt (by omega)]at h2;obtain⟨ws,q',rr'⟩:=s.at_ m b ds (by rw[Zm hm];exact h1) h2;exact⟨ws,q',RepL.low (k:=k) same sub _ _ (Zp.mp hl ds (Zw h2')) rr'⟩
       ·have e1:m=μ.length:=by
         have:=(Ze.mp h1).1;simp at this;omega
        subst e1;rw[Zr (Zi _)]at h1;rw[Zr (by rw[ZN];omega)]at h2;have e2:μ.length-(S'.take k).length=0:=by rw[ZN];omega
        rw[e2]at h2;simp at h1 h2;subst h1;subst h2;exact⟨vs,q,RepL.low (k:=k) same sub _ _ hxl.1 rr⟩
      ·unfold Rep;exact⟨a,rfl,by rw[←hk,Zr (Zi _)];simp⟩
     ·exact w.elim
    ·exact w.elim
   ·exact w.elim
 ·exact w.elim
end
theorem a7j'{mg:GS}{vs:List V}(r:RepL K mg μ H ds vs):EnvR K mg μ H (ds.map some++List.replicate (N.length-ds.length) none) (L2.start N vs):=by
 unfold L2.start;have hl:=r.length;refine⟨by simp[hl],λi d e=>?_⟩;by_cases hi:i<ds.length
 ·rw[Zm (by simpa using hi),ZQ]at e;cases e1:ds[i]? with
  |none=>rw[e1]at e;cases e
  |some d'=>rw[e1]at e;cases e;obtain⟨v,h1,h2⟩:=r.get e1;exact⟨v,by rw[Zm (by simp;omega),ZQ,h1];rfl,h2⟩
 ·rw[Zr (by simpa using hi),List.getElem?_replicate]at e;split at e<;>cases e
theorem FOk.mono{j:Nat}{f:Str}(F:FOk P w K mg base CX j f φ)(h:j≤k):FOk P w K mg base CX k f φ:=by obtain⟨fa,fd,ps,m1,m2,m3,m4,m5⟩:=F.ex;exact⟨fa,fd,ps,m1,m2,m3,m4.mono h,m5⟩
theorem fnok{x:Str}{fd:FuncData}(F:Fun K x qual st f fd)(S:FnScope N ps (a0d' st))(M:MOk P w K mg base (CX1 P w) Φ Γ k)(he:emSs body N (a0o' st)=a0o' st)(hc:sdSs body N (a0d' st).names (a0o' st)=true)(hx:∀z∈rzSs body,XC P w K mg z):
  FnOk P w K mg base (CX1 P w) (k+1) f fd ps (spOf K mg ps.length (runD Φ Γ body N.length ps.length)):=by
 obtain⟨oc,od,kV,doc,pm,an,cdv,ct,osl,rfl,lk,hcd⟩:=F.ex;refine fn_of lk hcd S (λvs H Q E h=>h.1) λA outer s H vs Q E hr h=>?_
 ·obtain⟨hl,F',μ,S0,ds,sk,r,wt⟩:=h;have L:LvX (cxOf (CX1 P w) P w K mg base N qual (a0d' st) f cdv A outer s H E) E:=LvX.of;have O:YOk (cxOf (CX1 P w) P w K mg base N qual (a0d' st) f cdv A outer s H E) N (a0d' st).names (CX1 P w) E Φ Γ k:=⟨⟨rfl,S.nd,rfl,S.kind,rfl,hr,λ_ _=>rfl,M,L.pass,cx1_0⟩,L.own,rfl,⟨rfl,rfl,rfl⟩,λpq σ H1 s1 h2 e C args I m q=>L.made I m q⟩;refine⟨_,he▸a2v' body O hc hx,F',μ,ds.map some++List.replicate (N.length-ds.length) none,S0,sk,a7j' r,?_⟩;have hl2:ds.length=ps.length:=by rw[r.length];exact hl
  unfold runD at wt;rw[if_pos hl2,←hl2]at wt;have hkl:μ.length=S0.length:=sk.len;show WantS K ⟨mg,F'⟩ E _ μ H (denSs Φ Γ body (ds.map some++List.replicate (N.length-ds.length) none) S0);cases e:denSs Φ Γ body (ds.map some++List.replicate (N.length-ds.length) none) S0 with
  |ok fl S'=>
   rw[e]at wt;cases fl with
   |next ρ=>exact λμ' H' σ' x s' _=>a7W' x hkl s' a6K' wt
   |ret d=>exact λμ' H' v x s' r'=>a7W' x hkl s' r' wt
   |brk ρ=>exact wt.elim
   |cont ρ=>exact wt.elim
  |err y S'=>
   rw[e]at wt;intro μ' H' x s';by_cases hz:(S'.take S0.length).all (lowL S0.length)=true
   ·simp only[hz,if_true]at wt;exact wt μ H' x.cut (SOk.cut x hkl s' hz)
   ·simp only[hz]at wt;exact wt.elim
  |fail=>rw[e]at wt;exact wt.elim
theorem fok{x:Str}{fd:FuncData}(F:Fun K x qual st f fd)(S:FnScope N ps (a0d' st))(hm:mg x=some (.ref f))(hb:Binds K fd ps [])(M:MOk P w K mg base (CX1 P w) Φ Γ k)(he:emSs body N (a0o' st)=a0o' st)(hc:sdSs body N (a0d' st).names (a0o' st)=true)(hx:∀z∈rzSs body,XC P w K mg z):
  FOk P w K mg base (CX1 P w) (k+1) x (runD Φ Γ body N.length ps.length):=by
 refine⟨f,fd,ps,hm,F.kp,hb,fnok F S M he hc hx,λds S' hne=>?_⟩;unfold runD at hne;by_cases h:ds.length=ps.length
 ·exact h
 ·rw[if_neg h]at hne;exact absurd rfl hne
theorem fok0{x:Str}{fd:FuncData}(F:Fun K x qual st f fd)(S:FnScope N ps (a0d' st))(hm:mg x=some (.ref f))(hb:Binds K fd ps []):FOk P w K mg base (CX1 P w) k x (λ_ _=>.fail):=
 ⟨f,fd,ps,hm,F.kp,hb,⟨λvs H Q E h=>h.1,λA outer s H args us vs Q E _ _ _ _ h=>by obtain⟨_,_,_,_,_,_,_,z⟩:=h;exact z.elim⟩,λ_ _ h=>absurd rfl h⟩
theorem len1{P:Lv→Prop}(h:∀a,P [a]):∀us:Lv,us.length=1→P us:=λus hl=>by obtain⟨a,rfl⟩:=List.length_eq_one_iff.mp hl;exact h a
theorem len2{P:Lv→Prop}(h:∀a b,P [a,b]):∀us:Lv,us.length=2→P us:=λus hl=>by
 cases us with
 |nil=>cases hl
 |cons a us=>exact len1 (P:=λus=>P (a::us)) (h a) us (Zz hl)
theorem len3{P:Lv→Prop}(h:∀a b c,P [a,b,c]):∀us:Lv,us.length=3→P us:=λus hl=>by
 cases us with
 |nil=>cases hl
 |cons a us=>exact len2 (P:=λus=>P (a::us)) (h a) us (Zz hl)
theorem len4{P:Lv→Prop}(h:∀a b c d,P [a,b,c,d]):∀us:Lv,us.length=4→P us:=λus hl=>by
 cases us with
 |nil=>cases hl
 |cons a us=>exact len3 (P:=λus=>P (a::us)) (h a) us (Zz hl)
def tbl(l:List (Str×(List D→Store→Res D))):FT:=λf=>l.lookup f
theorem mok(h:∀p∈l,FOk P w K mg base (CX1 P w) k p.1 p.2)(hg:∀x d,Γ x=some d→∃v u,mg x=some u∧RelV v u∧∀F μ H,Rep K ⟨mg,F⟩ μ H d v)(hb:∀x∈a0Y',mg x=none):MOk P w K mg base (CX1 P w) (tbl l) Γ k:=
 ⟨λf φ e=>h (f,φ) (Zx e),hg,hb⟩
end Py
namespace K03
def kys:Ls:=["NoWeb","NoPlace","NoPlaces","NoTie","NoNumber","NoPairing","NoWay","NoRing","NoArrows","NoSides","NoText","NoLine","NoDeed","TooGreat"]
def kws:Ls:=["web","place","places","tie","number","pairing","way","ring","arrows","sides","text","line","deed","great"]
def G0:Str→Option D:=λx=>[(("MOST_PLACES":Str),D.int 8)].lookup x
def a4R':Ls:=["thing"]
def a4S':List CS:=[.ret (.band (.blt .isinst [.var 0,.ty "int"]) (.bnot (.blt .isinst [.var 0,.ty "bool"])))]
def a4T':FT:=tbl []
def a0A':List D→Store→Res D:=runD a4T' G0 a4S' a4R'.length 1
def a0D':Ls:=["thing","low","high"]
def a0E':List CS:=[.ret (.band (.call "is_number" [.var 0]) (.chain .LtE .LtE (.var 1) (.var 0) (.var 2)))]
def a1c':FT:=tbl [("is_number",a0A')]
theorem a0r':a1c' "is_number"=some a0A':=rfl
def a0g':List D→Store→Res D:=runD a1c' G0 a0E' a0D'.length 3
def a2l':Ls:=["thing","least"]
def cnF:CE:=.fst [.s "this is no whole number from ",.v 1,.s " to ",.g "MOST_PLACES"]
def a0z':List CS:=[.ite (.bnot (.call "is_number_from" [.var 0,.var 1,.glob "MOST_PLACES"])) [.raise_ "NoNumber" [cnF]] []]
def a0t':FT:=tbl [("is_number_from",a0g')]
theorem a0i':a0t' "is_number_from"=some a0g':=rfl
def a0b':List D→Store→Res D:=runD a0t' G0 a0z' a2l'.length 2
def n_row:Ls:=["n"]
def c_row:List CS:=[.expr (.call "must_be_count" [.var 0,.lit (.int 1)]),.ret (.tup [.var 0,.blt .tuple [.comp false ["place"] [none] (.var 0) (.range [.bin .Sub (.var 0) (.lit (.int 1))]) [] (.emit (.tup [.var 0,.bin .Add (.var 0) (.lit (.int 1))]))]])]
def t_row:FT:=tbl [("must_be_count",a0b')]
theorem a1q':t_row "must_be_count"=some a0b':=rfl
def f_row:List D→Store→Res D:=runD t_row G0 c_row n_row.length 1
def n_ring:Ls:=["n","many","ties"]
def c_ring:List CS:=[.expr (.call "must_be_count" [.var 0,.lit (.int 3)]),.asgT (.tup [.var 1,.var 2]) (.call "row" [.var 0]),.ret (.tup [.var 1,.blt .tuple [.blt (.sorted false (.seq .int)) [.bin .Add (.var 2) (.tup [.tup [.lit (.int 0),.bin .Sub (.var 0) (.lit (.int 1))]])]]])]
def t_ring:FT:=tbl [("must_be_count",a0b'),("row",f_row)]
theorem a1j':t_ring "must_be_count"=some a0b':=rfl
def a7k':List D→Store→Res D:=runD t_ring G0 c_ring n_ring.length 1
def n_full:Ls:=["n"]
def c_full:List CS:=[.expr (.call "must_be_count" [.var 0,.lit (.int 1)]),.ret (.tup [.var 0,.blt .tuple [.comp false ["low","high","n"] [none,none,some 0] (.var 0) (.range [.var 0]) [] (.inner (.var 1) (.range [.bin .Add (.var 0) (.lit (.int 1)),.var 2]) [] (.emit (.tup [.var 0,.var 1])))]])]
def t_full:FT:=tbl [("must_be_count",a0b')]
theorem a1k':t_full "must_be_count"=some a0b':=rfl
def a7l':List D→Store→Res D:=runD t_full G0 c_full n_full.length 1
def n_star:Ls:=["n"]
def c_star:List CS:=[.expr (.call "must_be_count" [.var 0,.lit (.int 1)]),.ret (.tup [.var 0,.blt .tuple [.comp false ["place"] [none] (.var 0) (.range [.lit (.int 1),.var 0]) [] (.emit (.tup [.lit (.int 0),.var 0]))]])]
def t_star:FT:=tbl [("must_be_count",a0b')]
theorem a1l':t_star "must_be_count"=some a0b':=rfl
def a7m':List D→Store→Res D:=runD t_star G0 c_star n_star.length 1
def a1E':Ls:=["a","b","many"]
def a1F':List CS:=[.expr (.call "must_be_count" [.var 0,.lit (.int 1)]),.expr (.call "must_be_count" [.var 1,.lit (.int 1)]),.asg 2 (.bin .Add (.var 0) (.var 1)),.ite (.cmp .Gt (.var 2) (.glob "MOST_PLACES")) [.raise_ "NoNumber" [.fst [.s "both together are more than ",.g "MOST_PLACES"]]] [],.ret (.tup [.var 2,.blt .tuple [.comp false ["left","right","a","many"] [none,none,some 0,some 2] (.var 0) (.range [.var 0]) [] (.inner (.var 1) (.range [.var 2,.var 3]) [] (.emit (.tup [.var 0,.var 1])))]])]
def a2w':FT:=tbl [("must_be_count",a0b')]
theorem a0u':a2w' "must_be_count"=some a0b':=rfl
def a0B':List D→Store→Res D:=runD a2w' G0 a1F' a1E'.length 2
def a4U':Ls:=["_law_many","_law_found","_law_one"]
def a4V':List CS:=[.asg 1 (.lst false []),.for_ (.var 2) (.range [.var 0]) [.asg 1 (.bin .Add (.var 1) (.comp false ["_law_other","_law_one"] [none,some 2] (.var 0) (.range [.bin .Add (.var 2) (.lit (.int 1)),.var 0]) [] (.emit (.tup [.var 1,.var 0]))))],.ret (.var 1)]
def a4W':FT:=tbl []
def a2x':List D→Store→Res D:=runD a4W' G0 a4V' a4U'.length 1
def a3n':Ls:=["_law_found","_law_due_here","_law_one","_law_other"]
def a6o':List CS:=[.ite (.cmp .Is (.var 1) (.lit (.non))) [.ret (.cmp .Is (.var 0) (.lit (.non)))] [],.ite (.blt .isinst [.var 1,.ty "bool"]) [.ret (.band (.blt .isinst [.var 0,.ty "bool"]) (.cmp .Eq (.var 0) (.var 1)))] [],.ite (.blt .isinst [.var 1,.ty "int"]) [.ret (.band (.blt .isinst [.var 0,.ty "int"]) (.band (.bnot (.blt .isinst [.var 0,.ty "bool"])) (.cmp .Eq (.var 0) (.var 1))))] [],.ite (.blt .isinst [.var 1,.ty "str"]) [.ret (.band (.blt .isinst [.var 0,.ty "str"]) (.cmp .Eq (.var 0) (.var 1)))] [],.ite (.bor (.cmp .NotEq (.blt .isinst [.var 1,.ty "list"]) (.blt .isinst [.var 0,.ty "list"])) (.cmp .NotEq (.blt .isinst [.var 1,.ty "tuple"]) (.blt .isinst [.var 0,.ty "tuple"]))) [.ret (.lit (.bl false))] [],.ite (.cmp .NotEq (.blt .len [.var 0]) (.blt .len [.var 1])) [.ret (.lit (.bl false))] [],.for_ (.tup [.var 2,.var 3]) (.zip [.var 0,.var 1]) [.ite (.bnot (.call "_law_same" [.var 2,.var 3])) [.ret (.lit (.bl false))] []],.ret (.lit (.bl true))]
def a1r':Nat→List D→Store→Res D
 |0=>λ_ _=>.fail
 |n+1=>runD (tbl [("_law_same",a1r' n)]) G0 a6o' a3n'.length 2
def a3o':List D→Store→Res D:=a1r' 6
def a3p':Ls:=["_law_script","_law_k"]
def a3q':List CS:=[.ite (.cmp .Lt (.var 1) (.blt .len [.var 0])) [.ret (.idx (.var 0) (.var 1))] [],.ret (.lit (.int 0))]
def a6p':FT:=tbl []
def a0N':List D→Store→Res D:=runD a6p' G0 a3q' a3p'.length 2
def a1U':Ls:=["_law_cell_here"]
def a1V':List CS:=[.ret (.lst true [.var 0,.blt .int [.cmp .GtE (.var 0) (.bin .Pow (.lit (.int 10)) (.lit (.int 18)))]])]
def a2O':FT:=tbl []
def a1g':List D→Store→Res D:=runD a2O' G0 a1V' a1U'.length 1
def a2b':Ls:=["_law_pen_here","_law_many","_law_found"]
def a2c':List CS:=[.ite (.cmp .Eq (.idx (.var 0) (.lit (.int 1))) (.lit (.int 1))) [.asg 2 (.bin .Mod (.idx (.var 0) (.lit (.int 0))) (.var 1)),.set (.var 0) (.lit (.int 0)) (.bin .FloorDiv (.idx (.var 0) (.lit (.int 0))) (.var 1)),.ret (.var 2)] [],.set (.var 0) (.lit (.int 0)) (.bin .Mod (.bin .Add (.bin .Mult (.bin .Mod (.idx (.var 0) (.lit (.int 0))) (.lit (.int 2147483629))) (.lit (.int 48271))) (.lit (.int 11))) (.lit (.int 2147483629))),.ret (.bin .Mod (.bin .FloorDiv (.bin .Mod (.bin .Add (.bin .Mult (.idx (.var 0) (.lit (.int 0))) (.idx (.var 0) (.lit (.int 0)))) (.bin .Mult (.lit (.int 40692)) (.idx (.var 0) (.lit (.int 0))))) (.lit (.int 2147483647))) (.lit (.int 8))) (.var 1))]
def a6q':FT:=tbl []
def a0F':List D→Store→Res D:=runD a6q' G0 a2c' a2b'.length 2
def a6r':Ls:=["_law_way","_law_one","_law_other","_law_e"]
def tdB:List CS:=[.ite (.cmp .Eq (.var 0) (.lit (.int 4))) [.ret (.call "sides_web" [.var 1,.var 2])] [],.ret (.sel ["row","ring","full","star"] (.var 0) [.var 1])]
def a2d':List CS:=[.tryK 3 tdB "_law_kinds" kys kws]
def a0l':FT:=tbl [("row",f_row),("ring",a7k'),("full",a7l'),("star",a7m'),("sides_web",a0B')]
theorem a2m':a0l' "row"=some f_row:=rfl
theorem a0G':a0l' "ring"=some a7k':=rfl
theorem a2e':a0l' "full"=some a7l':=rfl
theorem a2f':a0l' "star"=some a7m':=rfl
theorem a1m':a0l' "sides_web"=some a0B':=rfl
def a0x':List D→Store→Res D:=runD a0l' G0 a2d' a6r'.length 3
def a6s':Ls:=["_law_way","_law_tie","_law_wide","_law_many"]
def a6t':List CS:=[.ite (.cmp .Lt (.var 0) (.lit (.int 2))) [.ret (.bor (.cmp .Eq (.idx (.var 1) (.lit (.int 1))) (.bin .Add (.idx (.var 1) (.lit (.int 0))) (.lit (.int 1)))) (.band (.cmp .Eq (.var 0) (.lit (.int 1))) (.cmp .Eq (.var 1) (.tup [.lit (.int 0),.bin .Sub (.var 3) (.lit (.int 1))]))))] [],.ite (.bor (.cmp .Eq (.var 0) (.lit (.int 2))) (.cmp .Eq (.var 0) (.lit (.int 3)))) [.ret (.bor (.cmp .Eq (.var 0) (.lit (.int 2))) (.cmp .Eq (.idx (.var 1) (.lit (.int 0))) (.lit (.int 0))))] [],.ret (.chain .Lt .LtE (.idx (.var 1) (.lit (.int 0))) (.var 2) (.idx (.var 1) (.lit (.int 1))))]
def a6u':FT:=tbl []
def a3r':List D→Store→Res D:=runD a6u' G0 a6t' a6s'.length 4
def a7n':Ls:=["_law_way","_law_many","_law_wide"]
def a7o':List CS:=[.ret (.tup [.var 1,.blt .tuple [.comp false ["_law_tie","_law_way","_law_wide","_law_many"] [none,some 0,some 2,some 1] (.var 0) (.seq (.call "_law_pairs" [.var 1])) [.call "_law_tied" [.var 1,.var 0,.var 2,.var 3]] (.emit (.var 0))]])]
def a7p':FT:=tbl [("_law_pairs",a2x'),("_law_tied",a3r')]
def a4x':List D→Store→Res D:=runD a7p' G0 a7o' a7n'.length 3
def n_law:Ls:=["_law_script","_law_many","_law_way","_law_other","_law_due_here","_law_cell_here","_law_pen_here","_law_far","_law_bad"]
def l03A:CS:=.for_ (.var 1) (.range [.lit (.int 1),.lit (.int 9)]) [.for_ (.var 2) (.range [.lit (.int 4)]) [.ite (.band (.bor (.cmp .NotEq (.var 2) (.lit (.int 1))) (.cmp .Gt (.var 1) (.lit (.int 2)))) (.bnot (.call "_law_same" [.call "_law_told" [.var 2,.var 1,.lit (.non)],.call "_law_due" [.var 2,.var 1,.var 1]]))) [.ret (.lit (.bl false))] []],.for_ (.var 3) (.range [.lit (.int 1),.lit (.int 9)]) [.asg 4 (.ite (.cmp .Lt (.bin .Add (.var 1) (.var 3)) (.lit (.int 9))) (.call "_law_due" [.lit (.int 4),.bin .Add (.var 1) (.var 3),.var 1]) (.lit (.str "number"))),.ite (.bnot (.call "_law_same" [.call "_law_told" [.lit (.int 4),.var 1,.var 3],.var 4])) [.ret (.lit (.bl false))] []]]
def l03S:CE:=.seq (.bin .Add (.lst false [.call "_law_cell" [.var 0,.lit (.int 0)]]) (.sl (.var 0) [.lit (.int 1)] [.lit (.int 4)]))
def l03L:CE:=.lst false [.lit (.int 0),.lit (.int 9),.var 7,.bin .Sub (.lit (.int 0)) (.var 7),.lit (.non),.lit (.bl true),.lit (.bl false),.lit (.str "3"),.tup [.lit (.int 3)],.lst false [.lit (.int 3)],.dct,.bin .Pow (.lit (.int 10)) (.lit (.int 30))]
def l03K:CE:=.comp false ["_law_way","_law_bad"] [none,some 8] (.var 0) (.range [.lit (.int 5)]) [] (.emit (.call "_law_told" [.var 0,.var 1,.lit (.int 1)]))
def l03D:List CS:=[.ite (.bor (.cmp .NotEq (l03K) (.bin .Mult (.lst false [.lit (.str "number")]) (.lit (.int 5)))) (.cmp .NotEq (.call "_law_told" [.lit (.int 4),.lit (.int 1),.var 8]) (.lit (.str "number")))) [.ret (.lit (.bl false))] []]
def l03B:List CS:=[.asg 6 (.call "_law_pen" [.var 5]),.asg 7 (.bin .Add (.lit (.int 9)) (.call "_law_draw" [.var 6,.bin .Pow (.lit (.int 10)) (.lit (.int 20))])),.for_ (.var 8) (.seq l03L) l03D]
def l03R:CE:=.band (.cmp .Eq (.call "_law_told" [.lit (.int 1),.lit (.int 2),.lit (.non)]) (.lit (.str "number"))) (.cmp .Eq (.call "_law_told" [.lit (.int 1),.lit (.int 1),.lit (.non)]) (.lit (.str "number")))
def c_law:List CS:=[l03A,.for_ (.var 5) l03S l03B,.ret l03R]
def t_law:FT:=tbl [("_law_pen",a1g'),("_law_cell",a0N'),("_law_draw",a0F'),("_law_told",a0x'),("_law_due",a4x'),("_law_same",a3o')]
theorem a2P':t_law "_law_pen"=some a1g':=rfl
theorem a2n':t_law "_law_cell"=some a0N':=rfl
theorem a2o':t_law "_law_draw"=some a0F':=rfl
theorem a0L':t_law "_law_told"=some a0x':=rfl
def f_law:List D→Store→Res D:=runD t_law G0 c_law n_law.length 1
end K03
namespace Py
def cOf(K:Fg)(y:Str):Addr:=match PySem.W.nsIn K mainGlobals y with
 |some (some (.ref C))=>C
 |_=>0
def isCls(K:Fg)(y:Str):Bool:=match PySem.W.nsIn K mainGlobals y with
 |some (some (.ref _))=>true
 |_=>false
theorem a2Q'(h:isCls K y=true):PySem.W.nsIn K mainGlobals y=some (some (.ref (cOf K y))):=by
 unfold isCls at h;unfold cOf;split at h
 ·rename_i C e;rw[e]
 ·cases h
def excClsB(K:Fg)(C:Addr):Bool:=(PySem.W.clsIn K C).isSome&&(PySem.W.findIn K (.ref C) "__getattribute__"==some (some (.builtin "BaseException.__getattribute__"))&&(PySem.W.findIn K (.ref C) "__getattr__"==some none&&
 (PySem.W.findIn K (.ref C) "__class__"==some (some (.builtin "object.__class__"))&&(PySem.W.mroIn K C (.type "object")==some true&&(PySem.W.mroIn K C (.type "BaseException")==some true&&PySem.W.kitOne K (.ref C) (.type "ValueError")==some true)))))
def rzB(K:Fg):Rz→Bool
 | .cls x=>isCls K x&&PySem.W.excIn K (cOf K x) bmVE "ValueError.__new__"
 | .kind _ ys _=>isCls K "PairError"&&(PySem.W.specialIn K (.builtin "object.__class__") "__get__"==some (some (.builtin "getset_descriptor.__get__"))&&(PySem.W.takesIn K (.builtin "object.__class__")==some true&&(PySem.W.nsIn K mainGlobals "isinstance"==some none&&(PySem.W.nsIn K mainGlobals "ValueError"==some none&&
   ys.all λx=>isCls K x&&(excClsB K (cOf K x)&&(PySem.W.exmOne K (.ref (cOf K x)) (.ref (cOf K "PairError"))==some true&&ys.all λy=>PySem.W.kitOne K (.ref (cOf K x)) (.ref (cOf K y))==some (y==x)))))))
def kwB(ys ws:Ls):Bool:=decide (ys.length<1000)&&(decide (ws.length≤1000)&&ys.all λx=>decide ((ys.map (· ==x)).count true=1)&&decide (ws[(ys.map (· ==x)).idxOf true]?=(ys.zip ws).lookup x))
theorem a6v'{ys ws:Ls}{x r:Str}(h:(ys.zip ws).lookup x=some r):x∈ys:=(List.of_mem_zip (Zx h)).1
theorem xc_cls(X:K.In h)(G:h.Ns mainGlobals mg){x:Str}(hz:rzB K (.cls x)=true):XC P w K mg (.cls x):=
 ⟨cOf K x,PySem.W.mg_of X G (a2Q' (andB hz).1),(andB hz).2⟩
theorem xc_kind(X:K.In h)(G:h.Ns mainGlobals mg){f e0:Str}{fd:FuncData}{a b c d wd v ys ws:Ls}(hz:rzB K (.kind f ys ws)=true)(hw:kwB ys ws=true)(F:Fun K f f st fa fd)(hfa:PySem.W.nsIn K mainGlobals f=some (some (.ref fa)))
  (S:FnScope N [e0] (a0d' st)) (hb:Binds K fd [e0] []) (hem:emSs (kindC a b c d wd v) N (a0o' st)=a0o' st) (hk:(kindB (a0o' st)&&kindSc N ys (a0d' st))=true) (hy:ys=a++b++c++d) (hv:ws=wd++v):XC P w K mg (.kind f ys ws):=by
 subst hy;subst hv;obtain⟨z1,hz1⟩:=andB hz;obtain⟨z2,hz2⟩:=andB hz1;obtain⟨z3,hz3⟩:=andB hz2;obtain⟨z4,hz4⟩:=andB hz3;obtain⟨z5,hz5⟩:=andB hz4;obtain⟨w1,hw1⟩:=andB hw;obtain⟨w2,hw2⟩:=andB hw1;refine⟨fa,cOf K "PairError",PySem.W.mg_of X G hfa,F.kp,PySem.W.mg_of X G (a2Q' z1),λx r hl u hu=>?_⟩;have hx:=a6v' hl;obtain⟨q1,q0⟩:=andB (Zp.mp hz5 x hx);obtain⟨q2,q5⟩:=andB q0;obtain⟨q3,q4⟩:=andB q5;obtain⟨p1,s1⟩:=andB q2;obtain⟨p2,s2⟩:=andB s1;obtain⟨p3,s3⟩:=andB s2;obtain⟨p4,s4⟩:=andB s3;obtain⟨p5,s5⟩:=andB s4;obtain⟨p6,p7⟩:=andB s5;obtain⟨r1,r2⟩:=andB (Zp.mp hw2 x hx);have hmx:=PySem.W.mg_of X G (a2Q' q1);rw[hu]at hmx;cases hmx
 refine⟨_,rfl,ZT q3,λbase=>a9e' (bf:=λy=>y==x) F S hb hem (andB hk).1 (andB hk).2 ⟨ZT p7,⟨Option.isSome_iff_exists.mp p1,ZT p2,ZT p3,ZT p4,ZT p5,ZT p6,ZT z2,ZT z3⟩,λy hy=>?_⟩
  (PySem.W.mg_none_of X G (ZT z4)) (PySem.W.mg_none_of X G (ZT z5)) (of_decide_eq_true w1) (by simpa using of_decide_eq_true w2) (of_decide_eq_true r1) (by rw[←hl];exact of_decide_eq_true r2)⟩
 exact⟨cOf K y,PySem.W.mg_of X G (a2Q' (andB (Zp.mp hz5 y hy)).1),ZT (Zp.mp q4 y hy)⟩
end Py
namespace K03
def top(i:Nat):Stmt:=PySem.Challenge.pw_pairwebs_k03_kinds.main.body.getD i (.Pass ⟨0,0,0,0⟩)
def DefIn(K:Fg)(x:Str)(st:Stmt):Prop:=∃f fd,PySem.W.nsIn K mainGlobals x=some (some (.ref f))∧Fun K x x st f fd
theorem dm{x:Str}{an:Option Addr}{kV:Value}(a:PySem.W.nsIn K mainGlobals x=some (some (.ref f)))(l:K.lookup f=some ⟨oc,od,.func (PySem.W.fnOf x x (a1W' st) (a0o' st) (a0d' st) .none kV doc pm an cdv ct),osl⟩)
  (c:PySem.W.codeIn K cdv x=true) (k:PySem.W.keepIn K (.ref f)=true):DefIn K x st:=⟨f,_,a,fun_mk l c k⟩
def a7q'(N P:Ls)(sc:Scope):Bool:=(sc.kind== .function)&& !sc.isCoroutine&& !sc.isGenerator&&a4H' N&&(N.take P.length==P)&&P.all (λx=>sc.names.lookup x==some .local||sc.names.lookup x==some .cell)&&sc.names.all (λy=>y.2 !=.free)
theorem a1h'{P:Ls}{sc:Scope}(h:a7q' N P sc=true):FnScope N P sc:=by unfold a7q' at h;simp only[ZA,beq_iff_eq,Zp,Bool.or_eq_true,bne_iff_ne,Bool.not_eq_true']at h;obtain⟨⟨⟨⟨⟨⟨h1,h2⟩,h3⟩,h4⟩,h5⟩,h6⟩,h7⟩:=h;exact⟨h1,h2,h3,a1C' h4,h5,h6,h7⟩
def RZ:List Rz:=[.cls "NoNumber",.kind "_law_kinds" kys kws]
structure En (P:Program)(w:World)(K:Fg)(mg:Mg)(h:Heap):Prop where
 X:K.In h
 G:h.Ns mainGlobals mg
 hg:∀x d,G0 x=some d→∃v u,mg x=some u∧RelV v u∧∀F μ H,Rep K ⟨mg,F⟩ μ H d v
 hb:∀x∈a0Y',mg x=none
 xc:∀z∈RZ,XC P w K mg z
section
variable {j:Nat}
theorem fe{x:Str}(E:En P w K mg h)(d:DefIn K x st)
  (hb:∀(kV doc pm:Value) (an:Option Addr) (cdv ct:Value) (us:Lv),us.length=ps.length→bindArgs (PySem.W.fnOf x x (a1W' st) (a0o' st) (a0d' st) .none kV doc pm an cdv ct) ⟨us,[]⟩=pure (ps.zip us))
  (H:∀p∈l,FOk P w K mg base (CX1 P w) k p.1 p.2) (he:emSs body N (a0o' st)=a0o' st) (S:(a7q' N ps (a0d' st)&&(sdSs body N (a0d' st).names (a0o' st)&&(rzSs body).all λz=>decide (z∈RZ)))=true):FOk P w K mg base (CX1 P w) (k+1) x (runD (tbl l) G0 body N.length ps.length):=by
 obtain⟨f,fd,a,F⟩:=d;have S:=Bool.and_eq_true_iff.mp S;have S2:=Bool.and_eq_true_iff.mp S.2;exact fok F (a1h' S.1) (PySem.W.mg_of E.X E.G a) (F.binds hb) (mok H E.hg E.hb) he S2.1 λz hz=>E.xc z (of_decide_eq_true (Zp.mp S2.2 z hz))
theorem f0{x:Str}(E:En P w K mg h)(d:DefIn K x st)(S:a7q' N ps (a0d' st)=true)
  (hb:∀(kV doc pm:Value) (an:Option Addr) (cdv ct:Value) (us:Lv),us.length=ps.length→bindArgs (PySem.W.fnOf x x (a1W' st) (a0o' st) (a0d' st) .none kV doc pm an cdv ct) ⟨us,[]⟩=pure (ps.zip us)):FOk P w K mg base (CX1 P w) k x (λ_ _=>.fail):=by
 obtain⟨f,fd,a,F⟩:=d;exact fok0 F (a1h' S) (PySem.W.mg_of E.X E.G a) (F.binds hb)
theorem an:∀p∈([]:List (Str×(List D→Store→Res D))),FOk P w K mg base (CX1 P w) k p.1 p.2:=λp h=>(List.not_mem_nil h).elim
theorem ac{x:Str}(F:FOk P w K mg base (CX1 P w) j x φ)(hj:j≤k)(r:∀p∈l,FOk P w K mg base (CX1 P w) k p.1 p.2):∀p∈(x,φ)::l,FOk P w K mg base (CX1 P w) k p.1 p.2:=λp hp=>by
 rcases Zo.mp hp with rfl|h
 ·exact F.mono hj
 ·exact r p h
end
structure Df (K:Fg):Prop where
 d_is_number:DefIn K "is_number" (top 18)
 d_is_number_from:DefIn K "is_number_from" (top 19)
 d_must_be_count:DefIn K "must_be_count" (top 21)
 d_row:DefIn K "row" (top 22)
 d_ring:DefIn K "ring" (top 23)
 d_full:DefIn K "full" (top 24)
 d_star:DefIn K "star" (top 25)
 d_sides_web:DefIn K "sides_web" (top 26)
 d_law_pairs:DefIn K "_law_pairs" (top 29)
 d_law_same:DefIn K "_law_same" (top 30)
 d_law_cell:DefIn K "_law_cell" (top 31)
 d_law_pen:DefIn K "_law_pen" (top 32)
 d_law_draw:DefIn K "_law_draw" (top 33)
 d_law_told:DefIn K "_law_told" (top 34)
 d_law_tied:DefIn K "_law_tied" (top 35)
 d_law_due:DefIn K "_law_due" (top 36)
 d_law:DefIn K "law" (top 37)
 d_law_kinds:DefIn K "_law_kinds" (top 28)
section
variable (E9:En P w K mg h)(D9:Df K)
include E9 D9
theorem a3O':FOk P w K mg base (CX1 P w) 1 "is_number" a0A':=fe (ps:=["thing"]) E9 D9.d_is_number (λ_ _ _ _ _ _=>len1 λ_=>rfl) an rfl (by decide+kernel)
theorem a1O':FOk P w K mg base (CX1 P w) 2 "is_number_from" a0g':=fe (ps:=["thing","low","high"]) E9 D9.d_is_number_from (λ_ _ _ _ _ _=>len3 λ_ _ _=>rfl) (ac (a3O' E9 D9) (by decide) an) rfl (by decide+kernel)
theorem a0p':FOk P w K mg base (CX1 P w) 3 "must_be_count" a0b':=fe (ps:=["thing","least"]) E9 D9.d_must_be_count (λ_ _ _ _ _ _=>len2 λ_ _=>rfl) (ac (a1O' E9 D9) (by decide) an) rfl (by decide+kernel)
theorem ok_row:FOk P w K mg base (CX1 P w) 4 "row" f_row:=fe (ps:=["n"]) E9 D9.d_row (λ_ _ _ _ _ _=>len1 λ_=>rfl) (ac (a0p' E9 D9) (by decide) an) rfl (by decide+kernel)
theorem ok_ring:FOk P w K mg base (CX1 P w) 5 "ring" a7k':=fe (ps:=["n"]) E9 D9.d_ring (λ_ _ _ _ _ _=>len1 λ_=>rfl) (ac (a0p' E9 D9) (by decide) (ac (ok_row E9 D9) (by decide) an)) rfl (by decide+kernel)
theorem ok_full:FOk P w K mg base (CX1 P w) 4 "full" a7l':=fe (ps:=["n"]) E9 D9.d_full (λ_ _ _ _ _ _=>len1 λ_=>rfl) (ac (a0p' E9 D9) (by decide) an) rfl (by decide+kernel)
theorem ok_star:FOk P w K mg base (CX1 P w) 4 "star" a7m':=fe (ps:=["n"]) E9 D9.d_star (λ_ _ _ _ _ _=>len1 λ_=>rfl) (ac (a0p' E9 D9) (by decide) an) rfl (by decide+kernel)
theorem a3P':FOk P w K mg base (CX1 P w) 4 "sides_web" a0B':=fe (ps:=["a","b"]) E9 D9.d_sides_web (λ_ _ _ _ _ _=>len2 λ_ _=>rfl) (ac (a0p' E9 D9) (by decide) an) rfl (by decide+kernel)
theorem a3Q':FOk P w K mg base (CX1 P w) 1 "_law_pairs" a2x':=fe (ps:=["_law_many"]) E9 D9.d_law_pairs (λ_ _ _ _ _ _=>len1 λ_=>rfl) an rfl (by decide+kernel)
theorem a1L':∀n,FOk P w K mg base (CX1 P w) (0+n) "_law_same" (a1r' n)
 |0=>f0 (N:=a3n') (ps:=["_law_found","_law_due_here"]) E9 D9.d_law_same (by decide+kernel) (λ_ _ _ _ _ _=>len2 λ_ _=>rfl)
 |n+1=>fe (ps:=["_law_found","_law_due_here"]) (k:=0+n) E9 D9.d_law_same (λ_ _ _ _ _ _=>len2 λ_ _=>rfl) (ac (a1L' n) (Zi _) an) rfl (by decide+kernel)
theorem a2y':FOk P w K mg base (CX1 P w) 6 "_law_same" a3o':=a1L' E9 D9 6
theorem a2z':FOk P w K mg base (CX1 P w) 1 "_law_cell" a0N':=fe (ps:=["_law_script","_law_k"]) E9 D9.d_law_cell (λ_ _ _ _ _ _=>len2 λ_ _=>rfl) an rfl (by decide+kernel)
theorem a3s':FOk P w K mg base (CX1 P w) 1 "_law_pen" a1g':=fe (ps:=["_law_cell_here"]) E9 D9.d_law_pen (λ_ _ _ _ _ _=>len1 λ_=>rfl) an rfl (by decide+kernel)
theorem a2A':FOk P w K mg base (CX1 P w) 1 "_law_draw" a0F':=fe (ps:=["_law_pen_here","_law_many"]) E9 D9.d_law_draw (λ_ _ _ _ _ _=>len2 λ_ _=>rfl) an rfl (by decide+kernel)
theorem a2B':FOk P w K mg base (CX1 P w) 6 "_law_told" a0x':=fe (ps:=["_law_way","_law_one","_law_other"]) E9 D9.d_law_told (λ_ _ _ _ _ _=>len3 λ_ _ _=>rfl) (ac (ok_row E9 D9) (by decide) (ac (ok_ring E9 D9) (by decide) (ac (ok_full E9 D9) (by decide) (ac (ok_star E9 D9) (by decide) (ac (a3P' E9 D9) (by decide) an))))) rfl (by decide+kernel)
theorem a4X':FOk P w K mg base (CX1 P w) 1 "_law_tied" a3r':=fe (ps:=["_law_way","_law_tie","_law_wide","_law_many"]) E9 D9.d_law_tied (λ_ _ _ _ _ _=>len4 λ_ _ _ _=>rfl) an rfl (by decide+kernel)
theorem a3t':FOk P w K mg base (CX1 P w) 2 "_law_due" a4x':=fe (ps:=["_law_way","_law_many","_law_wide"]) E9 D9.d_law_due (λ_ _ _ _ _ _=>len3 λ_ _ _=>rfl) (ac (a3Q' E9 D9) (by decide) (ac (a4X' E9 D9) (by decide) an)) rfl (by decide+kernel)
theorem ok_law:FOk P w K mg base (CX1 P w) 7 "law" f_law:=fe (ps:=["_law_script"]) E9 D9.d_law (λ_ _ _ _ _ _=>len1 λ_=>rfl) (ac (a3s' E9 D9) (by decide) (ac (a2z' E9 D9) (by decide) (ac (a2A' E9 D9) (by decide) (ac (a2B' E9 D9) (by decide) (ac (a3t' E9 D9) (by decide) (ac (a2y' E9 D9) (by decide) an)))))) rfl (by decide+kernel)
end
def spLaw(K:Fg):Sp:=λvs H Q _=>∃(a:Addr) (ns:Li),vs=[.ref a]∧Only H∧SqL K H a (ns.map V.int)∧ns.length≤63∧∀H',Q (.bl true) H'
def Good(f:List D→Store→Res D):Prop:=∀ns:Li,ns.length≤63→∃S',f [.scr (ns.map D.int)] []=.ok (.bl true) S'
theorem a4y'{K:Fg}{mg:GS}{μ:La}{H:Hp}:∀ns:Li,RepL K mg μ H (ns.map D.int) (ns.map V.int)
 | []=>.nil
 |n::ns=>.cons a0H' (a4y' ns)
theorem sp_of{f:List D→Store→Res D}(g:Good f):∀vs H Q E,spLaw K vs H Q E→spOf K mg 1 f vs H Q E:=by
 rintro vs H Q E ⟨a,ns,rfl,ho,hs,hl,q⟩;refine⟨rfl,[],[],[],[.scr (ns.map D.int)],⟨λa h=>(by cases h),rfl,List.nodup_nil,λn a ds h=>(by cases h)⟩,.cons ?_ .nil,?_⟩
 ·unfold Rep;refine⟨a,ns.map V.int,rfl,?_,a4y' ns⟩;rcases hs with(h| ⟨o,h⟩)|h
  ·rcases ho a with z| ⟨o,xs,z⟩<;>rw[z]at h<;>cases h
  ·exact .inl ⟨o,h⟩
  ·exact .inr h
 ·obtain⟨S',e⟩:=g ns hl;rw[e];intro μ' H' b x s r;unfold Rep at r;rw[r];exact q H'
theorem all_mk{l:PySem.W.OpenLaw}(X:K.In h)(G:h.Ns mainGlobals mg)(hfa:mg "law"=some (.ref fa))(good:Good f_law)(D:Df K)(Z:∀x∈a0Y',PySem.W.nsIn K mainGlobals x=some none)
  {gi0:Tok} (mp0:PySem.W.nsIn K mainGlobals "MOST_PLACES"=some (some (.int 8 gi0))) (hz:RZ.all (rzB K)=true):
  ∃fd:FuncData,(∀(s:Shared) (v:Value),BindsTo s fd ⟨[v],[]⟩ [("_law_script",v)])∧∀base:Heap,K.In base→base.Ns mainGlobals mg→FnOk l.prog w K mg base (CX1 l.prog w) 7 fa fd ["_law_script"] (spLaw K):=by
 have hg:∀x d,G0 x=some d→∃v u,mg x=some u∧RelV v u∧∀F μ H,Rep K ⟨mg,F⟩ μ H d v:=λx d e=>by
  unfold G0 at e;rw[List.lookup_cons]at e;split at e
  ·rename_i hx;cases e;have hx':x="MOST_PLACES":=by simpa using hx
   subst hx';exact⟨.int 8,_,PySem.W.mg_of X G mp0,⟨_,rfl⟩,λ_ _ _=>a0H'⟩
  cases e
 have h1:=Zp.mp hz
 have xc:∀z∈RZ,XC l.prog w K mg z:=λz hm=>by
  have hb:=h1 z hm;simp only[RZ,Zo,List.mem_nil_iff,or_false]at hm;rcases hm with rfl|rfl
  ·exact xc_cls X G hb
  ·obtain⟨f,fd,a,F⟩:=D.d_law_kinds;exact xc_kind (e0:="_law_e") (N:=["_law_e","_law_found","_law_words"]) (a:=["NoWeb","NoPlace","NoPlaces","NoTie"]) (b:=["NoNumber","NoPairing","NoWay","NoRing"]) (c:=["NoArrows","NoSides","NoText","NoLine"]) (d:=["NoDeed","TooGreat"]) (wd:=["web","place","places","tie","number","pairing","way","ring","arrows","sides","text","line"]) (v:=["deed","great"]) X G hb (by decide+kernel) F a (a1h' (by decide+kernel)) (F.binds λ_ _ _ _ _ _=>len1 λ_=>rfl) rfl (by decide+kernel) rfl rfl
 have E:En l.prog w K mg h:=⟨X,G,hg,λx hx=>PySem.W.mg_none_of X G (Z x hx),xc⟩;obtain⟨f,fd,a,F⟩:=D.d_law;have e:=hfa.symm.trans (PySem.W.mg_of X G a);cases e;have S:FnScope n_law ["_law_script"] (a0d' (top 37)):=a1h' (by decide+kernel);refine⟨fd,λs v=>?_,λbase _ _=>?_⟩
 ·obtain⟨oc,od,kV,doc,pm,an,cdv,ct,osl,rfl,lk,hcd⟩:=F.ex;exact .of_eq rfl
 ·exact FnOk.imp (fnok (k:=6) F S (mok (ac (a3s' E D) (by decide) (ac (a2z' E D) (by decide) (ac (a2A' E D) (by decide) (ac (a2B' E D) (by decide) (ac (a3t' E D) (by decide) (ac (a2y' E D) (by decide) an)))))) hg E.hb) rfl (by decide+kernel) λz hm=>E.xc z (of_decide_eq_true (Zp.mp (by decide+kernel:((rzSs c_law).all λz=>decide (z∈RZ))=true) z hm))) (sp_of good)
mutual
theorem a4z'{k:Nat}:∀(d:D),lowD 0 d=true→lowD k d=true
 | .non,_=>rfl
 | .bl _,_=>rfl
 | .int _,_=>rfl
 | .str _,_=>rfl
 | .tup ds,h=>by unfold lowD at h⊢;exact a1A' ds h
 | .lst ds,h=>by unfold lowD at h⊢;exact a1A' ds h
 | .scr ds,h=>by unfold lowD at h⊢;exact a1A' ds h
 | .ref n,h=>by unfold lowD at h;simp at h
 | .fn y,_=>rfl
 | .ty y,_=>rfl
 | .dct,_=>rfl
theorem a1A'{k:Nat}:∀(ds:List D),lowL 0 ds=true→lowL k ds=true
 | [],_=>rfl
 |d::ds,h=>by unfold lowL at h⊢;simp only[ZA]at h⊢;exact⟨a4z' d h.1,a1A' ds h.2⟩
end
def Flat(S:Store):Prop:=∀xs∈S,lowL 0 xs=true
theorem Flat.all(h:Flat S):S.all (lowL k)=true:=Zp.mpr λxs hx=>a1A' xs (h xs hx)
theorem Flat.nil:Flat []:=λ_ h=>by cases h
theorem Flat.snoc{xs:List D}(h:Flat S)(hx:lowL 0 xs=true):Flat (S++[xs]):=λys hy=>by
 rcases ZC.mp hy with z|z
 ·exact h ys z
 ·have:ys=xs:=by simpa using z
  subst this;exact hx
theorem Flat.set{xs:List D}(h:Flat S)(hx:lowL 0 xs=true):Flat (S.set n xs):=λys hy=>by
 rcases List.mem_or_eq_of_mem_set hy with z|z
 ·exact h ys z
 ·subst z;exact hx
theorem a7r'(h:Flat (S'.take k))(hd:lowD 0 d=true):trim k d S'=.ok d (S'.take k):=by unfold trim;rw[if_pos h.all,if_pos (a4z' d hd)]
theorem a7s'(h:Flat S)(hd:lowD 0 d=true):trim S.length d S=.ok d S:=by rw[a7r' (by rw[List.take_length];exact h) hd,List.take_length]
theorem a3R'(hk:S.length=k)(h:Flat S)(hd:lowD 0 d=true):trim k d S=.ok d S:=by subst hk;exact a7s' h hd
theorem eqF_int(S:Store)(n:Nat)(a b:Int):eqF S (n+1) (.int a) (.int b)=some (a==b):=rfl
def PenAt(S:Store)(n:Nat):Prop:=∃a b,S[n]?=some [.int a,.int b]
theorem a0O'(hl:ds.length=np)(h:denSs Φ Γ body (ds.map some++List.replicate (n-np) none) S=.ok (.ret d) S')(hk:S'.length=S.length)(hf:Flat S')(hd:lowD 0 d=true):runD Φ Γ body n np ds S=.ok d S':=by unfold runD;rw[if_pos hl,h];exact a3R' hk hf hd
theorem a9h'(hl:ds.length=np)(h:denSs Φ Γ body (ds.map some++List.replicate (n-np) none) S=.ok (.next ρ) S')(hk:S'.length=S.length)(hf:Flat S'):runD Φ Γ body n np ds S=.ok .non S':=by unfold runD;rw[if_pos hl,h];exact a3R' hk hf rfl
theorem a3u'(hS:Flat S)(i:Int):a0A' [.int i] S=.ok (.bl true) S:=a0O' rfl rfl rfl hS rfl
theorem a0P'(hS:Flat S)(i lo hi:Int):a0g' [.int i,.int lo,.int hi] S=.ok (.bl (decide (lo≤i∧i≤hi))) S:=by refine a0O' rfl ?_ rfl hS rfl;simp[a0E',a0D',denSs,denS,denT,den,denL,Res.bind,Res.noErr,onBl,a0r',a3u' hS,cmpD,leD];by_cases h:lo≤i<;>simp[h]
theorem a3v'{c:CS}{cs:List CS}(h:denS Φ Γ c ρ S=.ok (.next ρ') S'):denSs Φ Γ (c::cs) ρ S=denSs Φ Γ cs ρ' S':=by rw[denSs,h];rfl
theorem ss_ret{c:CS}{cs:List CS}(h:denS Φ Γ c ρ S=.ok (.ret d) S'):denSs Φ Γ (c::cs) ρ S=.ok (.ret d) S':=by rw[denSs,h];rfl
theorem ss_for{t:CT}{it:CE}{its:Its}(h:denI Φ Γ it ρ S=.ok its S1):denS Φ Γ (.for_ t it body) ρ S=forI (λx ρ S=>match asgCT t x ρ with
   |some ρ'=>denSs Φ Γ body ρ' S
   |none=>.fail) its ρ S1:=by
 rw[denS,h];rfl
theorem ss_asg{i:Nat}{e:CE}{cs:List CS}(h:den Φ Γ e ρ S=.ok d S'):denSs Φ Γ (.asg i e::cs) ρ S=denSs Φ Γ cs (ρ.set i (some d)) S':=
 a3v' (by rw[denS,h];rfl)
theorem ss_ite{c:CE}{a b:List CS}{k:Bool}(h:denT Φ Γ c ρ S=.ok k S1):denS Φ Γ (.ite c a b) ρ S=if k=true then denSs Φ Γ a ρ S1 else denSs Φ Γ b ρ S1:=by rw[denS,h];rfl
section
variable {S2 S3:Store}{d2 r x y:D}{e a b:CE}
theorem s_retE(h:den Φ Γ e ρ S=.ok d S1):denS Φ Γ (.ret e) ρ S=.ok (.ret d) S1:=by rw[denS,h];rfl
end
section
variable {A B:List D}
end
theorem cell_eq(hS:Flat S)(ns:Li):∃c:Int,a0N' [.scr (ns.map D.int),.int 0] S=.ok (.int c) S:=by
 cases ns with
 |nil=>exact⟨0,a0O' rfl rfl rfl hS rfl⟩
 |cons n ns=>
  refine⟨n,a0O' rfl ?_ rfl hS rfl⟩;have h1:lenD [.scr ((n::ns).map D.int)] S=.ok (.int ((n::ns).map D.int).length) S:=rfl
  have h2:cmpD .Lt (.int 0) (.int ((n::ns).map D.int).length) S=.ok (.bl true) S:=by have:cmpD .Lt (.int 0) (.int ((n::ns).map D.int).length) S=.ok (.bl (decide ((0:Int)<((n::ns).map D.int).length))) S:=rfl;rw[this,ZS (by simp)]
  have h3:idxD (.scr ((n::ns).map D.int)) (.int 0) S=.ok (.int n) S:=by
   unfold idxD
   have:atI ((n::ns).map D.int) 0=some (.int n):=by
    unfold atI ixN;simp
    try omega
   simp only[seqOf,this]
  generalize(n::ns).map D.int=xs at h1 h2 h3;simp[a3q',a3p',denSs,denS,denT,den,denL,Res.bind,Res.noErr,onBl,bltD,h1,h2,h3]
theorem pen_eq(hS:Flat S)(c:Int):∃b:Int,a1g' [.int c] S=.ok (.ref S.length) (S++[[.int c,.int b]]):=by
 refine⟨if decide ((10:Int)^18≤c)=true then 1 else 0,?_⟩;have e:denSs a2O' G0 a1V' ([D.int c].map some++List.replicate (a1U'.length-1) none) S=.ok (.ret (.ref S.length)) (S++[[.int c,.int (if decide ((10:Int)^18≤c)=true then 1 else 0)]]):=by have h1:powD (.int 10) (.int 18) S=.ok (.int ((10:Int)^18)) S:=rfl;have h2:cmpD .GtE (.int c) (.int ((10:Int)^18)) S=.ok (.bl (decide ((10:Int)^18≤c))) S:=rfl;have h3:∀k,intD [.bl k] S=.ok (.int (if k=true then 1 else 0)) S:=λk=>rfl;generalize(10:Int)^18=T at*;simp only[a1V',a1U',denSs,denS,den,denL,Res.bind,Res.noErr,bltD,opD,h1,h2,h3,List.map_cons,List.map_nil,ZF,List.length_nil,List.cons_append,List.getElem?_cons_zero,if_true]
 show runD a2O' G0 a1V' a1U'.length 1 [.int c] S=_;unfold runD;rw[if_pos (show [D.int c].length=1 from rfl),e];show trim S.length (.ref S.length) _=_;unfold trim;rw[List.take_left' rfl,if_pos hS.all,if_neg (by unfold lowD;simp)];simp[lowL,lowD]
theorem a4Y':a1g'=K03.a1g':=rfl
theorem a3S':a0N'=K03.a0N':=rfl
theorem a0Q':a0g'=K03.a0g':=rfl
theorem a0T'{x:Exc}(hl:ds.length=np)(h:denSs Φ Γ body (ds.map some++List.replicate (n-np) none) S=.err x S)(hS:Flat S):runD Φ Γ body n np ds S=.err x S:=by unfold runD;rw[if_pos hl,h];dsimp only;rw[List.take_length,if_pos hS.all]
abbrev noN:Exc:=⟨"NoNumber",[]⟩
def Nob(d:D)(l:Int):Prop:=∀S,Flat S→a0g' [d,.int l,.int 8] S=.ok (.bl false) S
theorem a7X':a0z'=[.ite (.bnot (.call "is_number_from" [.var 0,.var 1,.glob "MOST_PLACES"])) [.raise_ "NoNumber" [cnF]] []]:=rfl
theorem cn_F{l:Int}(hl:l=1∨l=3):∃x,den a0t' G0 cnF [some d,some (.int l)] S=.ok (.str x) S:=by
 rcases hl with rfl|rfl
 ·exact⟨_,rfl⟩
 ·exact⟨_,rfl⟩
theorem a1G'(hS:Flat S){l:Int}(hl:l=1∨l=3)(h:Nob d l):a0b' [d,.int l] S=.err noN S:=by refine a0T' rfl ?_ hS;have h1:=h S hS;obtain⟨x,h2⟩:=cn_F (d:=d) (S:=S) hl;have h3:G0 "MOST_PLACES"=some (.int 8):=rfl;show denSs a0t' G0 a0z' [some d,some (.int l)] S=_;rw[a7X'];simp[denSs,denS,denT,den,denL,Res.bind,Res.noErr,a0i',h1,h2,h3,truD]
theorem a7t'(hS:Flat S):a0b' [.int 1,.int 1] S=.ok .non S:=by refine a9h' (ρ:=[some (.int 1),some (.int 1)]) rfl ?_ rfl hS;have h1:=K03.a0P' hS 1 1 8;rw[←a0Q']at h1;have h3:G0 "MOST_PLACES"=some (.int 8):=rfl;show denSs a0t' G0 a0z' [some (.int 1),some (.int 1)] S=_;rw[a7X'];simp[denSs,denS,denT,den,denL,Res.bind,Res.noErr,a0i',h1,h3,truD]
theorem row_no(hS:Flat S)(h:Nob d 1):f_row [d] S=.err noN S:=by have e:=a1G' hS (.inl rfl) h;refine a0T' rfl ?_ hS;simp[c_row,n_row,denSs,denS,den,denL,Res.bind,a1q',e]
theorem a6w'(hS:Flat S)(h:Nob d 3):a7k' [d] S=.err noN S:=by have e:=a1G' hS (.inr rfl) h;refine a0T' rfl ?_ hS;simp[c_ring,n_ring,denSs,denS,den,denL,Res.bind,a1j',e]
theorem full_no(hS:Flat S)(h:Nob d 1):a7l' [d] S=.err noN S:=by have e:=a1G' hS (.inl rfl) h;refine a0T' rfl ?_ hS;simp[c_full,n_full,denSs,denS,den,denL,Res.bind,a1k',e]
theorem star_no(hS:Flat S)(h:Nob d 1):a7m' [d] S=.err noN S:=by have e:=a1G' hS (.inl rfl) h;refine a0T' rfl ?_ hS;simp[c_star,n_star,denSs,denS,den,denL,Res.bind,a1l',e]
theorem a9i'{b:D}(hS:Flat S)(h:Nob d 1):a0B' [d,b] S=.err noN S:=by have e:=a1G' hS (.inl rfl) h;refine a0T' rfl ?_ hS;simp[a1F',a1E',denSs,denS,den,denL,Res.bind,a0u',e]
theorem a7u'(hS:Flat S)(h:Nob d 1):a0B' [.int 1,d] S=.err noN S:=by have e1:=a7t' hS;have e:=a1G' hS (.inl rfl) h;refine a0T' rfl ?_ hS;simp[a1F',a1E',denSs,denS,den,denL,Res.bind,a0u',e,e1]
theorem c_td_is:a2d'=[.tryK 3 tdB "_law_kinds" kys kws]:=rfl
theorem a6x'{w a b:D}(hS:Flat S)(h:denSs a0l' G0 tdB [some w,some a,some b,none] S=.err noN S):a0x' [w,a,b] S=.ok (.str "number") S:=by
 refine a0O' rfl ?_ rfl hS rfl;show denSs a0l' G0 a2d' [some w,some a,some b,none] S=_;have hl:(kys.zip kws).lookup (Str.ofString "NoNumber")=some (Str.ofString "number"):=by decide+kernel
 rw[c_td_is];refine ss_ret ?_;rw[denS,h];simp only[hl]
theorem four{i:Int}:cmpD .Eq (.int i) (.int 4) S=.ok (.bl (i==4)) S:=rfl
theorem told4{a b:D}(hS:Flat S)(h:a0B' [a,b] S=.err noN S):a0x' [.int 4,a,b] S=.ok (.str "number") S:=by refine a6x' hS ?_;simp[tdB,denSs,denS,denT,den,denL,Res.bind,Res.noErr,onBl,four,a1m',h]
theorem toldW{a b:D}{w:Int}{f:Str}(hS:Flat S)(h4:(w==4)=false)(h0:0≤w)(hf:(["row","ring","full","star"]:Ls)[w.toNat]?=some f)(hΦ:a0l' f=some φ)(h:φ [a] S=.err noN S):a0x' [.int w,a,b] S=.ok (.str "number") S:=by
 refine a6x' hS ?_;have hall:((["row","ring","full","star"]:Ls).all λf=>(a0l' f).isSome)=true:=rfl
 have e:den a0l' G0 (.sel ["row","ring","full","star"] (.var 0) [.var 1]) [some (.int w),some a,some b,none] S=.err noN S:=by rw[den,if_pos ⟨hall,by decide⟩];simp[den,denL,Res.bind,h0,hf,hΦ,h]
 have ht:denT a0l' G0 (.cmp .Eq (.var 0) (.lit (.int 4))) [some (.int w),some a,some b,none] S=.ok false S:=by simp[denT,den,Res.bind,Res.noErr,onBl,four,h4]
 unfold tdB;simp only[denSs,denS,ht,Res.bind,ZD,if_false,e]
theorem a9j'{b:D}(hS:Flat S)(h1:Nob d 1)(h3:Nob d 3):∀w:Int,0≤w∧w<5→a0x' [.int w,d,b] S=.ok (.str "number") S:=by
 intro w hw;rcases(by omega:w=0∨w=1∨w=2∨w=3∨w=4)with rfl|rfl|rfl|rfl|rfl
 ·exact toldW hS rfl (by decide) rfl a2m' (row_no hS h1)
 ·exact toldW hS rfl (by decide) rfl a0G' (a6w' hS h3)
 ·exact toldW hS rfl (by decide) rfl a2e' (full_no hS h1)
 ·exact toldW hS rfl (by decide) rfl a2f' (star_no hS h1)
 ·exact told4 hS (a9i' hS h1)
theorem a6y':c_law=[l03A,.for_ (.var 5) l03S l03B,.ret l03R]:=rfl
theorem first03(s0:Option D):denS t_law G0 l03A [s0,none,none,none,none,none,none,none,none] []=.ok (.next [s0,some (.int 8),some (.int 3),some (.int 8),some (.str "number"),none,none,none,none]) []:=by kernel_rfl
section
variable {T:Store}
theorem a4A'{i l:Int}(h:¬(l≤i∧i≤8)):Nob (.int i) l:=λS hS=>by have e:=K03.a0P' hS i l 8;rw[←a0Q',Zy h]at e;exact e
theorem nob_of{l:Int}(h:∀S,Flat S→a0A' [d] S=.ok (.bl false) S):Nob d l:=λS hS=>by have e:=h S hS;refine a0O' rfl ?_ rfl hS rfl;simp[a0E',a0D',denSs,denS,denT,den,denL,Res.bind,Res.noErr,onBl,a0r',e]
def Bads(d:D):Prop:=Nob d 1∧Nob d 3
theorem a3w'{i:Int}(h:¬(1≤i∧i≤8)):Bads (.int i):=⟨a4A' h,a4A' (by omega)⟩
theorem a3T'(h:∀S,Flat S→a0A' [d] S=.ok (.bl false) S):Bads d:=⟨nob_of h,nob_of h⟩
theorem a9k'(hS:Flat S)(hp:PenAt S n):∃r a b,0≤r∧r<(10:Int)^20∧a0F' [.ref n,.int (10^20)] S=.ok (.int r) (S.set n [.int a,.int b]):=by
 obtain⟨a,b,h⟩:=hp;have hl:=(Ze.mp h).1;have fl:∀x y:Int,Flat (S.set n [.int x,.int y]):=λx y=>hS.set rfl;have tr:∀(r x y:Int),trim S.length (.int r) (S.set n [.int x,.int y])=.ok (.int r) (S.set n [.int x,.int y]):=λr x y=>a3R' (by simp) (fl x y) rfl;have h0:(0:Int)<10^20:=by decide
 have hq:∀x:Int,fdivD (.int x) (.int (10^20)) S=.ok (.int (x/10^20)) S:=λx=>by unfold fdivD;simp only[];rw[if_neg (by decide),if_pos (by decide)]
 by_cases hb:b=1
 ·subst hb;refine⟨a%10^20,a/10^20,1,Int.emod_nonneg _ (by decide),Int.emod_lt_of_pos _ h0,?_⟩;rw[←tr];generalize(10:Int)^20=m at*;simp[a0F',runD,a2c',a2b',denSs,denS,denT,den,denL,Res.bind,Res.noErr,onBl,idxD,seqOf,h,atI,ixN,cmpD,boolR,eqF,sh,eqS,deep,opD,modD,hq,setD,h0]
 ·have hb':(b==1)=false:=by simpa using hb
  have hp0:0≤(a%2147483629*48271+11)%2147483629:=Int.emod_nonneg _ (by omega);have hp1:(a%2147483629*48271+11)%2147483629<2147483629:=Int.emod_lt_of_pos _ (by omega)
  have e0:∀p:Int,(a%2147483629*48271+11)%2147483629=p→a0F' [.ref n,.int (10^20)] S=.ok (.int ((p*p+40692*p)%2147483647/8%10^20)) (S.set n [.int p,.int b]):=λp hp=>by
   rw[hp]at hp0 hp1;have h2: -(18446744073709551616:Int)<p:=by omega
   have h3:p<(18446744073709551616:Int):=by omega
   have hs:∀x,(S.set n x)[n]?=some x:=λx=>ZM hl;have hss:∀x y:List D,(S.set n x).set n y=S.set n y:=λx y=>List.set_set ..;clear hl hq;rw[←tr];generalize(10:Int)^20=m at*;simp[a0F',runD,a2c',a2b',denSs,denS,denT,den,denL,Res.bind,Res.noErr,onBl,idxD,seqOf,h,atI,ixN,cmpD,boolR,eqF,sh,eqS,deep,opD,modD,fdivD,mulD,addD,setD,h0,hb',hb,hs,hss,hp,h2,h3]
  exact⟨_,_,b,Int.emod_nonneg _ (by decide),Int.emod_lt_of_pos _ h0,e0 _ rfl⟩
theorem a9l'(hT:Flat T)(h:Bads d){s0 x1 x2 x3 x4 x5 x6 x7:Option D}:denSs t_law G0 l03D [s0,x1,x2,x3,x4,x5,x6,x7,some d] T=.ok (.next [s0,x1,x2,x3,x4,x5,x6,x7,some d]) T:=by
 have ht:=a9j' (b:=.int 1) hT h.1 h.2;have h0:=ht 0 (by decide);have h1:=ht 1 (by decide);have h2:=ht 2 (by decide);have h3:=ht 3 (by decide);have h4:=ht 4 (by decide);have h5:=told4 hT (a7u' hT h.1);have hr:denI t_law G0 (.range [.lit (.int 5)]) [s0,x1,x2,x3,x4,x5,x6,x7,some d] T=.ok (.items [.int 0,.int 1,.int 2,.int 3,.int 4]) T:=rfl
 have hk:den t_law G0 l03K [s0,x1,x2,x3,x4,x5,x6,x7,some d] T=.ok (.lst [.str "number",.str "number",.str "number",.str "number",.str "number"]) T:=by unfold l03K;rw[den,hr];simp[Res.bind,compI,compD,a1Y',isNew,slots,a5C',asgCT,asgVs,denTs,denB,den,denL,a0L',h0,h1,h2,h3,h4,Res.noErr,big]
 have e1:opD .Mult (.lst [.str "number"]) (.int 5) T=.ok (.lst [.str "number",.str "number",.str "number",.str "number",.str "number"]) T:=rfl;have e2:cmpD .NotEq (.lst [.str "number",.str "number",.str "number",.str "number",.str "number"]) (.lst [.str "number",.str "number",.str "number",.str "number",.str "number"]) T=.ok (.bl false) T:=rfl;have e3:cmpD .NotEq (.str "number") (.str "number") T=.ok (.bl false) T:=rfl;unfold l03D;refine(a3v' (ρ':=[s0,x1,x2,x3,x4,x5,x6,x7,some d]) (S':=T) ?_).trans rfl;rw[ss_ite (k:=false) (S1:=T) (by simp only[denT,den,denL,hk,e1,e2,e3,h5,Res.bind,Res.noErr,onBl,a0L',List.getElem?_cons_zero,List.getElem?_cons_succ,ZD,if_false]),if_neg (by decide)];rfl
end
section
variable {T:Store}
theorem a2g'{step:D→Rho→Store→Res Fl}(P:Rho→Store→Prop):∀(ds:List D),(∀d∈ds,∀ρ S,P ρ S→∃ρ' S',P ρ' S'∧step d ρ S=.ok (.next ρ') S')→∀ρ S,P ρ S→∃ρ' S',P ρ' S'∧forD step ds ρ S=.ok (.next ρ') S'
 | [],_,ρ,S,h=>⟨ρ,S,h,rfl⟩
 |d::ds,hs,ρ,S,h=>by obtain⟨ρ1,S1,h1,e1⟩:=hs d Zc ρ S h;obtain⟨ρ2,S2,h2,e2⟩:=a2g' P ds (λd hd=>hs d (Zb _ hd)) ρ1 S1 h1;refine⟨ρ2,S2,h2,?_⟩;rw[forD,e1];exact e2
theorem boxE03{A:List D}:(S++[A])[S.length]?=some A:=by simp
theorem a7v'(hT:Flat T)(c:Int){s0 x1 x2 x3 x4 x6 x7 x8:Option D}:∃ρ' T',(∃y6 y7 y8,ρ'=[s0,x1,x2,x3,x4,some (.int c),y6,y7,y8])∧Flat T'∧denSs t_law G0 l03B [s0,x1,x2,x3,x4,some (.int c),x6,x7,x8] T=.ok (.next ρ') T':=by
 obtain⟨b,ep⟩:=K03.pen_eq hT c;rw[←a4Y']at ep;have hT1:Flat (T++[[D.int c,D.int b]]):=hT.snoc rfl;obtain⟨r,a',b',r0,r1,ed⟩:=a9k' hT1 (n:=T.length) ⟨c,b,boxE03⟩;have hT2:Flat ((T++[[D.int c,D.int b]]).set T.length [D.int a',D.int b']):=hT1.set rfl;generalize(T++[[D.int c,D.int b]]).set T.length [D.int a',D.int b']=U at*;generalize T++[[D.int c,D.int b]]=V at*;have hpow:opD .Pow (.int 10) (.int 20) V=.ok (.int (10^20)) V:=rfl;have hpow2:opD .Pow (.int 10) (.int 30) U=.ok (.int (10^30)) U:=rfl;have ha:opD .Add (.int 9) (.int r) U=.ok (.int (9+r)) U:=rfl;have hs:opD .Sub (.int 0) (.int (9+r)) U=.ok (.int (0-(9+r))) U:=rfl
 have hl:denI t_law G0 (.seq l03L) [s0,x1,x2,x3,x4,some (.int c),some (.ref T.length),some (.int (9+r)),x8] U=.ok (.items [.int 0,.int 9,.int (9+r),.int (0-(9+r)),.non,.bl true,.bl false,.str "3",.tup [.int 3],.lst [.int 3],.dct,.int (10^30)]) U:=by simp only[l03L,denI,den,denL,Res.bind,Res.noErr,hs,hpow2,List.getElem?_cons_zero,List.getElem?_cons_succ,a5D',ZD,if_false]
 obtain⟨ρ',S',⟨y8,rfl,rfl⟩,ef⟩:=a2g' (step:=λx ρ S=>match asgCT (.var 8) x ρ with
   |some ρ'=>denSs t_law G0 l03D ρ' S
   |none=>.fail) (λρ W=>∃x8,ρ=[s0,x1,x2,x3,x4,some (.int c),some (.ref T.length),some (.int (9+r)),x8]∧W=U) [.int 0,.int 9,.int (9+r),.int (0-(9+r)),.non,.bl true,.bl false,.str "3",.tup [.int 3],.lst [.int 3],.dct,.int (10^30)] (by
    rintro d hd ρ W ⟨x8,rfl,rfl⟩
    have hb:Bads d:=by
     simp only[Zo,List.not_mem_nil,or_false]at hd;rcases hd with rfl|rfl|rfl|rfl|rfl|rfl|rfl|rfl|rfl|rfl|rfl|rfl
     ·exact a3w' (by decide)
     ·exact a3w' (by decide)
     ·exact a3w' (by omega)
     ·exact a3w' (by omega)
     ·exact a3T' λS hS=>a0O' rfl rfl rfl hS rfl
     ·exact a3T' λS hS=>a0O' rfl rfl rfl hS rfl
     ·exact a3T' λS hS=>a0O' rfl rfl rfl hS rfl
     ·exact a3T' λS hS=>a0O' rfl rfl rfl hS rfl
     ·exact a3T' λS hS=>a0O' rfl rfl rfl hS rfl
     ·exact a3T' λS hS=>a0O' rfl rfl rfl hS rfl
     ·exact a3T' λS hS=>a0O' rfl rfl rfl hS rfl
     ·exact a3w' (by decide)
    refine⟨[s0,x1,x2,x3,x4,some (.int c),some (.ref T.length),some (.int (9+r)),some d],_,⟨some d,rfl,rfl⟩,?_⟩;have hA:asgCT (.var 8) d [s0,x1,x2,x3,x4,some (.int c),some (.ref T.length),some (.int (9+r)),x8]=some [s0,x1,x2,x3,x4,some (.int c),some (.ref T.length),some (.int (9+r)),some d]:=rfl;simp only[hA];exact a9l' hT2 hb) [s0,x1,x2,x3,x4,some (.int c),some (.ref T.length),some (.int (9+r)),x8] U ⟨x8,rfl,rfl⟩
 refine⟨_,S',⟨some (.ref T.length),some (.int (9+r)),y8,rfl⟩,hT2,?_⟩;unfold l03B;rw[ss_asg (d:=.ref T.length) (S':=V) (by simp only[den,denL,Res.bind,a2P',ep,List.getElem?_cons_zero,List.getElem?_cons_succ])];show denSs _ _ _ [s0,x1,x2,x3,x4,some (.int c),some (.ref T.length),x7,x8] V=_;rw[ss_asg (d:=.int (9+r)) (S':=S') (by simp only[den,denL,Res.bind,Res.noErr,a2o',hpow,ed,ha,List.getElem?_cons_zero,List.getElem?_cons_succ])];show denSs _ _ _ [s0,x1,x2,x3,x4,some (.int c),some (.ref T.length),some (.int (9+r)),x8] S'=_;refine(a3v' (ρ':=[s0,x1,x2,x3,x4,some (.int c),some (.ref T.length),some (.int (9+r)),y8]) (S':=S') ?_).trans rfl;rw[ss_for hl];exact ef
theorem cells03(hS:Flat S)(hl:ns.length≤63){x:List (Option D)}:∃cs:Li,denI t_law G0 l03S (some (.scr (ns.map D.int))::x) S=.ok (.items (cs.map D.int)) S:=by
 obtain⟨c,ec⟩:=K03.cell_eq hS ns;rw[←a3S']at ec;obtain⟨cs,hc,hcl⟩:∃cs:Li,cutL (ns.map D.int) (some 1) (some 4)=cs.map D.int∧cs.length≤63:=by refine⟨(ns.drop _).take _,by unfold cutL;rw[←List.map_drop,←List.map_take],?_⟩;simp;omega
 refine⟨c::cs,?_⟩;have h1:slD (.scr (ns.map D.int)) (some 1) (some 4) S=.ok (.lst (cs.map D.int)) S:=by rw[←hc];rfl
 have h2:addD (.lst [.int c]) (.lst (cs.map D.int)) S=.ok (.lst ([.int c]++cs.map D.int)) S:=by show(if 1+(cs.map D.int).length≤big then Res.ok (D.lst ([.int c]++cs.map D.int)) S else .fail)=_;rw[if_pos (by unfold big;simp;omega)]
 simp[l03S,denI,den,denL,Res.bind,Res.noErr,a2n',ec,optL,toOpt,h1,opD,h2,a5D']
theorem end03(hS:Flat S):den t_law G0 l03R ρ S=.ok (.bl true) S:=by have h1:a0x' [.int 1,.int 2,.non] S=.ok (.str "number") S:=toldW hS rfl (by decide) rfl a0G' (a6w' hS (a4A' (by decide)));have h2:a0x' [.int 1,.int 1,.non] S=.ok (.str "number") S:=toldW hS rfl (by decide) rfl a0G' (a6w' hS (a4A' (by decide)));have e3:cmpD .Eq (.str "number") (.str "number") S=.ok (.bl true) S:=rfl;simp only[l03R,den,denL,Res.bind,Res.noErr,a0L',h1,h2,e3,onBl,if_true]
end
theorem good:Good f_law:=by
 intro ns hl;obtain⟨cs,hcs⟩:=cells03 (S:=[]) Flat.nil hl (x:=[some (.int 8),some (.int 3),some (.int 8),some (.str "number"),none,none,none,none])
 obtain⟨ρ',S',⟨x5,x6,x7,x8,rfl,hS'⟩,hf⟩:=a2g' (step:=λx ρ S=>match asgCT (.var 5) x ρ with
   |some ρ'=>denSs t_law G0 l03B ρ' S
   |none=>.fail) (λρ S=>∃x5 x6 x7 x8,ρ=[some (.scr (ns.map D.int)),some (.int 8),some (.int 3),some (.int 8),some (.str "number"),x5,x6,x7,x8]∧Flat S) (cs.map D.int) (by rintro x hx ρ S ⟨x5,x6,x7,x8,rfl,hS⟩;obtain⟨c,_,rfl⟩:=List.mem_map.mp hx;obtain⟨ρ',T',⟨y6,y7,y8,rfl⟩,hT',e⟩:=a7v' hS c (s0:=some (.scr (ns.map D.int))) (x1:=some (.int 8)) (x2:=some (.int 3)) (x3:=some (.int 8)) (x4:=some (.str "number")) (x6:=x6) (x7:=x7) (x8:=x8);exact⟨_,T',⟨some (.int c),y6,y7,y8,rfl,hT'⟩,e⟩) [some (.scr (ns.map D.int)),some (.int 8),some (.int 3),some (.int 8),some (.str "number"),none,none,none,none] [] ⟨_,_,_,_,rfl,Flat.nil⟩
 have hd:denSs t_law G0 c_law [some (.scr (ns.map D.int)),none,none,none,none,none,none,none,none] []=.ok (.ret (.bl true)) S':=by
  rw[a6y'];refine(a3v' (first03 _)).trans ?_;refine(a3v' (ρ':=[some (.scr (ns.map D.int)),some (.int 8),some (.int 3),some (.int 8),some (.str "number"),x5,x6,x7,x8]) (S':=S') ?_).trans ?_
  ·rw[ss_for hcs];exact hf
  ·exact ss_ret (K03.s_retE (end03 hS'))
 refine⟨[],?_⟩;show runD t_law G0 c_law n_law.length 1 [.scr (ns.map D.int)] []=_;unfold runD;rw[if_pos (show [D.scr (ns.map D.int)].length=1 from rfl)];rw[show denSs t_law G0 c_law ([D.scr (ns.map D.int)].map some++List.replicate (n_law.length-1) none) []=_ from hd];rfl
end K03
section
namespace K03
theorem walk{l:PySem.W.OpenLaw}{d:DefRec}{K:Params→Fg}(hn:l.most=some 63)(hdf:d.params.defaults=[])
  (hY:∀(w:World) (h:Heap),YP w h→(K w.params).In h)
  (F:∀(w:World) (mg:Mg) (fa:Addr) (h:Heap),(K w.params).In h→h.Ns mainGlobals mg→mg d.name=some (.ref fa)→
   ∃fd:FuncData,(∀(s:Shared) (u:Value),BindsTo s fd ⟨[u],[]⟩ [("_law_script",u)])∧∀base:Heap,(K w.params).In base→base.Ns mainGlobals mg→FnOk l.prog w (K w.params) mg base (CX1 l.prog w) 7 fa fd ["_law_script"] (spLaw (K w.params))):
  PySem.W.WalkO q loose XP YP l.row.toRowW d [] (λf vs=>PySem.call f vs):=
 L2.walk_of (n:=63) (k:=7) (x:="_law_script") (CX:=λw=>CX1 l.prog w) (sp:=λw=>spLaw (K w.params)) hn (by decide) hdf ⟨rfl,by decide,by decide,rfl⟩ hY F (λ_ _ a ns hl hO hS=>⟨a,ns,rfl,hO,hS,hl,λ_=>rfl⟩) λ_ _ _ _ _ z=>cx1_0 _ _ _ _ _ z
end K03
namespace PySem.W.Fast
def tw10706657506422192549:=Nat
def tw7608093247303393423:=Nat
def tw13769623455429069200:=Nat
def tw12475124176966119414:=Nat
def tw16697839533185915931:=Nat
def tw16259563631619418563:=Nat
def tw1219365641996620857:=Nat
def tw16629264962676746715:=Nat
def tw5843045950232251329:=Nat
def tw7658782186277876708:=Nat
def tw16621861701531659366:=Nat
def tw16167606867244067802:=Nat
def tw645118545955281532:=Nat
def tw14920299307425579141:=Nat
def tw13319656526974100812:=Nat
def tw1016463259029555288:=Nat
def tw18128549609164377096:=Nat
def tw3013305401674858186:=Nat
def tw13872136352434152671:=Nat
def tw9720762152224303052:=Nat
def tw2317561076115189117:=Nat
def tw8051303718445492682:=Nat
def tw15373851626639891831:=Nat
def tw707364592335955326:=Nat
def tw594677898208319874:=Nat
def tw14306782086665213573:=Nat
def tw15031584387755872989:=Nat
def tw11555506071776679682:=Nat
def tw9856758931624136324:=Nat
def tw1919898124634826999:=Nat
def tw2268959317035078418:=Nat
def tw945075284846930370:=Nat
def tw4590396149322271278:=Nat
def tw2344336492471957555:=Nat
def tw5481256079517267430:=Nat
def tw2310605856463669741:=Nat
def tw15114706879101366502:=Nat
def tw11357243495948485239:=Nat
def tw3040385035653654199:=Nat
def tw7152453482616186104:=Nat
def tw15597886552029353852:=Nat
def tw16201274588928407529:=Nat
def tw6071367152229591753:=Nat
def tw6002198066814106724:=Nat
def tw15589133453021046788:=Nat
def tw15290328593186405761:=Nat
def tw3285559335960736063:=Nat
def tw2911690097839485587:=Nat
def tw1633925051842170421:=Nat
def tw18173684210436165727:=Nat
def tw13340572604903806825:=Nat
def tw3990373782486139928:=Nat
def tw3247285497574762690:=Nat
def tw4097298808756788067:=Nat
def tw1567476527359276754:=Nat
def tw5823783747778058749:=Nat
def tw1038393084468981449:=Nat
def tw13628028118378064113:=Nat
def tw15070917259351142270:=Nat
def tw16809816365077290621:=Nat
def tw17780921547168021909:=Nat
def tw12063886962095646523:=Nat
def tw6242849297835221281:=Nat
def tw7869017371608026738:=Nat
def tw6074270762430313968:=Nat
def tw1576696877017959275:=Nat
def tw3639742373159438450:=Nat
def tw14973928678442784222:=Nat
def tw4881323845100438685:=Nat
def tw7042406623110466389:=Nat
def tw352451002118771767:=Nat
def tw12748267409624637995:=Nat
def tw16044446824073751130:=Nat
def tw9688614489758804994:=Nat
def tw14110651114312877594:=Nat
def tw10839928884621107093:=Nat
def tw12621714263448719576:=Nat
def tw1713642488457108443:=Nat
def tw2974843275798530748:=Nat
def tw2926585390725079068:=Nat
def tw8354518366146069450:=Nat
def tw10160152231772975801:=Nat
def tw5582640674180587158:=Nat
def tw16402928410622584695:=Nat
def tw4854558398985428045:=Nat
def tw5132198210694962349:=Nat
def tw4312091221567032336:=Nat
def tw15305052852316671451:=Nat
def tw2570685505504810395:=Nat
def tw13842997145928041579:=Nat
def tw10097846865059923386:=Nat
def tw3939637071797145158:=Nat
def tw4760738901636348045:=Nat
def tw12148782478918039728:=Nat
def tw1904792530598957:=Nat
def tw9035421853397331238:=Nat
def tw651321189448192833:=Nat
def tw1705275599784930845:=Nat
def tw12216170894170251495:=Nat
def tw16380562374268537331:=Nat
def tw2506672354283036881:=Nat
def tw11636572084748678819:=Nat
def tw2638393241978542633:=Nat
def tw17786970862400051328:=Nat
def tw17554878431567995100:=Nat
def tw17433050690320918208:=Nat
def tw567299120078933234:=Nat
def tw16318817176783681848:=Nat
end PySem.W.Fast
open PySem PySem.W PyProof.Rows
set_option maxRecDepth 100000 in
set_option maxHeartbeats 0 in
theorem PySem.Challenge.cw_pairwebs_k03_kinds_holds : PySem.Challenge.rw_pairwebs_k03_kinds.Holds := by
 w_on;o_law;k_head;(case hw=>w_witness2)
 k_fill
 refine K03.walk (l:=PySem.Challenge.rw_pairwebs_k03_kinds) rfl rfl (λw h Y=>PySem.W.kIn_of Y) ?F
 case F=>
  intro w mg fa h KX G hmg
  refine' K03.all_mk KX G hmg K03.good ⟨K03.dm ?_ ?_ ?_ ?_,K03.dm ?_ ?_ ?_ ?_,K03.dm ?_ ?_ ?_ ?_,K03.dm ?_ ?_ ?_ ?_,K03.dm ?_ ?_ ?_ ?_,K03.dm ?_ ?_ ?_ ?_,K03.dm ?_ ?_ ?_ ?_,K03.dm ?_ ?_ ?_ ?_,K03.dm ?_ ?_ ?_ ?_,K03.dm ?_ ?_ ?_ ?_,K03.dm ?_ ?_ ?_ ?_,K03.dm ?_ ?_ ?_ ?_,K03.dm ?_ ?_ ?_ ?_,K03.dm ?_ ?_ ?_ ?_,K03.dm ?_ ?_ ?_ ?_,K03.dm ?_ ?_ ?_ ?_,K03.dm ?_ ?_ ?_ ?_,K03.dm ?_ ?_ ?_ ?_⟩ ?Z ?_ ?R
  case R=>kernel_rfl
  case Z=>intro x hx;simp only[Py.a0Y',Zo,List.mem_nil_iff,or_false]at hx;rcases hx with rfl|rfl|rfl|rfl|rfl|rfl|rfl|rfl|rfl|rfl|rfl|rfl|rfl|rfl|rfl|rfl|rfl|rfl|rfl|rfl|rfl<;>k_is
  all_goals first|k_is|skip
end
