import PyProof.Rows.All
import Wide.All
import OpenK.AllK
import Wide.FinOn
import Lean
import PyProof.EqAt
import PyProof.EqKinds
import PyProof.TupleCall
import PyProof.ListMulAny
import PyProof.FactsAll.tuple
import KE.IntBitsLaws
import PyProof.NeKinds
import PyProof.FactsAll.tuple_2
import PyProof.SumWalkG
import PyProof.WalksMore
import PyProof.MinMaxWalk
import PyProof.Rows.SeqMore
import PyProof.FactsAll.tuple_3
import KE.KRevIter
import PyProof.FactsAll.range_2
import PyProof.EnumFor
import PyProof.TupleOfGen
import PyProof.ListRange
import PyProof.Rows.SetFrom
import PyProof.FactsAll.subtypes_4
import PyProof.TupleKey
import PyProof.IsRules
import PyProof.RangeFor
import PyProof.FactsAll.set_1
import PyProof.CollectIter
import PyProof.FactsAll.set_2
import KE.KSortAsk
import KE.KSortTup
import PyProof.DictWalks
import PyProof.DictRoadsH
import PyProof.CallStr
import PyProof.Rows.FStr
import PyProof.ExcBaseAll.ValueError
import PyProof.Rows.TopTwo
import PyProof.ExcAttrAll.ValueError
import KE.KIsAll
import KE.KTryMore
import PySem.Challenge.RW_pairwebs_k33_places_drawn_together
noncomputable section
set_option genSizeOfSpec false
set_option Elab.async false
set_option linter.all false
set_option maxRecDepth 100000
set_option maxHeartbeats 16000000
namespace L2
end L2
namespace Py
end Py
open PySem PySem.Spec PyProof.Rows L2 Py
abbrev Mg:=Str→Option Value
abbrev Vs:=Value→Shared→Prop
abbrev Fg:=PySem.W.Frag
abbrev Lp:=List (Addr×Obj)
abbrev Lq:=List (Int×Int)
abbrev Li:=List Int
abbrev La:=List Addr
abbrev Lv:=List Value
abbrev Ls:=List Str
abbrev Lx:=List Expr
abbrev Ov:=Option Value
abbrev Av:=Array Value
def Za:=@PySem.wpAny_bind
def Zb:=@List.mem_cons_of_mem
def Zc:=@PySem.Heap.get?_push_of_some
def Zd:=@List.mem_cons_self
def Ze:=@PySem.wpAny_pure
def Zf:=@List.getElem?_cons_succ
def Zg:=@List.getElem?_cons_zero
def Zh:=@List.getElem?_eq_some_iff
def Zi:=@List.size_toArray
def Zj:=@List.length_map
def Zk:=@Nat.le_refl
def Zl:=@PySem.Heap.get?_push_size
def Zm:=@List.getElem?_eq_getElem
def Zn:=@PySem.Heap.lt_size
def Zo:=@List.mem_cons
def Zp:=@List.getElem?_append_left
def Zq:=@List.mem_map
def Zr:=@Bool.false_eq_true
def Zs:=@List.getElem?_append_right
def Zt:=@Bool.and_eq_true
def Zu:=@Nat.lt_of_lt_of_le
def Zv:=@List.mem_of_getElem?
def Zw:=@Nat.ne_of_lt
def Zx:=@List.mem_append_right
def Zy:=@List.length_cons
def Zz:=@List.all_eq_true
def ZA:=@PySem.mem_of_lookup
def ZB:=@List.getElem?_map
def ZC:=@Array.getElem?_eq_getElem
def ZD:=@PySem.wpAny_newObj_type
def ZE:=@List.map_cons
def ZF:=@Array.length_toList
def ZG:=@List.length_append
def ZH:=@PySem.wpAny_call_entry
def ZI:=@decide_eq_true
def ZJ:=@List.eq_nil_of_length_eq_zero
def ZK:=@Int.toNat_natCast
def ZL:=@List.map_map
def ZM:=@decide_eq_false
def ZN:=@PySem.Heap.SameBut.update
def ZO:=@List.not_mem_nil
def ZP:=@PySem.wpAny_callSpecial?_slot
def ZQ:=@List.mem_iff_getElem
def ZR:=@List.getElem?_set_ne
def ZS:=@Nat.le_trans
def ZT:=@List.zip_cons_cons
def ZU:=@List.set_cons_zero
def ZV:=@List.set_cons_succ
def ZW:=@List.pairwise_cons
def ZX:=@List.mem_append
def ZY:=@PySem.wpAny_holding
def ZZ:=@PySem.Heap.get?_update_self
def Z0:=@if_false
def Z1:=@Nat.lt_irrefl
def Z2:=@Option.map_eq_some_iff
variable {us its:Lv}{a it C dx f sl fa acc I:Addr}{o ob:Obj}{P prog q:Program}{w:World}{h h' h1 h2 base h0:Heap}{α β:Type}{u cd doc pm cdv ct oc vl vu:Value}{e tg iter r' z ce elt:Expr}{pq pins':Lp}{s s' s2:Shared}{g':Array GenState}{t' k n tk mask wanted ep line np:Nat}{d':Drawn}{ch fp μ μ' F μ1 μ0 wr:La}{N ps loose N':Ls}{M:Model}{A:Around}{E Q E':Vs}{rest gens:List Comprehension}{y m:Int}{K:Fg}{st:Stmt}{es ifs:Lx}{g:Int→Int→Int}{pos' apos p2 p1 p4:Pos}{lo hi:Option Int}{op':CmpOp}{name qual:Str}{mg:Mg}{ks:List (Li)}{scope:Scope}{outer:List Env}{od:Option Addr}{osl:Array (Ov)}{items:Av}{XP:(Mg)→Heap→Prop}{YP:World→Heap→Prop}{ns hs so:Li}{env:Env}{tn:Nat→Heap→Prop}{cs:List (Li×Addr)}{cell:Str→Bool}{b1 b2:Bool}{ts:Lq}{fr:List (Option Nat)}
namespace L2
abbrev Key:=Sum Int Str
noncomputable def keyIs:Key→Value→Bool
 | .inl k,v=>Value.isInt k v
 | .inr x,v=>Value.isStrOf x v
noncomputable def keyH(w:World):Key→Int
 | .inl k=>hashInt k
 | .inr x=>hashStr w x
theorem a0w':∀{k:Key} {v:Value},keyIs k v=true→(∃i t,k=Sum.inl i∧v=Value.int i t)∨(∃x t,k=Sum.inr x∧v=Value.str x t)
 | .inl i,v,h=>by obtain⟨t,e⟩:=Value.isInt_shape (k:=i) (v:=v) h;exact .inl ⟨i,t,rfl,e⟩
 | .inr x,v,h=>by obtain⟨t,e⟩:=Value.isStrOf_shape (x:=x) (v:=v) h;exact .inr ⟨x,t,rfl,e⟩
theorem key_ll(a b:Int):decide ((Sum.inl a:Key)=Sum.inl b)=(a==b):=by
 by_cases e:a=b
 ·subst e;simp
 ·have h:¬(Sum.inl a:Key)=Sum.inl b:=λq=>e (Sum.inl.inj q);rw[ZM h];exact(beq_eq_false_iff_ne.mpr e).symm
theorem key_rr(a b:Str):decide ((Sum.inr a:Key)=Sum.inr b)=decide (a=b):=by
 by_cases e:a=b
 ·subst e;simp
 ·have h:¬(Sum.inr a:Key)=Sum.inr b:=λq=>e (Sum.inr.inj q);rw[ZM h,ZM e]
theorem key_lr(a:Int)(b:Str):decide ((Sum.inl a:Key)=Sum.inr b)=false:=ZM (λq=>nomatch q)
theorem key_rl(a:Str)(b:Int):decide ((Sum.inr a:Key)=Sum.inl b)=false:=ZM (λq=>nomatch q)
noncomputable def a7i'(prog:Program)(w:World):PySem.KeyKind prog w Key where
 is:=keyIs
 hash:=keyH w
 inj:=λv a b ha hb=>by
  rcases a0w' ha with⟨i,t,rfl,rfl⟩| ⟨x,t,rfl,rfl⟩
  ·rcases a0w' hb with⟨j,u,rfl,e⟩| ⟨y,u,rfl,e⟩
   ·injection e with e1 _;rw[e1]
   ·exact nomatch e
  ·rcases a0w' hb with⟨j,u,rfl,e⟩| ⟨y,u,rfl,e⟩
   ·exact nomatch e
   ·injection e with e1 _;rw[e1]
 byValue:=λk v h=>by rcases a0w' h with⟨i,t,rfl,rfl⟩| ⟨x,t,rfl,rfl⟩<;>rfl
 pyHash:=λhv h=>by
  rcases a0w' hv with⟨i,t,rfl,rfl⟩| ⟨x,t,rfl,rfl⟩
  ·exact wpAny_pyHash_int h
  ·exact wpAny_pyHash_str h
 eqBool:=λhu hv h=>by
  rcases a0w' hu with⟨i,t,rfl,rfl⟩| ⟨x,t,rfl,rfl⟩
  ·rcases a0w' hv with⟨j,u,rfl,rfl⟩| ⟨y,u,rfl,rfl⟩
   ·rw[key_ll]at h;exact wpAny_eqBool_int h
   ·rw[key_lr]at h;exact SeqAt.EqAt.int_str i t y u _ _ _ _ h
  ·rcases a0w' hv with⟨j,u,rfl,rfl⟩| ⟨y,u,rfl,rfl⟩
   ·rw[key_rl]at h;exact SeqAt.EqAt.str_int x t j u _ _ _ _ h
   ·rw[key_rr]at h;exact wpAny_eqBool_str h
 «strs»:=λk x t v h=>by
  rcases a0w' h with⟨i,u,rfl,e⟩| ⟨y,u,rfl,e⟩
  ·exact nomatch e
  ·injection e with e1 _
   subst e1;cases v<;>rfl
inductive V where
 |non|bl (b:Bool)|int (i:Int)|str (x:Str)|byt (b:Array UInt8)|flt (b:UInt64)|ref (a:Addr)|ty (n:String)
 deriving DecidableEq
def RelV:V→Value→Prop
 | .non,u=>u=Value.none
 | .bl b,u=>u=Value.bool b
 | .int i,u=>∃t,u=Value.int i t
 | .str x,u=>∃t,u=Value.str x t
 | .byt b,u=>∃t,u=Value.bytes b t
 | .flt b,u=>∃t,u=Value.float b t
 | .ref a,u=>u=Value.ref a
 | .ty n,u=>u=Value.type n
abbrev Vals:List V→Lv→Prop:=Paired RelV
theorem Vals.length{xs:List V}(r:Vals xs us):xs.length=us.length:=Paired.length r
theorem Vals.get:∀{xs:List V} {us:Lv} {i:Nat} {x:V},Vals xs us→xs[i]?=some x→∃u,us[i]?=some u∧RelV x u
 |_,_,_,_,.nil,e=>by simp at e
 |_,_,0,_,.cons r _,e=>by simp at e;subst e;exact⟨_,rfl,r⟩
 |_,_,i+1,x,.cons _ t,e=>by obtain⟨u,h1,h2⟩:=Vals.get (i:=i) (x:=x) t (by simpa using e);exact⟨u,by simpa using h1,h2⟩
theorem Vals.append:∀{xs ys:List V} {us ws:Lv},Vals xs us→Vals ys ws→Vals (xs++ys) (us++ws)
 |_,_,_,_,.nil,s=>s
 |_,_,_,_,.cons r t,s=>.cons r (Vals.append t s)
theorem Vals.take:∀{xs:List V} {us:Lv} (n:Nat),Vals xs us→Vals (xs.take n) (us.take n)
 |_,_,0,_=>.nil
 |_,_,_+1,.nil=>.nil
 |_,_,n+1,.cons r t=>.cons r (Vals.take n t)
theorem Vals.drop:∀{xs:List V} {us:Lv} (n:Nat),Vals xs us→Vals (xs.drop n) (us.drop n)
 |_,_,0,r=>r
 |_,_,_+1,.nil=>.nil
 |_,_,n+1,.cons _ t=>Vals.drop n t
def RelO:Option V→Ov→Prop
 |some v,some u=>RelV v u
 |none,none=>True
 |_,_=>False
def KV{κ:Type}:List (κ×V)→List (κ×Value)→Prop:=Paired λ(p:κ×V) (q:κ×Value)=>p.1=q.1∧RelV p.2 q.2
def kV:Key→V
 | .inl i=>.int i
 | .inr x=>.str x
inductive HO where
 |lst (xs:List V)
 |tup (xs:List V)
 |dK (kvs:List (Key×V))|dT (kvs:List (List Key×V))
 |set (S:Int→Bool) (n:Nat)
 |ins (C dx:Addr) (fs:List (Str×V))
 |own (x:Addr)
 |xd (fs:List (Str×V))
 |met (f x:Addr)
 |rng (lo hi:Int)
 |frz (o:Obj) (u:HO)
 |tbl (ps:Av)
 |ext (φ:Heap→Prop)
abbrev Hp:=Addr→Option HO
noncomputable def upd(H:Hp)(a:Addr)(o:HO):Hp:=λb=>if b=a then some o else H b
theorem a0y'{H:Hp}{o:HO}:upd H a o a=some o:=by unfold upd;rw[if_pos rfl]
theorem a0p'{H:Hp}{b:Addr}{o:HO}(h:b≠a):upd H a o b=H b:=by unfold upd;rw[if_neg h]
theorem a0j'{H:Hp}{b:Addr}{o:HO}(h:H a=some o)(h':H b=none):a≠b:=by intro e;subst e;rw[h]at h';cases h'
def NoD(h:Heap)(a:Addr):Prop:=∃o,h.get? a=some o∧o.dict=none
theorem NoD.new(h:Heap)(items:Av):NoD (h.push {cls:=.type "tuple",data:=.seq items}) h.objs.size:=⟨_,Zl _ rfl,rfl⟩
section
variable (P:Program)(w:World)
def ObjOk(H:Hp)(h:Heap)(a:Addr):HO→Prop
 | .lst xs=>xs.length≤sizeLine∧∃(its:Lv) (n:Nat),Vals xs its∧h.get? a=some {cls:=.type "list",data:=.seq its.toArray n}
 | .tup xs=>xs.length≤sizeLine∧∃its:Lv,Vals xs its∧IsTup h a its.toArray∧NoD h a
 | .dK kvs=>kvs.length≤sizeLine∧(a==sysModules)=false∧∃vs,KV kvs vs∧h.DictOf (a7i' P w) a vs
 | .dT kvs=>kvs.length≤sizeLine∧(a==sysModules)=false∧∃xs:List (List Key×Addr×Value),
   Paired (λ(p:List Key×V) (q:List Key×Addr×Value)=>p.1=q.1∧H q.2.1=some (.tup (p.1.map kV))∧RelV p.2 q.2.2) kvs xs∧
   ∃o es ep,h.get? a=some o∧o.ExactDict∧o.data=.dict es ep∧es.toList=xs.map (entryOfKey (tupleKind (a7i' P w)))∧(xs.map (·.1)).Nodup
 | .set S n=>h.SetOf (intKind P w) a S n
 | .ins C dx fs=>H dx=some (.own a)∧fs.length≤1000∧dx≠a∧h.get? a=some (PySem.W.instObj C dx)∧
   ∃mA,h.Ns1 dx mA∧(∀f,RelO (fs.lookup f) (mA f))∧PySem.Within mA (fs.map (·.1))
 | .own _=>∃o,h.get? a=some o
 | .xd fs=>∃mA,h.Ns1 a mA∧∀f,RelO (fs.lookup f) (mA f)
 | .rng lo hi=>∃t u v,h.get? a=some {cls:=.type "range",data:=.fields #[.int lo t,.int hi u,.int 1 v]}
 | .frz o u=>h.get? a=some o∧ObjOk H h a u
 | .tbl ps=>h.get? a=some {cls:=.none,data:=.fields ps}
 | .met f x=>h.get? a=some (PySem.W.methodObj (.ref f) (.ref x))
 | .ext φ=>φ h∧(∃o,h.get? a=some o)∧∀h1 h2:Heap,φ h1→(∀o,h1.get? a=some o→h2.get? a=some o)→φ h2
def HOk(H:Hp)(h:Heap):Prop:=∀a o,H a=some o→ObjOk P w H h a o
end
section
variable {H H':Hp}{o:HO}
theorem ObjOk.lt(x:ObjOk P w H h a o):a<h.objs.size:=by
 cases o with
 |lst xs=>obtain⟨_,_,_,_,e⟩:=x;exact Zn e
 |tup xs=>obtain⟨_,_,_,p,_⟩:=x;exact p.lt
 |dK kvs=>obtain⟨_,_,_,_,o,_,_,e,_⟩:=x;exact Zn e
 |dT kvs=>obtain⟨_,_,_,_,o,_,_,e,_⟩:=x;exact Zn e
 |set S n=>obtain⟨o,_,_,_,e,_⟩:=x;exact Zn e
 |ins C dx fs=>obtain⟨_,_,_,e,_⟩:=x;exact Zn e
 |own y=>obtain⟨_,e⟩:=x;exact Zn e
 |xd fs=>obtain⟨_,⟨_,_,_,e,_⟩,_⟩:=x;exact Zn e
 |rng lo hi=>obtain⟨_,_,_,e⟩:=x;exact Zn e
 |frz ob u=>obtain⟨e,_⟩:=x;exact Zn e
 |tbl ps=>exact Zn (show h.get? a=some _ from x)
 |met f y=>exact Zn (show h.get? a=some _ from x)
 |ext φ=>obtain⟨_,⟨_,e⟩,_⟩:=x;exact Zn e
theorem Paired.mapP{F G:α→β→Prop}:∀{l₁:List α} {l₂:List β},Paired F l₁ l₂→(∀a b,F a b→G a b)→Paired G l₁ l₂
 |_,_,.nil,_=>.nil
 |_,_,.cons r t,f=>.cons (f _ _ r) (Paired.mapP t f)
theorem ObjOk.stay(x:ObjOk P w H h a o)(k:∀b u,(b=a∨H b=some (.own a))→h.get? b=some u→h'.get? b=some u)
  (ho:∀b,H b=some (.own a)→H' b=some (.own a)) (ht:∀b xs,H b=some (.tup xs)→H' b=some (.tup xs)):ObjOk P w H' h' a o:=by
 induction o with
 |lst xs=>obtain⟨z,its,n,r,e⟩:=x;exact⟨z,its,n,r,k _ _ (.inl rfl) e⟩
 |tup xs=>obtain⟨z,its,r,⟨ob,e,c⟩,ob',e',c'⟩:=x;exact⟨z,its,r,⟨ob,k _ _ (.inl rfl) e,c⟩,ob',k _ _ (.inl rfl) e',c'⟩
 |dK kvs=>obtain⟨z,y,vs,r,ob,es,ep,e,c⟩:=x;exact⟨z,y,vs,r,ob,es,ep,k _ _ (.inl rfl) e,c⟩
 |dT kvs=>obtain⟨z,y,xs,r,ob,es,ep,e,c⟩:=x;exact⟨z,y,xs,Paired.mapP r λp q z=>⟨z.1,ht _ _ z.2.1,z.2.2⟩,ob,es,ep,k _ _ (.inl rfl) e,c⟩
 |set S n=>obtain⟨ob,es,ep,t,e,c⟩:=x;exact⟨ob,es,ep,t,k _ _ (.inl rfl) e,c⟩
 |ins C dx fs=>obtain⟨d,z,ne,e,mA,⟨od,es,ep,e2,c⟩,r⟩:=x;exact⟨ho _ d,z,ne,k _ _ (.inl rfl) e,mA,⟨od,es,ep,k _ _ (.inr d) e2,c⟩,r⟩
 |own y=>obtain⟨ob,e⟩:=x;exact⟨ob,k _ _ (.inl rfl) e⟩
 |xd fs=>obtain⟨mA,⟨od,es,ep,e,c⟩,r⟩:=x;exact⟨mA,⟨od,es,ep,k _ _ (.inl rfl) e,c⟩,r⟩
 |rng lo hi=>obtain⟨t,u,v,e⟩:=x;exact⟨t,u,v,k _ _ (.inl rfl) e⟩
 |frz ob u ih=>obtain⟨e,q⟩:=x;exact⟨k _ _ (.inl rfl) e,ih q⟩
 |tbl ps=>have e:h.get? a=some {cls:=.none,data:=.fields ps}:=x;show h'.get? a=some {cls:=.none,data:=.fields ps};exact k a _ (.inl rfl) e
 |met f y=>have e:h.get? a=some (PySem.W.methodObj (.ref f) (.ref y)):=x;show h'.get? a=some (PySem.W.methodObj (.ref f) (.ref y));exact k a _ (.inl rfl) e
 |ext φ=>obtain⟨p,⟨o,e⟩,st⟩:=x;exact⟨st _ _ p λo q=>k _ _ (.inl rfl) q,⟨o,k _ _ (.inl rfl) e⟩,st⟩
theorem HOk.lt(x:HOk P w H h)(e:H a=some o):a<h.objs.size:=(x a o e).lt
theorem HOk.fresh(x:HOk P w H h)(e:h.objs.size≤a):H a=none:=by
 cases q:H a with
 |none=>rfl
 |some u=>exact absurd (Zu (x.lt q) e) (Z1 _)
theorem HOk.kept(x:HOk P w H h)(k:∀b u,h.get? b=some u→h'.get? b=some u):HOk P w H h':=λa o e=>
 (x a o e).stay (λb u _ q=>k b u q) (λ_ q=>q) λ_ _ q=>q
theorem HOk.laid(x:HOk P w H h)(k:∀b u,h.get? b=some u→h'.get? b=some u)(hp:h.objs.size≤a)(new:ObjOk P w (upd H a o) h' a o):HOk P w (upd H a o) h':=λb u e=>by
 have hn:=x.fresh hp;by_cases hb:b=a
 ·subst hb;rw[a0y']at e;cases e;exact new
 ·rw[a0p' hb]at e;exact(x b u e).stay (λc v _ q=>k c v q) (λc q=>by rw[a0p' (a0j' q hn)];exact q) λc xs q=>by rw[a0p' (a0j' q hn)];exact q
end
def Rd(H:Hp)(a:Addr)(u:HO):Prop:=H a=some u∨∃o,H a=some (.frz o u)
theorem Rd.ok{H:Hp}{u:HO}(r:Rd H a u)(x:HOk P w H h):ObjOk P w H h a u:=by
 rcases r with r| ⟨o,r⟩
 ·exact x a u r
 ·obtain⟨_,q⟩:=x a _ r;exact q
def Mut:Option HO→Prop
 |some (.lst _)=>True
 |some (.dK _)=>True
 |some (.dT _)=>True
 |some (.set _ _)=>True
 |some (.ins _ _ _)=>True
 |some (.ext _)=>True
 |_=>False
section
variable {H:Hp}{x e:Addr}{o':HO}
theorem HOk.write(ok:HOk P w H h)(mu:Mut (H x))(he:e=x∨H e=some (.own x))(k:∀b u,b≠e→h.get? b=some u→h'.get? b=some u)(heo:∃u,h'.get? e=some u)
  (new:ObjOk P w (upd H x o') h' x o'):HOk P w (upd H x o') h':=λb u q=>by
 have nown:∀c y,H c=some (.own y)→c≠x:=λc y r z=>by subst z;rw[r]at mu;exact mu
 have ntup:∀c xs,H c=some (.tup xs)→c≠x:=λc xs r z=>by subst z;rw[r]at mu;exact mu
 by_cases hb:b=x
 ·subst hb;rw[a0y']at q;cases q;exact new
 ·rw[a0p' hb]at q;by_cases hbe:b=e
  ·have q':H b=some (.own x):=by
    rcases he with z|z
    ·exact absurd (hbe.trans z) hb
    ·rw[hbe];exact z
   rw[q]at q';cases q';obtain⟨v,hv⟩:=heo;exact⟨v,by rw[hbe];exact hv⟩
  ·refine(ok b u q).stay (λc v hc r=>k c v ?_ r) (λc r=>by rw[a0p' (nown c b r)];exact r) λc xs r=>by rw[a0p' (ntup c xs r)];exact r
   rcases hc with rfl|hc
   ·exact hbe
   ·rintro rfl;rcases he with z|z
    ·exact nown c b hc z
    ·rw[hc]at z;cases z;exact hb rfl
end
structure Un (fs ex:La)(H H':Hp)(h h':Heap):Prop where
 keep:∀b o,h.get? b=some o→H b=none→b∉fs→b∉ex→h'.get? b=some o
 slot:∀b o,h.get? b=some o→H b=none→b∈fs→b∉ex→∃sl,h'.get? b=some {o with slots:=sl}
 free:∀b o,h.get? b=some o→H b=none→b∉ex→H' b=none
 there:∀b o,h.get? b=some o→b∉ex→∃o',h'.get? b=some o'
 tups:∀b xs,H b=some (.tup xs)→H' b=some (.tup xs)
 frzs:∀b o u,H b=some (.frz o u)→H' b=some (.frz o u)
 tbls:∀b ps,H b=some (.tbl ps)→∃more,H' b=some (.tbl (ps++more))
section
variable {fs fs' ex ex':La}{H H1 H2:Hp}{x e:Addr}{o:HO}
theorem Un.any(u:Un fs ex H H1 h h1){b:Addr}(q:h.get? b=some ob)(n:H b=none)(hx:b∉ex):∃sl,h1.get? b=some {ob with slots:=sl}:=by
 by_cases hb:b∈fs
 ·exact u.slot b ob q n hb hx
 ·exact⟨ob.slots,u.keep b ob q n hb hx⟩
theorem Un.kept(k:∀b u,h.get? b=some u→h'.get? b=some u):Un fs ex H H h h':=
 ⟨λb ob q _ _ _=>k b ob q,λb ob q _ _ _=>⟨ob.slots,k b ob q⟩,λ_ _ _ n _=>n,λb ob q _=>⟨ob,k b ob q⟩,λ_ _ q=>q,λ_ _ _ q=>q,λ_ ps q=>⟨#[],by rw[q];simp⟩⟩
theorem Un.refl:Un fs ex H H h h:=Un.kept λ_ _ q=>q
theorem Un.laid(k:∀b u,h.get? b=some u→h'.get? b=some u)(hp:h.objs.size≤a)(hn:H a=none):Un fs ex H (upd H a o) h h' where
 keep:=λb u q _ _ _=>k b u q
 slot:=λb u q _ _ _=>⟨u.slots,k b u q⟩
 free:=λb u q n _=>by rw[a0p' (Zw (Zu (Zn q) hp))];exact n
 there:=λb u q _=>⟨u,k b u q⟩
 tups:=λb xs q=>by rw[a0p' (a0j' q hn)];exact q
 frzs:=λb u xs q=>by rw[a0p' (a0j' q hn)];exact q
 tbls:=λb ps q=>⟨#[],by rw[a0p' (a0j' q hn),q];simp⟩
theorem Un.write(mu:Mut (H x))(he:e=x∨H e=some (.own x))(k:∀b u,b≠e→h.get? b=some u→h'.get? b=some u)(heo:∃u,h'.get? e=some u):Un fs ex H (upd H x o) h h':=by
 have hx:∀b,H b=none→b≠x:=λb n z=>by subst z;rw[n]at mu;exact mu
 have hb:∀b,H b=none→b≠e:=λb n z=>by
  subst z;rcases he with r|r
  ·exact hx b n r
  ·rw[n]at r;cases r
 have hm:∀b u,H b=some u→¬Mut (some u)→b≠x:=λb u q nm z=>by subst z;rw[q]at mu;exact nm mu
 refine⟨λb u q n _ _=>k b u (hb b n) q,λb u q n _ _=>⟨u.slots,k b u (hb b n) q⟩,λb u q n _=>by rw[a0p' (hx b n)];exact n,λb u q _=>?_,
  λb xs q=>by rw[a0p' (hm b _ q λz=>z)];exact q,λb u xs q=>by rw[a0p' (hm b _ q λz=>z)];exact q,λb ps q=>⟨#[],by rw[a0p' (hm b _ q λz=>z),q];simp⟩⟩
 by_cases hbe:b=e
 ·subst hbe;exact heo
 ·exact⟨u,k b u hbe q⟩
end
noncomputable def trk(h:Heap)(H:Hp):La:=(List.range h.objs.size).filter λa=>(H a).isSome
def hidT(h:Heap)(H:Hp):Heap:=PySem.W.hideAll h (trk h H)
theorem a9c'(h:Heap)(H:Hp):(hidT h H).objs.size=h.objs.size:=PySem.W.hideAll_size _ _
theorem b0T'{H:Hp}{b:Addr}(e:h.get? b=some o)(n:H b=none):(hidT h H).get? b=some o:=
 PySem.W.hideAll_get _ e λhm=>by have q:(H b).isSome=true:=(List.mem_filter.mp hm).2;rw[n]at q;simp at q
theorem of_hidT{H:Hp}{b:Addr}(e:(hidT h H).get? b=some o):h.get? b=some o∧H b=none:=by
 have e':h.get? b=some o:=PySem.W.of_hideAll (trk h H) e;refine⟨e',?_⟩;cases q:H b with
 |none=>rfl
 |some x=>have hm:b∈trk h H:=List.mem_filter.mpr ⟨List.mem_range.mpr (Zn e'),by simp[q]⟩;have z:(hidT h H).get? b=none:=PySem.W.hideAll_none (trk h H) hm;rw[z]at e;cases e
structure Mod (K:Fg)(mg:Mg)(base:Heap):Prop where
 kin:K.In base
 glob:base.Ns mainGlobals mg
 blt:∃mb,base.Ns builtinsNs mb∧∀x:Str,x≠"__name__"→mb x=bootBuiltins x
 nolimit:base.NoLimit
structure Cx where
 prog:Program
 w:World
 K:Fg
 mg:Mg
 base:Heap
 A:Around
 N:Ls
 s₀:Shared
 H₀:Hp
 env:Env
 outer:List Env
 stack:List Env
 ex:La
 fn:Str→Bool
 calm:Bool
 pn:Lp
 xe:Vs
def frs(l:List Env):La:=l.filterMap (·.frame)
abbrev Cx.fs(X:Cx):La:=frs X.outer
def Vis(sc:Scope)(x:Str):Prop:=sc.names.lookup x=some .local∨sc.names.lookup x=some .cell∨sc.names.lookup x=some .free
def Loc(sc:Scope)(x:Str):Prop:=sc.names.lookup x=some .local∨sc.names.lookup x=some .cell
def Look(env:Env)(h:Heap)(m:Mg)(x:Str)(u:Value):Prop:=
 (env.kindOf x=some .local∧m x=some u)∨((env.kindOf x=some .cell∨env.kindOf x=some .free)∧∃c,env.cells.lookup x=some c∧h.IsCell c (some u))
structure Cx.Ok (X:Cx):Prop where
 mod:Mod X.K X.mg X.base
 kind:X.env.scope.kind=.function
 glob:X.env.globals=mainGlobals
 blt:X.env.builtins=builtinsNs
 above:X.s₀.heap.objs.size≤X.env.locals
 inj:∀x y c,X.env.cells.lookup x=some c→X.env.cells.lookup y=some c→x=y
 has:∀x,(X.env.kindOf x=some .cell∨X.env.kindOf x=some .free)→∃c,X.env.cells.lookup x=some c
 cab:∀x c,X.fn x=true→X.env.cells.lookup x=some c→X.s₀.heap.objs.size≤c
 hd:X.calm=true→X.A.handled=none
 frames:X.A.frames=some X.stack
 stk:X.stack=X.outer∨(X.stack=X.env::X.outer∧X.env.frame=some X.env.locals)
 exf:∀b∈X.ex,b≠X.env.locals∧∀x c,X.env.cells.lookup x=some c→c≠b
 bs:∀b o,X.base.get? b=some o→X.s₀.heap.get? b=some o∧X.H₀ b=none
 bsz:X.base.objs.size≤X.s₀.heap.objs.size
 noex:∀b o,X.base.get? b=some o→b∉X.ex
 exfs:∀b∈X.ex,b∉X.fs
 funs:X.s₀.heap.FunFrames X.base X.outer
 frf:∀b∈X.fs,X.H₀ b=none
structure Inv (X:Cx)(pq:Lp)(σ:List (Option V))(H:Hp)(s:Shared):Prop where
 ok:X.Ok
 os:s.os=X.s₀.os
 bare:AllBare s.gens
 base:Un X.fs X.ex X.H₀ H X.s₀.heap s.heap
 loc:∃m,s.heap.Ns X.env.locals m∧∀(i:Nat) (x:Str) (v:V),X.N[i]?=some x→σ[i]?=some (some v)→Vis X.env.scope x→∃u,RelV v u∧Look X.env s.heap m x u
 cell:∀x c,X.env.cells.lookup x=some c→∃v,s.heap.IsCell c v
 free:H X.env.locals=none
 freeC:∀x c,X.env.cells.lookup x=some c→H c=none
 pin:∀p∈X.pn++pq,s.heap.get? p.1=some p.2∧H p.1=none∧p.1≠X.env.locals∧p.1∉X.fs∧∀v,p.2.data≠.cell v
 hok:HOk X.prog X.w H s.heap
 len:σ.length=X.N.length
section
variable {X:Cx}{σ:List (Option V)}{H H':Hp}
theorem Cx.Ok.nofr(ok:X.Ok){b:Addr}(e:X.base.get? b=some o):b∉X.fs:=λhb=>by have:=(ok.funs.mem hb).1;rw[e]at this;cases this
theorem Inv.bs(I:Inv X pq σ H s):∀b o,X.base.get? b=some o→s.heap.get? b=some o∧H b=none:=λb o e=>
 ⟨I.base.keep b o (I.ok.bs b o e).1 (I.ok.bs b o e).2 (I.ok.nofr e) (I.ok.noex b o e),I.base.free b o (I.ok.bs b o e).1 (I.ok.bs b o e).2 (I.ok.noex b o e)⟩
theorem Inv.bk(I:Inv X pq σ H s):∀b o,X.base.get? b=some o→s.heap.get? b=some o:=λb o e=>(I.bs b o e).1
theorem Inv.mod(I:Inv X pq σ H s):Mod X.K X.mg X.base:=I.ok.mod
theorem Inv.kIn(I:Inv X pq σ H s):X.K.In s.heap:=I.ok.mod.kin.keeps I.bk
theorem Inv.lt(I:Inv X pq σ H s):X.env.locals<s.heap.objs.size:=let⟨_,hn,_⟩:=I.loc;hn.lt
theorem Inv.sz(I:Inv X pq σ H s):X.s₀.heap.objs.size≤s.heap.objs.size:=ZS I.ok.above (Nat.le_of_lt I.lt)
theorem Inv.nofs(I:Inv X pq σ H s)(h:s.heap.objs.size≤a):a∉X.fs:=λhb=>by obtain⟨_,o,ho,_⟩:=I.ok.funs.mem hb;exact absurd (Zu (Zn ho) (ZS I.sz h)) (Z1 _)
theorem Inv.cne(I:Inv X pq σ H s):∀x c,X.env.cells.lookup x=some c→c≠X.env.locals:=λx c e z=>by obtain⟨v,o,ho,hd⟩:=I.cell x c e;obtain⟨m,⟨o',es,ep,ho',hd',_⟩,_⟩:=I.loc;rw[z,ho']at ho;cases ho;rw[hd']at hd;cases hd
theorem Inv.funs(I:Inv X pq σ H s):s.heap.FunFrames X.base X.outer:=by
 have all:∀(l:List Env),(∀b∈frs l,b∈X.fs)→X.s₀.heap.FunFrames X.base l→s.heap.FunFrames X.base l:=by
  intro l
  induction l with
  |nil=>intro _ _;trivial
  |cons env r ih=>intro hs hl;obtain⟨hk,⟨L,o,hf,hn,ho,hd⟩,hr⟩:=hl;have hL:L∈X.fs:=hs L (by unfold frs;rw[List.filterMap_cons,hf];exact Zd);obtain⟨sl,e⟩:=I.base.slot L o ho (I.ok.frf L hL) hL λz=>I.ok.exfs L z hL;exact⟨hk,⟨L,_,hf,hn,e,hd⟩,ih (λb hb=>hs b (by unfold frs;rw[List.filterMap_cons,hf];exact Zb _ hb)) hr⟩
 exact all X.outer (λ_ hb=>hb) I.ok.funs
theorem Inv.stack(I:Inv X pq σ H s):s.heap.FunFrames X.base X.stack:=by
 rcases I.ok.stk with e| ⟨e,hf⟩
 ·rw[e];exact I.funs
 ·rw[e];obtain⟨m,hn,_⟩:=I.loc;refine .cons (by rw[I.ok.kind];decide) hf hn ?_ I.funs;exact Heap.get?_none_of_le (ZS I.ok.bsz I.ok.above)
theorem Inv.stkSub(I:Inv X pq σ H s):∀b∈frs X.stack,b∈X.env.locals::X.fs:=λb hb=>by
 rcases I.ok.stk with e| ⟨e,hf⟩
 ·rw[e]at hb;exact Zb _ hb
 ·rw[e]at hb;unfold frs at hb;rw[List.filterMap_cons,hf]at hb;exact hb
theorem Inv.stkFree(I:Inv X pq σ H s):∀b∈frs X.stack,H b=none:=λb hb=>by
 rcases Zo.mp (I.stkSub b hb)with e|hb
 ·rw[e];exact I.free
 ·obtain⟨_,o,ho,_⟩:=I.ok.funs.mem hb;exact I.base.free b o ho (I.ok.frf b hb) λz=>I.ok.exfs b z hb
theorem Inv.step{g':Array GenState}{t':Nat}{d':Drawn}(I:Inv X pq σ H s)
  (hch:∀b∈ch,(b∈X.ex∨X.s₀.heap.objs.size≤b)∧b≠X.env.locals∧(∀x c,X.env.cells.lookup x=some c→c≠b)∧∀p∈X.pn++pq,p.1≠b)
  (keep:∀b o,b≠X.env.locals→b∉X.fs→b∉ch→s.heap.get? b=some o→H b=none→h'.get? b=some o)
  (slot:∀b o,b≠X.env.locals→b∈X.fs→b∉ch→s.heap.get? b=some o→H b=none→∃sl,h'.get? b=some {o with slots:=sl}) (free:∀b o,b∉ch→s.heap.get? b=some o→H b=none→H' b=none)
  (there:∀b o,b∉ch→s.heap.get? b=some o→∃o',h'.get? b=some o')
  (tups:∀b xs,H b=some (.tup xs)→H' b=some (.tup xs)) (frzs:∀b o u,H b=some (.frz o u)→H' b=some (.frz o u)) (tbls:∀b ps,H b=some (.tbl ps)→∃more,H' b=some (.tbl (ps++more)))
  (ns:∀m,s.heap.Ns X.env.locals m→h'.Ns X.env.locals m) (hok:HOk X.prog X.w H' h') (hg:AllBare g'):
  Inv X pq σ H' {s with heap:=h',gens:=g',drawn:=d',toks:=t'}:=by
 have neL:∀b o,X.s₀.heap.get? b=some o→b≠X.env.locals:=λb o e=>Zw (Zu (Zn e) I.ok.above)
 have neC:∀b o,X.s₀.heap.get? b=some o→b∉X.ex→b∉ch:=λb o e hx hb=>by
  rcases(hch b hb).1 with z|z
  ·exact hx z
  ·exact absurd (Zu (Zn e) z) (Z1 _)
 have cellK:∀x c,X.env.cells.lookup x=some c→∀v,s.heap.IsCell c v→h'.IsCell c v:=λx c e v ⟨o,ho,hd⟩=>by
  have nch:c∉ch:=λz=>(hch c z).2.2.1 x c e rfl;by_cases hc:c∈X.fs
  ·obtain⟨sl,q⟩:=slot c o (I.cne x c e) hc nch ho (I.freeC x c e);exact⟨_,q,hd⟩
  ·exact⟨o,keep c o (I.cne x c e) hc nch ho (I.freeC x c e),hd⟩
 refine⟨I.ok,I.os,hg,⟨λb o e n hb hx=>?_,λb o e n hb hx=>?_,λb o e n hx=>?_,λb o e hx=>?_,λb xs e=>tups b xs (I.base.tups b xs e),λb o xs e=>frzs b o xs (I.base.frzs b o xs e),λb ps e=>?_⟩,?_,λx c e=>?_,?_,λx c e=>?_,λp hp=>?_,hok,I.len⟩
 ·exact keep b o (neL b o e) hb (neC b o e hx) (I.base.keep b o e n hb hx) (I.base.free b o e n hx)
 ·obtain⟨sl,e1⟩:=I.base.slot b o e n hb hx;obtain⟨sl',e2⟩:=slot b _ (neL b o e) hb (neC b o e hx) e1 (I.base.free b o e n hx);exact⟨sl',e2⟩
 ·obtain⟨o',e1⟩:=I.base.there b o e hx;exact free b o' (neC b o e hx) e1 (I.base.free b o e n hx)
 ·obtain⟨o',e1⟩:=I.base.there b o e hx;exact there b o' (neC b o e hx) e1
 ·obtain⟨m1,e1⟩:=I.base.tbls b ps e;obtain⟨m2,e2⟩:=tbls b _ e1;exact⟨m1++m2,by rw[e2,Array.append_assoc]⟩
 ·obtain⟨m,hn,hl⟩:=I.loc;refine⟨m,ns m hn,λi x v e1 e2 e3=>?_⟩;obtain⟨u,r,l⟩:=hl i x v e1 e2 e3;refine⟨u,r,?_⟩;rcases l with l| ⟨k,c,e,z⟩
  ·exact .inl l
  ·exact .inr ⟨k,c,e,cellK x c e _ z⟩
 ·obtain⟨v,z⟩:=I.cell x c e;exact⟨v,cellK x c e v z⟩
 ·obtain⟨m,⟨o,_,_,ho,_⟩,_⟩:=I.loc;exact free _ o (λz=>(hch _ z).2.1 rfl) ho I.free
 ·obtain⟨v,o,ho,hd⟩:=I.cell x c e;exact free c o (λz=>(hch c z).2.2.1 x c e rfl) ho (I.freeC x c e)
 ·obtain⟨e,n,ne,nf,d⟩:=I.pin p hp;have nch:p.1∉ch:=λz=>(hch p.1 z).2.2.2 p hp rfl;exact⟨keep p.1 p.2 ne nf nch e n,free p.1 p.2 nch e n,ne,nf,d⟩
theorem Inv.un{t':Nat}(I:Inv X pq σ H s)(u:Un X.fs [] H H' s.heap h')(hok:HOk X.prog X.w H' h'):Inv X pq σ H' {s with heap:=h',toks:=t'}:=by obtain⟨m,⟨o,es,ep,ho,r⟩,_⟩:=id I.loc;obtain⟨sl,hL⟩:=u.any ho I.free (by simp);exact I.step (g':=s.gens) (d':=s.drawn) (ch:=[]) (λ_ z=>nomatch z) (λb o _ hb _ e n=>u.keep b o e n hb (by simp)) (λb o _ hb _ e n=>u.slot b o e n hb (by simp)) (λb o _ e n=>u.free b o e n (by simp)) (λb o _ e=>u.there b o e (by simp)) u.tups u.frzs u.tbls (λm' hm=>by obtain⟨o',es',ep',ho',r'⟩:=hm;rw[ho]at ho';cases ho';exact⟨_,es',ep',hL,r'⟩) hok I.bare
theorem Inv.call{t':Nat}{d':Drawn}(I:Inv X pq σ H s)(u:Un (frs X.stack) ch H H' s.heap h')(hok:HOk X.prog X.w H' h')(hg:AllBare g')
  (hch:∀b∈ch,(b∈X.ex∨X.s₀.heap.objs.size≤b)∧b≠X.env.locals∧(∀x c,X.env.cells.lookup x=some c→c≠b)∧∀p∈X.pn++pq,p.1≠b):
  Inv X pq σ H' {s with heap:=h',gens:=g',drawn:=d',toks:=t'}:=by
 obtain⟨m,⟨o,es,ep,ho,r⟩,_⟩:=id I.loc;obtain⟨sl,hL⟩:=u.any ho I.free λz=>(hch _ z).2.1 rfl;exact I.step (ch:=ch) hch (λb o hL hb hc e n=>u.keep b o e n (λz=>(Zo.mp (I.stkSub b z)).elim hL hb) hc) (λb o _ _ hc e n=>u.any e n hc) (λb o hc e n=>u.free b o e n hc) (λb o hc e=>u.there b o e hc) u.tups u.frzs u.tbls (λm' hm=>by obtain⟨o',es',ep',ho',r'⟩:=hm;rw[ho]at ho';cases ho';exact⟨_,es',ep',hL,r'⟩) hok hg
theorem Inv.turned{t':Nat}(I:Inv X pq σ H s)(k:∀b o,b≠it→s.heap.get? b=some o→h'.get? b=some o)(hn:H it=none)(hL:it≠X.env.locals)
  (h1:it∈X.ex∨X.s₀.heap.objs.size≤it) (h2:∀x c,X.env.cells.lookup x=some c→c≠it) (h3:∀p∈X.pn++pq,p.1≠it):Inv X pq σ H {s with heap:=h',toks:=t'}:=by
 have nit:∀b u,H b=some u→b≠it:=λb u e z=>by rw[z,hn]at e;cases e
 refine I.step (g':=s.gens) (d':=s.drawn) (ch:=[it]) (λb hb=>?_) (λb o _ _ hc e _=>k b o (λz=>hc (by simp[z])) e) (λb o _ _ hc e _=>⟨o.slots,k b o (λz=>hc (by simp[z])) e⟩) (λ_ _ _ _ n=>n)
  (λb o hc e=>⟨o,k b o (λz=>hc (by simp[z])) e⟩) (λ_ _ e=>e) (λ_ _ _ e=>e) (λb ps e=>⟨#[],by rw[e];simp⟩) (λm hm=>?_) (λb u e=>?_) I.bare
 ·have e:b=it:=by simpa using hb
  subst e;exact⟨h1,hL,h2,h3⟩
 ·obtain⟨o,es,ep,ho,r⟩:=hm;exact⟨o,es,ep,k _ o (Ne.symm hL) ho,r⟩
 ·refine(I.hok b u e).stay (λc v hc q=>k c v ?_ q) (λ_ q=>q) λ_ _ q=>q;rcases hc with z|z
  ·rw[z];exact nit b u e
  ·exact nit c _ z
theorem Inv.tok(I:Inv X pq σ H s)(t:Nat):Inv X pq σ H {s with toks:=t}:=I.un (h':=s.heap) (t':=t) Un.refl I.hok
theorem Inv.kept{t':Nat}(I:Inv X pq σ H s)(k:∀b u,s.heap.get? b=some u→h'.get? b=some u):Inv X pq σ H {s with heap:=h',toks:=t'}:=I.un (Un.kept k) (I.hok.kept k)
theorem Inv.laid{o:HO}{t':Nat}(I:Inv X pq σ H s)(k:∀b u,s.heap.get? b=some u→h'.get? b=some u)(hp:s.heap.objs.size≤a)(new:ObjOk X.prog X.w (upd H a o) h' a o):
  Inv X pq σ (upd H a o) {s with heap:=h',toks:=t'}:=I.un (Un.laid k hp (I.hok.fresh hp)) (I.hok.laid k hp new)
theorem Inv.write{x e:Addr}{o:HO}{t':Nat}(I:Inv X pq σ H s)(mu:Mut (H x))(he:e=x∨H e=some (.own x))(k:∀b u,b≠e→s.heap.get? b=some u→h'.get? b=some u)(heo:∃u,h'.get? e=some u)
  (new:ObjOk X.prog X.w (upd H x o) h' x o):Inv X pq σ (upd H x o) {s with heap:=h',toks:=t'}:=I.un (Un.write mu he k heo) (I.hok.write mu he k heo new)
theorem Inv.pins_of(I:Inv X pq σ H s)(h:∀p∈pins',s.heap.get? p.1=some p.2∧H p.1=none∧p.1≠X.env.locals∧p.1∉X.fs∧∀v,p.2.data≠.cell v):Inv X pins' σ H s:=
 ⟨I.ok,I.os,I.bare,I.base,I.loc,I.cell,I.free,I.freeC,λp hp=>(ZX.mp hp).elim (λz=>I.pin p (List.mem_append_left _ z)) (h p),I.hok,I.len⟩
theorem a7j'(hN:N.Nodup){i j:Nat}{x:Str}(a:N[i]?=some x)(b:N[j]?=some x):i=j:=by obtain⟨h1,e1⟩:=Zh.mp a;obtain⟨h2,e2⟩:=Zh.mp b;exact(List.getElem_inj hN).mp (e1.trans e2.symm)
theorem a5W'{M:Model}{A:Around}{E:Vs}{i:Nat}{x:Str}{v:V}{Q:Unit→Shared→Prop}(I:Inv X pq σ H s)(hN:X.N.Nodup)(hi:X.N[i]?=some x)(hx:Loc X.env.scope x)(r:RelV v u)
  (h:∀s',Inv X pq (σ.set i (some v)) H s'→(∃a,Heap.SameBut a s.heap s'.heap∧(a=X.env.locals∨X.env.cells.lookup x=some a))→Q () s') (hf:X.fn x=true∨X.env.scope.names.lookup x=some .local:=by first|exact .inl rfl|exact .inr rfl|assumption):wpAny M A (storeName X.env x u) Q E s:=by
 obtain⟨m,hn,hl⟩:=id I.loc;have hcls:(X.env.scope.kind== .class||(X.env.scope.kind== .module&&X.env.locals !=X.env.globals))=false:=by rw[I.ok.kind];rfl
 have hiσ:i<σ.length:=by rw[I.len];exact(Zh.mp hi).1
 have cne:=I.cne
 have tracked:∀{a:Addr} {h':Heap},(∃o,s.heap.get? a=some o∧H a=none)→Heap.SameBut a s.heap h'→HOk X.prog X.w H h':=λ{a h'} ha hs b ob e=>by
  obtain⟨_,_,hfree⟩:=ha;refine(I.hok b ob e).stay (λc w' hc q=>(hs.2 c ?_).trans q) (λ_ q=>q) λ_ _ q=>q;rintro rfl;rcases hc with rfl|hc
  ·rw[hfree]at e;cases e
  ·rw[hfree]at hc;cases hc
 rcases hx with hk|hk
 ·refine wpAny_storeName_local hk hn (λh' hn' hs=>?_) hcls;obtain⟨oL,_,_,hoL,_⟩:=id hn;refine h _ ⟨I.ok,I.os,I.bare,⟨λb o e n hb hx=>?_,λb o e n hb hx=>?_,I.base.free,λb o e hx=>?_,I.base.tups,I.base.frzs,I.base.tbls⟩,⟨_,hn',λj y v' e1 e2 e3=>?_⟩,λy c e=>?_,I.free,I.freeC,λp hp=>?_,tracked ⟨oL,hoL,I.free⟩ hs,by simpa using I.len⟩ ⟨_,hs,.inl rfl⟩
  ·exact(hs.2 b (Zw (Zu (Zn e) I.ok.above))).trans (I.base.keep b o e n hb hx)
  ·obtain⟨sl,e1⟩:=I.base.slot b o e n hb hx;exact⟨sl,(hs.2 b (Zw (Zu (Zn e) I.ok.above))).trans e1⟩
  ·obtain⟨o',e1⟩:=I.base.there b o e hx;exact⟨o',(hs.2 b (Zw (Zu (Zn e) I.ok.above))).trans e1⟩
  ·by_cases hj:j=i
   ·subst hj;rw[hi]at e1;cases e1;rw[List.getElem?_set_self hiσ]at e2;cases e2;exact⟨u,r,.inl ⟨hk,by simp⟩⟩
   ·rw[ZR (Ne.symm hj)]at e2;obtain⟨u',r',q⟩:=hl j y v' e1 e2 e3;refine⟨u',r',?_⟩;rcases q with⟨k,e⟩| ⟨k,c,e,z⟩
    ·refine .inl ⟨k,?_⟩;have:y≠x:=λe=>hj (a7j' hN e1 (e▸hi));simp[this,e]
    ·exact .inr ⟨k,c,e,z.sameBut hs (cne y c e)⟩
  ·obtain⟨w',z⟩:=I.cell y c e;exact⟨w',z.sameBut hs (cne y c e)⟩
  ·obtain⟨e,n,ne,nf,d⟩:=I.pin p hp;exact⟨(hs.2 p.1 ne).trans e,n,ne,nf,d⟩
 ·have hfn:X.fn x=true:=by
   rcases hf with z|z
   ·exact z
   ·rw[z]at hk;cases hk
  obtain⟨c,hc⟩:=I.ok.has x (.inl hk);obtain⟨w',z⟩:=I.cell x c hc;refine wpAny_storeName_cell I.ok.kind hk hc z (λh' hc' hs=>?_);obtain⟨oc,hoc,hocd⟩:=id z;refine h {s with heap:=h'} ⟨I.ok,I.os,I.bare,⟨λb o e n hb hx=>?_,λb o e n hb hx=>?_,I.base.free,λb o e hx=>?_,I.base.tups,I.base.frzs,I.base.tbls⟩,⟨m,hn.sameBut hs (Ne.symm (cne x c hc)),λj y v' e1 e2 e3=>?_⟩,λy c' e=>?_,I.free,I.freeC,λp hp=>?_,tracked ⟨oc,hoc,I.freeC x c hc⟩ hs,by simpa using I.len⟩ ⟨c,hs,.inr hc⟩
  ·exact(hs.2 b (Zw (Zu (Zn e) (I.ok.cab x c hfn hc)))).trans (I.base.keep b o e n hb hx)
  ·obtain⟨sl,e1⟩:=I.base.slot b o e n hb hx;exact⟨sl,(hs.2 b (Zw (Zu (Zn e) (I.ok.cab x c hfn hc)))).trans e1⟩
  ·obtain⟨o',e1⟩:=I.base.there b o e hx;exact⟨o',(hs.2 b (Zw (Zu (Zn e) (I.ok.cab x c hfn hc)))).trans e1⟩
  ·by_cases hj:j=i
   ·subst hj;rw[hi]at e1;cases e1;rw[List.getElem?_set_self hiσ]at e2;cases e2;exact⟨u,r,.inr ⟨.inl hk,c,hc,hc'⟩⟩
   ·rw[ZR (Ne.symm hj)]at e2;obtain⟨u',r',q⟩:=hl j y v' e1 e2 e3;refine⟨u',r',?_⟩;rcases q with q| ⟨k,c',e,z'⟩
    ·exact .inl q
    ·refine .inr ⟨k,c',e,z'.sameBut hs ?_⟩;rintro rfl;exact hj (a7j' hN e1 (I.ok.inj _ _ _ e hc▸hi))
  ·by_cases hcc:c'=c
   ·subst hcc;exact⟨_,hc'⟩
   ·obtain⟨w2,z2⟩:=I.cell y c' e;exact⟨w2,z2.sameBut hs hcc⟩
  ·obtain⟨e,n,ne,nf,d⟩:=I.pin p hp;refine⟨(hs.2 p.1 ?_).trans e,n,ne,nf,d⟩;intro q;rw[q,hoc]at e;have q':oc=p.2:=Option.some.inj e;exact d w' (by rw[←q'];exact hocd)
theorem a7k'{M:Model}{A:Around}{E:Vs}{i:Nat}{x:Str}{v:V}{Q:Unit→Shared→Prop}(I:Inv X pq σ H s)(hN:X.N.Nodup)(hi:X.N[i]?=some x)(hx:Loc X.env.scope x)(r:RelV v u)
  (h:∀s',Inv X pq (σ.set i (some v)) H s'→Q () s') (hf:X.fn x=true∨X.env.scope.names.lookup x=some .local:=by first|exact .inl rfl|exact .inr rfl|assumption):wpAny M A (storeName X.env x u) Q E s:=
 a5W' I hN hi hx r (λs' I' _=>h s' I') hf
theorem Inv.call'(I:Inv X pq σ H s)(ho:s'.os=s.os)(u:Un (frs X.stack) ch H H' s.heap s'.heap)(hok:HOk X.prog X.w H' s'.heap)(hg:AllBare s'.gens)
  (hch:∀b∈ch,(b∈X.ex∨X.s₀.heap.objs.size≤b)∧b≠X.env.locals∧(∀x c,X.env.cells.lookup x=some c→c≠b)∧∀p∈X.pn++pq,p.1≠b):Inv X pq σ H' s':=by
 obtain⟨h',g',d',t',o'⟩:=s';have e:o'=s.os:=ho;subst e;exact I.call (g':=g') (t':=t') (d':=d') u hok hg hch
end
abbrev XK:=Value→Option Addr→Hp→Prop
abbrev St:=List (Option V)
abbrev VK:=V→Hp→Prop
abbrev TE:=St→Hp→VK→Prop
abbrev TT:=St→Hp→(Bool→Hp→Prop)→Prop
abbrev TA:=St→Hp→(List V→Hp→Prop)→Prop
structure Ends where
 nx:St→Hp→Prop
 rt:VK
 bk:St→Hp→Prop:=λ_ _=>False
 ct:St→Hp→Prop:=λ_ _=>False
abbrev TS:=Ends→St→Hp→Prop
def EP(X:Cx)(pq:Lp)(σ:St)(Q:VK)(u:Value)(s':Shared):Prop:=∃v H',Inv X pq σ H' s'∧RelV v u∧Q v H'
def TP(X:Cx)(pq:Lp)(σ:St)(Q:Bool→Hp→Prop)(b:Bool)(s':Shared):Prop:=∃H',Inv X pq σ H' s'∧Q b H'
def AP(X:Cx)(pq:Lp)(σ:St)(Q:List V→Hp→Prop)(us:Lv)(s':Shared):Prop:=∃vs H',Inv X pq σ H' s'∧Vals vs us∧Q vs H'
def SP(X:Cx)(pq:Lp)(D:Ends)(f:Flow)(s':Shared):Prop:=
 match f with
 | .next=>∃σ' H',Inv X pq σ' H' s'∧D.nx σ' H'
 | .brk=>∃σ' H',Inv X pq σ' H' s'∧D.bk σ' H'
 | .cont=>∃σ' H',Inv X pq σ' H' s'∧D.ct σ' H'
 | .ret u=>∃v σ' H',Inv X pq σ' H' s'∧RelV v u∧D.rt v H'
def PE(X:Cx)(e:Expr)(t:TE):Prop:=
 ∀(pq:Lp) (s:Shared) (σ:St) (H:Hp) (Q:VK),Inv X pq σ H s→t σ H Q→wpAny (model X.prog X.w) X.A (eval e X.env) (EP X pq σ Q) X.xe s
def PT(X:Cx)(e:Expr)(t:TT):Prop:=
 ∀(pq:Lp) (s:Shared) (σ:St) (H:Hp) (Q:Bool→Hp→Prop),Inv X pq σ H s→t σ H Q→wpAny (model X.prog X.w) X.A (isTrue e X.env (eval e X.env)) (TP X pq σ Q) X.xe s
def PW(X:Cx)(e:Expr)(t:TT):Prop:=
 ∀(whole:Sem Value) (pq:Lp) (s:Shared) (σ:St) (H:Hp) (Q:Bool→Hp→Prop),Inv X pq σ H s→t σ H Q→wpAny (model X.prog X.w) X.A (isTrue e X.env whole) (TP X pq σ Q) X.xe s
theorem PW.pt{X:Cx}{t:TT}(h:PW X e t):PT X e t:=h _
def PA(X:Cx)(es:Lx)(t:TA):Prop:=
 ∀(pos:Pos) (pq:Lp) (s:Shared) (σ:St) (H:Hp) (Q:List V→Hp→Prop),Inv X pq σ H s→t σ H Q→wpAny (model X.prog X.w) X.A (spliced (backTo pos (starEach es X.env))) (AP X pq σ Q) X.xe s
def PS(X:Cx)(st:Stmt)(t:TS):Prop:=
 ∀(pq:Lp) (s:Shared) (σ:St) (H:Hp) (D:Ends),Inv X pq σ H s→t D σ H→wpAny (model X.prog X.w) X.A (exec st X.env) (SP X pq D) X.xe s
def PSs(X:Cx)(st:List Stmt)(t:TS):Prop:=
 ∀(pq:Lp) (s:Shared) (σ:St) (H:Hp) (D:Ends),Inv X pq σ H s→t D σ H→wpAny (model X.prog X.w) X.A (execs st X.env) (SP X pq D) X.xe s
theorem thn{t:Sem α}{Q Q':α→Shared→Prop}(h:wpAny M A t Q E s)(hQ:∀a s,Q a s→Q' a s):wpAny M A t Q' E s:=wpAny_mono h hQ λ_ _ x=>x
section
variable {X:Cx}
def tVar(i:Nat):TE:=λσ H Q=>∃v,σ[i]?=some (some v)∧Q v H
def tC(v:V):TE:=λ_ H Q=>Q v H
theorem pe_var{i:Nat}{x:Str}{pos:Pos}(hN:X.N[i]?=some x)(hv:Vis X.env.scope x)(hd:(x==("__debug__":Str))=false:=by decide)(hcd:(x==("__classdict__":Str))=false:=by decide):PE X (.Name x pos) (tVar i):=by
 intro pq s σ H Q I h;obtain⟨v,e,h⟩:=h;obtain⟨m,hn,hl⟩:=I.loc;obtain⟨u,r,l⟩:=hl i x v hN e hv;have fin:EP X pq σ Q u s:=⟨v,H,I,r,h⟩;rcases l with⟨hk,hm⟩| ⟨hk,c,hc,hcell⟩
 ·exact wpAny_Name (wpAny_loadName_local I.ok.kind hk hn hm fin) hd
 ·rcases hk with hk|hk
  ·exact wpAny_Name (wpAny_loadName_cell I.ok.kind hk hc hcell fin) hd
  ·exact wpAny_Name (wpAny_loadName_free I.ok.kind hk hc hcell fin hcd) hd
theorem pe_int{i j pos}:PE X (.Constant (.int i) j pos) (tC (.int i)):=λ_ _ _ H _ I h=>wpAny_Constant_int ⟨.int i,H,I.tok _,⟨_,rfl⟩,h⟩
theorem pe_bl{b j pos}:PE X (.Constant (.bool b) j pos) (tC (.bl b)):=λ_ _ _ H _ I h=>Constant_bool ⟨.bl b,H,I,rfl,h⟩
theorem pe_non{j pos}:PE X (.Constant .none j pos) (tC .non):=λ_ _ _ H _ I h=>Constant_none ⟨.non,H,I,rfl,h⟩
theorem pe_str{x j pos}:PE X (.Constant (.str x) j pos) (tC (.str x)):=λ_ _ _ H _ I h=>Calls.Constant_str ⟨.str x,H,I.tok _,⟨_,rfl⟩,h⟩
def Gl(X:Cx)(x:Str):Prop:=X.env.kindOf x=some .globalImplicit
theorem a7l'{E:Vs}{σ:St}{H:Hp}{x:Str}{pos:Pos}(I:Inv X pq σ H s)(hg:Gl X x)(hm:X.mg x=some u)(h:Q u s)
  (hd:(x==("__debug__":Str))=false:=by decide):wpAny (model X.prog X.w) X.A (eval (.Name x pos) X.env) Q E s:=
 Calls.Name_function_global I.ok.kind hg (Calls.loadGlobal_global (by rw[I.ok.glob];exact I.mod.glob.keeps I.bk) hm h) hd
theorem a4D'{E:Vs}{σ:St}{H:Hp}{x:Str}{pos:Pos}(I:Inv X pq σ H s)(hg:Gl X x)(hm:X.mg x=none)(hv:bootBuiltins x=some u)(h:Q u s)
  (hn:x≠"__name__":=by decide) (hd:(x==("__debug__":Str))=false:=by decide):wpAny (model X.prog X.w) X.A (eval (.Name x pos) X.env) Q E s:=by
 obtain⟨mb,h1,h2⟩:=I.mod.blt;exact Calls.Name_function_global I.ok.kind hg (Calls.loadGlobal_builtin (by rw[I.ok.glob];exact I.mod.glob.keeps I.bk) hm (by rw[I.ok.blt];exact h1.keeps I.bk) ((h2 x hn).trans hv) h) hd
theorem pe_glob{x:Str}{v:V}{pos:Pos}(hg:Gl X x)(hm:X.mg x=some u)(r:RelV v u)(hd:(x==("__debug__":Str))=false:=by decide):PE X (.Name x pos) (tC v):=
 λ_ _ _ H _ I h=>a7l' I hg hm ⟨v,H,I,r,h⟩ hd
theorem pe_bltn{x:Str}{v:V}{pos:Pos}(hg:Gl X x)(hm:X.mg x=none)(hv:bootBuiltins x=some u)(r:RelV v u)(hn:x≠"__name__":=by decide)(hd:(x==("__debug__":Str))=false:=by decide):PE X (.Name x pos) (tC v):=
 λ_ _ _ H _ I h=>a4D' I hg hm hv ⟨v,H,I,r,h⟩ hn hd
variable {a b:Expr}{ta tb:TE}{pos:Pos}
variable {tA tB':TT}{rest:Lx}
def tAnd(t u:TT):TT:=λσ H Q=>t σ H λc H1=>if c=true then u σ H1 Q else Q false H1
def tOr(t u:TT):TT:=λσ H Q=>t σ H λc H1=>if c=true then Q true H1 else u σ H1 Q
def tNot(t:TT):TT:=λσ H Q=>t σ H λc H1=>Q (!c) H1
theorem pw_and1(ha:PT X a tA):PW X (.BoolOp .And [a] pos) tA:=by
 intro wh pq s σ H Q I h;refine isTrue_and (thn (ha pq s σ H Q I h) λc s1 e=>?_);cases c with
 |true=>exact isTrue_and_nil e
 |false=>exact e
theorem pw_or1(ha:PT X a tA):PW X (.BoolOp .Or [a] pos) tA:=by
 intro wh pq s σ H Q I h;refine isTrue_or (thn (ha pq s σ H Q I h) λc s1 e=>?_);cases c with
 |false=>exact isTrue_or_nil e
 |true=>exact e
theorem pw_and(ha:PT X a tA)(hb:PW X (.BoolOp .And (b::rest) pos) tB'):PW X (.BoolOp .And (a::b::rest) pos) (tAnd tA tB'):=by
 intro wh pq s σ H Q I h;refine isTrue_and (thn (ha pq s σ H _ I h) λc s1 ⟨H1,I1,q1⟩=>?_);cases c with
 |true=>exact hb wh pq s1 σ H1 Q I1 q1
 |false=>exact⟨H1,I1,q1⟩
theorem pw_or(ha:PT X a tA)(hb:PW X (.BoolOp .Or (b::rest) pos) tB'):PW X (.BoolOp .Or (a::b::rest) pos) (tOr tA tB'):=by
 intro wh pq s σ H Q I h;refine isTrue_or (thn (ha pq s σ H _ I h) λc s1 ⟨H1,I1,q1⟩=>?_);cases c with
 |true=>exact⟨H1,I1,q1⟩
 |false=>exact hb wh pq s1 σ H1 Q I1 q1
theorem pt_not(ha:PT X a tA):PT X (.UnaryOp .Not a pos) (tNot tA):=by intro pq s σ H Q I h;exact isTrue_not (ha pq s σ H (λc H1=>Q (!c) H1) I h)
def tAndV(ta tb:TE):TE:=λσ H Q=>ta σ H λx H1=>∃c,x=.bl c∧if c=true then tb σ H1 Q else Q (.bl false) H1
def tOrV(ta tb:TE):TE:=λσ H Q=>ta σ H λx H1=>∃c,x=.bl c∧if c=true then Q (.bl true) H1 else tb σ H1 Q
theorem pe_one{op}{t:TE}(h:PE X a t):PE X (.BoolOp op [a] pos) t:=λpq s σ H Q I hw=>BoolOp_one (h pq s σ H Q I hw)
theorem pe_and(ha:PE X a ta)(hb:PE X (.BoolOp .And (b::rest) pos) tb):PE X (.BoolOp .And (a::b::rest) pos) (tAndV ta tb):=by
 intro pq s σ H Q I h;refine BoolOp_and (thn (ha pq s σ H _ I h) λv s1 ⟨x,H1,I1,r1,q1⟩=>?_);obtain⟨c,rfl,q1⟩:=q1;cases r1;refine wpAny_truthy_bool ?_;cases c with
 |true=>exact hb pq s1 σ H1 Q I1 q1
 |false=>exact⟨.bl false,H1,I1,rfl,q1⟩
theorem pe_or(ha:PE X a ta)(hb:PE X (.BoolOp .Or (b::rest) pos) tb):PE X (.BoolOp .Or (a::b::rest) pos) (tOrV ta tb):=by
 intro pq s σ H Q I h;refine BoolOp_or (thn (ha pq s σ H _ I h) λv s1 ⟨x,H1,I1,r1,q1⟩=>?_);obtain⟨c,rfl,q1⟩:=q1;cases r1;refine wpAny_truthy_bool ?_;cases c with
 |false=>exact hb pq s1 σ H1 Q I1 q1
 |true=>exact⟨.bl true,H1,I1,rfl,q1⟩
def tIf(t:TT)(ta tb:TE):TE:=λσ H Q=>t σ H λc H1=>if c=true then ta σ H1 Q else tb σ H1 Q
theorem b0U'{c:Expr}(hc:PT X c tA)(ha:PE X a ta)(hb:PE X b tb):PE X (.IfExp c a b pos) (tIf tA ta tb):=by
 intro pq s σ H Q I h;refine wpAny_IfExp (thn (hc pq s σ H _ I h) λd s1 ⟨H1,I1,q1⟩=>?_);cases d with
 |true=>exact ha pq s1 σ H1 Q I1 q1
 |false=>exact hb pq s1 σ H1 Q I1 q1
end
def SqL(K:Fg)(H:Hp)(a:Addr)(xs:List V):Prop:=
 Rd H a (.lst xs)∨
  ∃(o:Obj) (its:Av) (n:Nat),K.lookup a=some o∧o.cls=.type "list"∧o.dict=none∧o.data=.seq its n∧its.size≤sizeLine∧Vals xs its.toList
def SqT(K:Fg)(H:Hp)(a:Addr)(xs:List V):Prop:=
 Rd H a (.tup xs)∨
  ∃(o:Obj) (its:Av) (n:Nat),K.lookup a=some o∧o.cls=.type "tuple"∧o.dict=none∧o.data=.seq its n∧its.size≤sizeLine∧Vals xs its.toList
noncomputable def absV:Value→Option V
 | .none=>some .non
 | .bool b=>some (.bl b)
 | .int i _=>some (.int i)
 | .str x _=>some (.str x)
 | .bytes b _=>some (.byt b)
 | .float b _=>some (.flt b)
 | .ref a=>some (.ref a)
 | .type n=>some (.ty n)
 |_=>none
theorem RelV.abs{x:V}(r:RelV x u):absV u=some x:=by
 cases x with
 |non=>cases r;rfl
 |bl _=>cases r;rfl
 |int _=>obtain⟨t,rfl⟩:=r;rfl
 |str _=>obtain⟨t,rfl⟩:=r;rfl
 |byt _=>obtain⟨t,rfl⟩:=r;rfl
 |flt _=>obtain⟨t,rfl⟩:=r;rfl
 |ref _=>cases r;rfl
 |ty _=>cases r;rfl
theorem RelV.inj{x y:V}(r:RelV x u)(q:RelV y u):x=y:=Option.some.inj (r.abs.symm.trans q.abs)
theorem Vals.inj:∀{xs ys:List V} {us:Lv},Vals xs us→Vals ys us→xs=ys
 |_,_,_,.nil,.nil=>rfl
 |_,_,_,.cons r t,.cons r' t'=>by rw[r.inj r',Vals.inj t t']
section
variable {X:Cx}{σ:St}{H:Hp}{xs ys:List V}
theorem SqL.of(h:H a=some (.lst xs)):SqL K H a xs:=.inl (.inl h)
theorem SqT.of(h:H a=some (.tup xs)):SqT K H a xs:=.inl (.inl h)
theorem Inv.list(I:Inv X pq σ H s)(h:SqL X.K H a xs):∃its:Lv,Vals xs its∧PlainL s.heap a its.toArray∧xs.length≤sizeLine:=by
 rcases h with h| ⟨o,its,n,hk,hc,hd,hs,hz,r⟩
 ·obtain⟨z,its,n,r,e⟩:=h.ok I.hok;exact⟨its,r,⟨_,n,e,rfl,rfl,rfl⟩,z⟩
 ·refine⟨its.toList,r,⟨o,n,I.kIn a o hk,hc,hd,by simpa using hs⟩,?_⟩;have e:=r.length;simp only[ZF]at e;omega
theorem Inv.tuple(I:Inv X pq σ H s)(h:SqT X.K H a xs):∃its:Lv,Vals xs its∧IsTup s.heap a its.toArray∧xs.length≤sizeLine:=by
 rcases h with h| ⟨o,its,n,hk,hc,_,hs,hz,r⟩
 ·obtain⟨z,its,r,p,_⟩:=h.ok I.hok;exact⟨its,r,p,z⟩
 ·refine⟨its.toList,r,⟨o,I.kIn a o hk,hc,n,by simpa using hs⟩,?_⟩;have e:=r.length;simp only[ZF]at e;omega
theorem Inv.list_inj(I:Inv X pq σ H s)(h:SqL X.K H a xs)(h':SqL X.K H a ys):xs=ys:=by
 obtain⟨its,r,⟨o,n,e,_,_,d⟩,_⟩:=I.list h;obtain⟨its',r',⟨o',n',e',_,_,d'⟩,_⟩:=I.list h';rw[e]at e';cases e';rw[d]at d';injection d' with d1 _
 have:its=its':=by simpa using congrArg Array.toList d1
 subst this;exact r.inj r'
theorem Inv.tuple_inj(I:Inv X pq σ H s)(h:SqT X.K H a xs)(h':SqT X.K H a ys):xs=ys:=by
 obtain⟨its,r,⟨o,e,_,n,d⟩,_⟩:=I.tuple h;obtain⟨its',r',⟨o',e',_,n',d'⟩,_⟩:=I.tuple h';rw[e]at e';cases e';rw[d]at d';injection d' with d1 _
 have:its=its':=by simpa using congrArg Array.toList d1
 subst this;exact r.inj r'
end
section
variable {X:Cx}{σ:St}{H:Hp}
end
section
variable {X:Cx}{rest:List Stmt}{t u:TS}{te:TE}{pos:Pos}
def tNext:TS:=λD σ H=>D.nx σ H
def tSeq(t u:TS):TS:=λD σ H=>t {D with nx:=u D} σ H
theorem a7m':PSs X [] tNext:=λ_ _ σ H _ I h=>wpAny_execs_nil ⟨σ,H,I,h⟩
theorem a3e'(h1:PS X st t)(h2:PSs X rest u):PSs X (st::rest) (tSeq t u):=by
 intro pq s σ H D I h;refine wpAny_execs_cons (thn (h1 pq s σ H {D with nx:=u D} I h) λf s1 q=>?_);cases f with
 |next=>obtain⟨σ',H',I',q⟩:=q;exact h2 pq s1 σ' H' D I' q
 |ret v=>exact q
 |brk=>exact q
 |cont=>exact q
theorem pss_one(h1:PS X st t):PSs X [st] t:=by
 intro pq s σ H D I h;refine wpAny_execs_cons (thn (h1 pq s σ H D I h) λf s1 q=>?_);cases f with
 |next=>exact wpAny_execs_nil q
 |ret v=>exact q
 |brk=>exact q
 |cont=>exact q
def tBreak:TS:=λD σ H=>D.bk σ H
def tCont:TS:=λD σ H=>D.ct σ H
theorem ps_pass:PS X (.Pass pos) tNext:=λ_ _ σ H _ I h=>wpAny_Pass ⟨σ,H,I,h⟩
theorem b0V':PS X (.Break pos) tBreak:=λ_ _ σ H _ I h=>wpAny_Break ⟨σ,H,I,h⟩
theorem a6I':PS X (.Continue pos) tCont:=λ_ _ σ H _ I h=>wpAny_Continue ⟨σ,H,I,h⟩
theorem Inv.quiet{σ:St}{H:Hp}(I:Inv X pq σ H s):interactive X.env=false:=by simp[interactive,I.ok.kind]
def tDrop(te:TE):TS:=λD σ H=>te σ H λ_ H1=>D.nx σ H1
theorem ps_expr(he:PE X e te)(hs:swapsWith e none pos.line X.env=pure false:=by rfl):PS X (.Expr e pos) (tDrop te):=by intro pq s σ H D I h;exact wpAny_Expr_any (thn (he pq s σ H _ I h) λv s1 ⟨x,H1,I1,r1,q1⟩=>⟨σ,H1,I1,q1⟩) I.quiet hs
def tRet(te:TE):TS:=λD σ H=>te σ H D.rt
theorem ps_ret(he:PE X e te):PS X (.Return (some e) pos) (tRet te):=by intro pq s σ H D I h;exact wpAny_Return_some (thn (he pq s σ H _ I h) λv s1 ⟨x,H1,I1,r1,q1⟩=>⟨x,σ,H1,I1,r1,q1⟩)
def tRetN:TS:=λD _ H=>D.rt .non H
theorem ps_retN:PS X (.Return none pos) tRetN:=λ_ _ σ H _ I h=>wpAny_Return_none ⟨.non,σ,H,I,rfl,h⟩
def tIfS(c:TT)(t u:TS):TS:=λD σ H=>c σ H λb H1=>if b=true then t D σ H1 else u D σ H1
theorem ps_if{c:Expr}{a b:List Stmt}{tc:TT}(hc:PT X c tc)(ha:PSs X a t)(hb:PSs X b u):PS X (.If c a b pos) (tIfS tc t u):=by
 intro pq s σ H D I h;refine wpAny_If (thn (hc pq s σ H _ I h) λd s1 ⟨H1,I1,q1⟩=>?_);cases d with
 |true=>exact ha pq s1 σ H1 D I1 q1
 |false=>exact hb pq s1 σ H1 D I1 q1
end
abbrev TG:=V→St→Hp→(St→Hp→Prop)→Prop
abbrev TGs:=List V→St→Hp→(St→Hp→Prop)→Prop
def PG(X:Cx)(target:Expr)(t:TG):Prop:=
 ∀(pq:Lp) (s:Shared) (σ:St) (H:Hp) (v:V) (u:Value) (Q:St→Hp→Prop),Inv X pq σ H s→RelV v u→t v σ H Q→
  wpAny (model X.prog X.w) X.A (assign target X.env u) (λ_ s'=>∃σ' H',Inv X pq σ' H' s'∧Q σ' H') X.xe s
def PGs(X:Cx)(ts:Lx)(t:TGs):Prop:=
 ∀(pq:Lp) (s:Shared) (σ:St) (H:Hp) (vs:List V) (us:Lv) (Q:St→Hp→Prop),Inv X pq σ H s→Vals vs us→t vs σ H Q→
  wpAny (model X.prog X.w) X.A (assignInOrder ((assignEach ts X.env).map (·.2)) us) (λ_ s'=>∃σ' H',Inv X pq σ' H' s'∧Q σ' H') X.xe s
abbrev TSet:=V→V→V→Hp→(Hp→Prop)→Prop
def PSet(X:Cx)(t:TSet):Prop:=
 ∀(pq:Lp) (s:Shared) (σ:St) (H:Hp) (o i v:V) (ov iv u:Value) (Q:Hp→Prop),Inv X pq σ H s→RelV o ov→RelV i iv→RelV v u→t o i v H Q→
  wpAny (model X.prog X.w) X.A (setItem ov iv u) (λ_ s'=>∃H',Inv X pq σ H' s'∧Q H') X.xe s
section
variable {X:Cx}{pos:Pos}
def gName(i:Nat):TG:=λv σ H Q=>Q (σ.set i (some v)) H
theorem pg_name{i:Nat}{x:Str}(hN:X.N.Nodup)(hi:X.N[i]?=some x)(hx:Loc X.env.scope x)(hf:X.fn x=true∨X.env.scope.names.lookup x=some .local:=by first|exact .inl rfl|exact .inr rfl|assumption):PG X (.Name x pos) (gName i):=by intro pq s σ H v u Q I r h;exact wpAny_assign_Name (a7k' I hN hi hx r (λs' I'=>⟨_,H,I',h⟩) hf)
def gNil:TGs:=λvs σ H Q=>vs=[]∧Q σ H
noncomputable def gCons(t:TG)(u:TGs):TGs:=λvs σ H Q=>∃v r,vs=v::r∧t v σ H λσ' H'=>u r σ' H' Q
theorem pgs_nil:PGs X [] gNil:=by intro pq s σ H vs us Q I r h;obtain⟨e,h⟩:=h;subst e;cases r;exact assignInOrder_nil ⟨σ,H,I,h⟩
theorem b0W'{t:TG}{u:TGs}(h1:PG X e t)(h2:PGs X es u)
  (hs:(assignEach (e::es) X.env).map (·.2)=assign e X.env::(assignEach es X.env).map (·.2):=by rfl):PGs X (e::es) (gCons t u):=by
 intro pq s σ H vs us Q I r h;obtain⟨v,vr,e1,h⟩:=h;subst e1;cases r with
 |cons r rr=>rw[hs];refine assignInOrder_cons (thn (h1 pq s σ H _ _ _ I r h) λ_ s1 ⟨σ1,H1,I1,q1⟩=>?_);exact h2 pq s1 σ1 H1 _ _ Q I1 rr q1
def gTup(K:Fg)(n:Nat)(t:TGs):TG:=λv σ H Q=>∃a xs,v=.ref a∧SqT K H a xs∧xs.length=n∧t xs σ H Q
theorem pg_tup{k:Nat}{t:TGs}(hc:X.calm=true)(h:PGs X es t)
  (hn:(assignEach es X.env).length=n:=by rfl) (hst:(assignEach es X.env).findIdx? (·.1)=none:=by rfl):PG X (.Tuple es k pos) (gTup X.K n t):=by
 intro pq s σ H v u Q I r hw;obtain⟨a,xs,e1,hq,hl,hw⟩:=hw;subst e1;cases r;obtain⟨its,rv,ht,hz⟩:=I.tuple hq;refine assign_Tuple_tuple (I.ok.hd hc) ht (by simp[hn,←hl,rv.length]) hst λh' hx=>?_;have I1:Inv X pq σ H {s with heap:=h'}:=I.kept (t':=s.toks) λb o e=>hx b o (Zw (Zn e)) e;exact h pq _ σ H xs _ Q I1 (by simpa using rv) hw
def gSub(to ti:TE)(t:TSet):TG:=λv σ H Q=>to σ H λo H1=>ti σ H1 λi H2=>t o i v H2 λH3=>Q σ H3
theorem pg_sub{o i:Expr}{to ti:TE}{t:TSet}(ho:PE X o to)(hi:PE X i ti)(hs:PSet X t)
  (ha:∀v,assign (.Subscript o i pos) X.env v=(do
   let ov ←holding [v] (eval o X.env)
   let iv ←holding [v,ov] (eval i X.env)
   standAt pos
   holding [v,ov,iv] (setItem ov iv v)
   release [v,ov,iv] []):=by intro _;rfl):PG X (.Subscript o i pos) (gSub to ti t):=by
 intro pq s σ H v u Q I r h;rw[ha];refine Za (ZY (thn (ho pq s σ H _ I h) λov s1 ⟨x,H1,I1,r1,q1⟩=>?_));refine Za (ZY (thn (hi pq s1 σ H1 _ I1 q1) λiv s2 ⟨y,H2,I2,r2,q2⟩=>?_));refine Za (wpAny_standAt (Za (ZY (thn (hs pq s2 σ H2 x y v ov iv u _ I2 r1 r2 r q2) λ_ s3 ⟨H3,I3,q3⟩=>?_))));exact wpAny_release ⟨σ,H3,I3,q3⟩
def tAsg(te:TE)(g:TG):TS:=λD σ H=>te σ H λx H1=>g x σ H1 D.nx
theorem ps_asg{te:TE}{g:TG}(he:PE X e te)(hg:PG X tg g)(hs:swapsWithSole [tg] e pos.line X.env=pure false:=by rfl)(hw:swappedStores [tg] e X.env=pure none:=by rfl)
  (h1:(assignEach [tg] X.env).map (·.2)=[assign tg X.env]:=by rfl):PS X (.Assign [tg] e pos) (tAsg te g):=by
 intro pq s σ H D I h;refine wpAny_Assign_stores (thn (he pq s σ H _ I h) λv s1 ⟨x,H1,I1,r1,q1⟩=>?_) hs hw;rw[h1];exact thn (hg pq s1 σ H1 x v _ I1 r1 q1) λ_ s2 q=>q
theorem ps_set{i:Nat}{x:Str}{te:TE}(hN:X.N.Nodup)(hi:X.N[i]?=some x)(hx:Loc X.env.scope x)(he:PE X e te)(hs:swapsWith e (some (.Name x pos')) pos.line X.env=pure false:=by rfl)(hf:X.fn x=true∨X.env.scope.names.lookup x=some .local:=by first|exact .inl rfl|exact .inr rfl|assumption):
  PS X (.Assign [.Name x pos'] e pos) (tAsg te (gName i)):=by
 intro pq s σ H D I h;refine wpAny_Assign_Name (thn (he pq s σ H _ I h) λv s1 ⟨y,H1,I1,r1,q1⟩=>?_) hs;exact a7k' I1 hN hi hx r1 (λs2 I2=>⟨_,H1,I2,q1⟩) hf
end
section
variable {X:Cx}{pos:Pos}
end
structure It where
 go:Nat→Hp→Prop
 yld:Nat→Hp→V→Hp→Prop
 stop:Nat→Hp→Prop
def FpOk(X:Cx)(pq:Lp)(H:Hp)(b:Addr):Prop:=
 H b=none∧b≠X.env.locals∧b∉X.fs∧(b∈X.ex∨X.s₀.heap.objs.size≤b)∧(∀x c,X.env.cells.lookup x=some c→c≠b)∧∀p∈X.pn++pq,p.1≠b
theorem Inv.fpOk{X:Cx}{σ:St}{H H':Hp}{b:Addr}(I:Inv X pq σ H s)(hb:s.heap.objs.size≤b)(hn:H' b=none):FpOk X pq H' b:=by
 refine⟨hn,Nat.ne_of_gt (Zu I.lt hb),I.nofs hb,.inr (ZS I.sz hb),λx c e z=>?_,λp hp z=>?_⟩
 ·obtain⟨v,q⟩:=I.cell x c e;exact absurd (Zu q.lt (by rw[z];exact hb)) (Z1 _)
 ·exact absurd (Zu (Zn (I.pin p hp).1) (by rw[z];exact hb)) (Z1 _)
structure Turn (P:Program)(w:World)(K:Fg)(tg:Expr)(J:It)(fp:La)(it:Addr)(tn:Nat→Heap→Prop):Prop where
 mem:it∈fp
 obj:∀i h,tn i h→∀b∈fp,∃o,h.get? b=some o∧∀v,o.data≠.cell v
 keep:∀i h h',tn i h→(∀b∈fp,∀o,h.get? b=some o→h'.get? b=some o)→tn i h'
 item:∀(X:Cx),X.prog=P→X.w=w→X.K=K→X.calm=true→∀(i:Nat) (pq:Lp) (s:Shared) (σ:St) (H:Hp) (E:Vs),Inv X pq σ H s→(∀b∈fp,FpOk X pq H b)→tn i s.heap→J.go i H→
  wpAny (model P w) X.A (pyNext (.ref it)) (λr s1=>∃u,r=some u∧
   wpAny (model P w) X.A (letOwnedTupleGo tg (.ref it) u) (λ_ s2=>∃x H',Inv X pq σ H' s2∧RelV x u∧J.yld i H x H'∧tn (i+1) s2.heap∧∀b∈fp,H' b=none) E s1) E s
 done:∀(X:Cx),X.prog=P→X.w=w→X.K=K→X.calm=true→∀(i:Nat) (pq:Lp) (s:Shared) (σ:St) (H:Hp) (E:Vs),Inv X pq σ H s→(∀b∈fp,FpOk X pq H b)→tn i s.heap→J.stop i H→
  wpAny (model P w) X.A (pyNext (.ref it)) (λr s1=>r=none∧Inv X pq σ H s1) E s
 self:∀(A:Around) (i:Nat) (s:Shared) (Q:Vs) (E:Vs),tn i s.heap→Q (.ref it) s→wpAny (model P w) A (pyIter (.ref it)) Q E s
abbrev TI:=St→Hp→(It→Hp→Prop)→Prop
def PIE(X:Cx)(pq:Lp)(σ:St)(tg:Expr)(R:It→Hp→Prop)(itv:Value)(s2:Shared):Prop:=
 ∃(it:Addr) (fp:La) (tn:Nat→Heap→Prop) (J:It) (H':Hp),itv=.ref it∧Inv X pq σ H' s2∧Turn X.prog X.w X.K tg J fp it tn∧tn 0 s2.heap∧(∀b∈fp,FpOk X pq H' b)∧R J H'
def PI(X:Cx)(tg iter:Expr)(wi:TI):Prop:=
 ∀(pq:Lp) (s:Shared) (σ:St) (H:Hp) (R:It→Hp→Prop),Inv X pq σ H s→wi σ H R→
  wpAny (model X.prog X.w) X.A (eval iter X.env) (λv s1=>wpAny (model X.prog X.w) X.A (pyIter v) (PIE X pq σ tg R) X.xe s1) X.xe s
theorem go_of{n:String}{vs:Av}{Q:Unit→Shared→Prop}(ho:s.heap.get? it=some o)(hc:o.cls=.type n)(hd:o.data=.fields vs)
  (hn:["enumerate","zip","dict_itemiterator","dict_reverseitemiterator","odict_iterator","itertools.zip_longest","itertools.pairwise"].contains n=false) (hQ:Q () s):wpAny M A (letOwnedTupleGo tg (.ref it) u) Q E s:=by
 unfold letOwnedTupleGo
 cases tg<;>first
  |exact Ze hQ
  | (cases u<;>first
    |exact Ze hQ
    | (refine Za (wpAny_load ho ?_)
       rw[hc,hd];show wpAny M A (if(["enumerate","zip","dict_itemiterator","dict_reverseitemiterator","odict_iterator","itertools.zip_longest","itertools.pairwise"].contains n&&vs[0]?==some (rawInt _))=true then _ else _) Q E s;rw[if_neg (by intro h;rw[hn,Bool.false_and]at h;cases h)];exact Ze hQ))
noncomputable def Itl(K:Fg)(a:Addr):It:=
 ⟨λi H=>∃xs x,SqL K H a xs∧xs[i]?=some x,λi H x H'=>H'=H∧∀xs,SqL K H a xs→xs[i]?=some x,λi H=>∃xs,SqL K H a xs∧xs.length≤i⟩
noncomputable def Itt(K:Fg)(a:Addr):It:=
 ⟨λi H=>∃xs x,SqT K H a xs∧xs[i]?=some x,λi H x H'=>H'=H∧∀xs,SqT K H a xs→xs[i]?=some x,λi H=>∃xs,SqT K H a xs∧xs.length≤i⟩
noncomputable def Itr(lo:Int)(n:Nat):It:=⟨λi _=>i<n,λi H x H'=>H'=H∧x=.int (lo+i),λi _=>n≤i⟩
theorem a9d'(a it:Addr):Turn P w K tg (Itl K a) [it] it (λi h=>h.IsListIter it a i) where
 mem:=by simp
 obj:=λi h st b hb=>by
  have e:b=it:=by simpa using hb
  subst e;obtain⟨o,e,c,d⟩:=st;exact⟨o,e,λv z=>by rw[d]at z;cases z⟩
 keep:=λi h h' st k=>st.at λo e=>k it (by simp) o e
 item:=by intro X hP hw hK hc i pq s σ H E I hf st hg;subst hP hw hK;obtain⟨xs,x,hq,hx⟩:=hg;obtain⟨its,rv,p,hz⟩:=I.list hq;obtain⟨u,hu,ru⟩:=rv.get hx;obtain⟨f0,f1,f2,f3,f4,f5⟩:=hf it (by simp);refine wpAny_pyNext_list_item st p.isList (x:=u) (by simpa using hu) λh' st' sb=>?_;have I1:Inv X pq σ H {s with heap:=h'}:=I.turned (t':=s.toks) (λb o hb e=>(sb.2 b hb).trans e) f0 f1 f3 f4 f5;obtain⟨o,e,c,d⟩:=id st';exact⟨u,rfl,go_of (s:={s with heap:=h'}) e c d (by decide) ⟨x,H,I1,ru,⟨rfl,λys hy=>by rw[I.list_inj hy hq];exact hx⟩,st',λb hb=>(hf b hb).1⟩⟩
 done:=by intro X hP hw hK hc i pq s σ H E I hf st hg;subst hP hw hK;obtain⟨xs,hq,hx⟩:=hg;obtain⟨its,rv,p,hz⟩:=I.list hq;obtain⟨f0,f1,f2,f3,f4,f5⟩:=hf it (by simp);have hl:=rv.length;exact wpAny_pyNext_list_end (I.ok.hd hc) st p.isList (by simp;omega) λh' eb=>⟨rfl,I.turned (t':=s.toks) (λb o hb e=>eb b o hb e) f0 f1 f3 f4 f5⟩
 self:=λ_ _ _ _ _ st h=>wpAny_pyIter_listiter st h
theorem a7n'(a it:Addr):Turn P w K tg (Itt K a) [it] it (λi h=>h.IsTupleIter it a i) where
 mem:=by simp
 obj:=λi h st b hb=>by
  have e:b=it:=by simpa using hb
  subst e;obtain⟨o,e,c,d⟩:=st;exact⟨o,e,λv z=>by rw[d]at z;cases z⟩
 keep:=λi h h' st k=>st.at λo e=>k it (by simp) o e
 item:=by intro X hP hw hK hc i pq s σ H E I hf st hg;subst hP hw hK;obtain⟨xs,x,hq,hx⟩:=hg;obtain⟨its,rv,p,hz⟩:=I.tuple hq;obtain⟨u,hu,ru⟩:=rv.get hx;obtain⟨f0,f1,f2,f3,f4,f5⟩:=hf it (by simp);refine wpAny_pyNext_tuple_item st (show s.heap.IsTuple a its.toArray from p) (x:=u) (by simpa using hu) λh' st' sb=>?_;have I1:Inv X pq σ H {s with heap:=h'}:=I.turned (t':=s.toks) (λb o hb e=>(sb.2 b hb).trans e) f0 f1 f3 f4 f5;obtain⟨o,e,c,d⟩:=id st';exact⟨u,rfl,go_of (s:={s with heap:=h'}) e c d (by decide) ⟨x,H,I1,ru,⟨rfl,λys hy=>by rw[I.tuple_inj hy hq];exact hx⟩,st',λb hb=>(hf b hb).1⟩⟩
 done:=by intro X hP hw hK hc i pq s σ H E I hf st hg;subst hP hw hK;obtain⟨xs,hq,hx⟩:=hg;obtain⟨its,rv,p,hz⟩:=I.tuple hq;obtain⟨f0,f1,f2,f3,f4,f5⟩:=hf it (by simp);have hl:=rv.length;exact wpAny_pyNext_tuple_end (I.ok.hd hc) st (show s.heap.IsTuple a its.toArray from p) (by simp;omega) λh' eb=>⟨rfl,I.turned (t':=s.toks) (λb o hb e=>eb b o hb e) f0 f1 f3 f4 f5⟩
 self:=λ_ _ _ _ _ st h=>wpAny_pyIter_tupleiter st h
theorem a7o'(it:Addr)(lo:Int)(n:Nat):Turn P w K tg (Itr lo n) [it] it (λi h=>IsRangeIter h it (lo+(i:Nat)*1) ((n:Int)-(i:Nat)) 1) where
 mem:=by simp
 obj:=λi h st b hb=>by
  have e:b=it:=by simpa using hb
  subst e;exact⟨_,st,λv z=>by have z':Data.fields _=Data.cell v:=z;cases z'⟩
 keep:=λi h h' st k=>k it (by simp) _ st
 item:=by intro X hP hw hK hc i pq s σ H E I hf st hg;subst hP hw hK;obtain⟨f0,f1,f2,f3,f4,f5⟩:=hf it (by simp);have W:=Walks.range (prog:=X.prog) (w:=X.w) (I.ok.hd hc) it lo 1 n;refine W.item i s _ _ hg st λv h' tk hv st' kk=>?_;obtain⟨t,rfl⟩:=hv;have I1:Inv X pq σ H {s with heap:=h',toks:=tk}:=I.turned (λb o hb e=>kk b o (by simpa using hb) e) f0 f1 f3 f4 f5;refine⟨_,rfl,go_of (s:={s with heap:=h',toks:=tk}) (n:="range_iterator") st' rfl rfl (by decide) ⟨.int (lo+i),H,I1,⟨t,?_⟩,⟨rfl,rfl⟩,st',λb hb=>(hf b hb).1⟩⟩;rw[Int.mul_one]
 done:=by intro X hP hw hK hc i pq s σ H E I hf st hg;subst hP hw hK;obtain⟨f0,f1,f2,f3,f4,f5⟩:=hf it (by simp);exact wpAny_pyNext_range_end (I.ok.hd hc) st (by have:n≤i:=hg;omega) λh' eb=>⟨rfl,I.turned (t':=s.toks) (λb o hb e=>eb b o hb e) f0 f1 f3 f4 f5⟩
 self:=λ_ _ _ _ _ st h=>wpAny_pyIter_rangeiter st h
section
variable {X:Cx}
theorem a7p'{σ:St}{H:Hp}{R:It→Hp→Prop}{lo hi:Int}{t u v:Tok}{tk:Nat}(I:Inv X pq σ H s)(h1: -(2^62)≤lo)(h2:lo<2^62)(h3: -(2^62)≤hi)(h4:hi<2^62)
  (q:R (Itr lo (hi-lo).toNat) H):wpAny (model X.prog X.w) X.A (pyIter (.ref s.heap.objs.size)) (PIE X pq σ tg R) E {s with heap:=s.heap.push {cls:=.type "range",data:=.fields #[.int lo t,.int hi u,.int 1 v]},toks:=tk}:=by
 refine wpAny_pyIter_range (IsRange.new ..) (small_one h1 h2 h3 h4) ?_;have I1:Inv X pq σ H {s with heap:=s.heap.push {cls:=.type "range",data:=.fields #[.int lo t,.int hi u,.int 1 v]},toks:=tk}:=I.kept λb o e=>Zc _ e
 refine⟨(s.heap.push {cls:=.type "range",data:=.fields #[.int lo t,.int hi u,.int 1 v]}).objs.size,[(s.heap.push {cls:=.type "range",data:=.fields #[.int lo t,.int hi u,.int 1 v]}).objs.size],_,_,H,rfl,
  I1.kept (t':=tk) λb o e=>Zc _ e,a7o' _ lo (hi-lo).toNat,?_,λb hb=>?_,q⟩
 ·have e1:lo+((0:Nat):Int)*1=lo:=by simp
  have e2:(((hi-lo).toNat:Nat):Int)-((0:Nat):Int)=Builtin.Range.rangeSize lo hi 1:=by rw[rangeSize_one];split<;>omega
  show IsRangeIter _ _ (lo+((0:Nat):Int)*1) ((((hi-lo).toNat:Nat):Int)-((0:Nat):Int)) 1;rw[e1,e2];exact Zl _ rfl
 ·have e:b=(s.heap.push {cls:=.type "range",data:=.fields #[.int lo t,.int hi u,.int 1 v]}).objs.size:=by simpa using hb
  subst e;exact I1.fpOk (Zk _) (I1.hok.fresh (Zk _))
def iRng1(ta:TA):TI:=λσ H R=>ta σ H λvs H1=>∃j:Int,vs=[.int j]∧-(2^62)≤j∧j<2^62∧R (Itr 0 j.toNat) H1
def iRng2(ta:TA):TI:=λσ H R=>ta σ H λvs H1=>∃i j:Int,vs=[.int i,.int j]∧(-(2^62)≤i∧i<2^62∧-(2^62)≤j∧j<2^62)∧R (Itr i (j-i).toNat) H1
theorem a9e'{a:Expr}{ta:TA}{p pos:Pos}(hg:Gl X "range")(hm:X.mg "range"=none)(ha:PA X [a] ta)(hs:starEach [a] X.env=[(false,eval a X.env)]:=by rfl):PI X tg (.Call (.Name "range" p) [a] [] pos) (iRng1 ta):=by
 intro pq s σ H R I h;refine Call_ (a4D' I hg hm boot_range (PyProof.Rows.callWith_type1 (thn (ha pos pq s σ H _ I h) λus s1 ⟨vs,H1,I1,r1,q1⟩=>?_) hs rfl));obtain⟨j,e,q1,q2,q⟩:=q1;subst e;cases r1 with
 |cons r rr=>cases rr;obtain⟨t,rfl⟩:=r;exact call_range_1 (a7p' I1 (by omega) (by omega) q1 q2 (by simpa using q))
theorem a9f'{a b:Expr}{ta:TA}{p pos:Pos}(hg:Gl X "range")(hm:X.mg "range"=none)(ha:PA X [a,b] ta)(hs:starEach [a,b] X.env=[(false,eval a X.env),(false,eval b X.env)]:=by rfl)(hs2:starEach [b] X.env=[(false,eval b X.env)]:=by rfl):
  PI X tg (.Call (.Name "range" p) [a,b] [] pos) (iRng2 ta):=by
 intro pq s σ H R I h;refine Call_ (a4D' I hg hm boot_range (PyProof.Rows.callWith_type1 (thn (ha pos pq s σ H _ I h) λus s1 ⟨vs,H1,I1,r1,q1⟩=>?_) (by rw[hs,hs2]) (by rw[hs2];rfl)));obtain⟨i,j,e,⟨q1,q2,q3,q4⟩,q⟩:=q1;subst e;cases r1 with
 |cons r rr=>
  cases rr with
  |cons r' rr=>cases rr;obtain⟨t,rfl⟩:=r;obtain⟨t',rfl⟩:=r';exact call_range_2 (a7p' I1 q1 q2 q3 q4 q)
def tFor(wi:TI)(g:TG)(tb:TS):TS:=λD σ H=>wi σ H λJ H1=>∃W:Nat→Nat→St→Hp→Prop,(∃m,W 0 m σ H1)∧∀i m σ H,W i m σ H→
 (J.stop i H∧D.nx σ H)∨(J.go i H∧∃N:St→Hp→Prop,(∀σ' H',N σ' H'→∃m',m'<m∧W (i+1) m' σ' H')∧∀x H',J.yld i H x H'→g x σ H' λσ2 H2=>tb {D with nx:=N,ct:=N,bk:=D.nx} σ2 H2)
noncomputable def a9g'(fp:La)(h:Heap):Lp:=fp.filterMap λb=>(h.get? b).map λo=>(b,o)
theorem a1U'{b:Addr}(hb:b∈fp)(e:h.get? b=some o):(b,o)∈a9g' fp h:=List.mem_filterMap.mpr ⟨b,hb,by rw[e];rfl⟩
theorem a9h'{p:Addr×Obj}(hp:p∈a9g' fp h):p.1∈fp∧h.get? p.1=some p.2:=by
 obtain⟨b,hb,e⟩:=List.mem_filterMap.mp hp;cases q:h.get? b with
 |none=>rw[q]at e;cases e
 |some o=>rw[q]at e;have e':(b,o)=p:=Option.some.inj e;subst e';exact⟨hb,q⟩
theorem Inv.pinned{σ:St}{H:Hp}(I:Inv X pq σ H s)(hf:∀b∈fp,FpOk X pq H b)(ho:∀b∈fp,∃o,s.heap.get? b=some o∧∀v,o.data≠.cell v):Inv X (pq++a9g' fp s.heap) σ H s:=
 I.pins_of λp hp=>(ZX.mp hp).elim (λz=>I.pin p (Zx _ z)) λz=>by obtain⟨hb,e⟩:=a9h' z;obtain⟨f0,f1,f2,_⟩:=hf p.1 hb;obtain⟨o,e',d⟩:=ho p.1 hb;rw[e]at e';cases e';exact⟨e,f0,f1,f2,d⟩
theorem Inv.unpinned{pl:Lp}{σ:St}{H:Hp}(I:Inv X (pq++pl) σ H s):Inv X pq σ H s:=I.pins_of λp hp=>I.pin p (Zx _ (List.mem_append_left _ hp))
theorem ps_for{body:List Stmt}{wi:TI}{g:TG}{tb:TS}{pos:Pos}(hp:PassesOwn (model X.prog X.w) X.A X.env X.xe)(hc:X.calm=true)(hi:PI X tg iter wi)(hg:PG X tg g)(hb:PSs X body tb)
  (hs:∀x,foldedSetIterable iter X.env x=pure x:=by intro _;rfl):PS X (.For tg iter body [] pos) (tFor wi g tb):=by
 intro pq s σ H D I h;refine wpAny_For (thn (hi pq s σ H _ I h) λv s1 h1=>thn h1 λitv s2 h2=>?_) hs;obtain⟨it,fp,tn,J,H2,e,I2,T,st2,f2,W,⟨m0,w0⟩,turn⟩:=h2;subst e;have stat:∀{H':Hp},(∀b∈fp,H' b=none)→∀b∈fp,FpOk X pq H' b:=λhn b hb=>⟨hn b hb,(f2 b hb).2⟩;refine codeAny_forLoop_any (λn s'=>∃i σ' H',Inv X pq σ' H' s'∧tn i s'.heap∧(∀b∈fp,H' b=none)∧W i n σ' H') ?_ m0 ⟨0,σ,H2,I2,st2,λb hb=>(f2 b hb).1,w0⟩;rintro n s3 ⟨i,σ3,H3,I3,st3,fr3,w3⟩;rcases turn i n σ3 H3 w3 with⟨stop,qn⟩| ⟨go,N,hN,step⟩
 ·refine wpAny_passesOwn hp (thn (T.done X rfl rfl rfl hc i pq s3 σ3 H3 X.xe I3 (stat fr3) st3 stop) λr s4 ⟨hr,I4⟩=>?_);subst hr;exact wpAny_execs_nil ⟨σ3,H3,I4,qn⟩
 ·refine wpAny_passesOwn hp (thn (T.item X rfl rfl rfl hc i pq s3 σ3 H3 X.xe I3 (stat fr3) st3 go) λr s4 ⟨u,hr,h4⟩=>?_);subst hr;refine wpAny_passesOwn hp (thn h4 λ_ s5 ⟨x,H5,I5,r5,y5,st5,fr5⟩=>?_);have I5':=I5.pinned (stat fr5) (T.obj _ _ st5);refine wpAny_passesOwn hp (thn (hg _ s5 σ3 H5 x u _ I5' r5 (step x H5 y5)) λ_ s6 ⟨σ6,H6,I6,q6⟩=>?_);refine wpAny_passesOwn hp (thn (hb _ s6 σ6 H6 _ I6 q6) λf s7 q7=>?_)
  have again:∀{σ7:St} {H7:Hp},Inv X (pq++a9g' fp s5.heap) σ7 H7 s7→N σ7 H7→∃m,m<n∧∃i σ' H',Inv X pq σ' H' s7∧tn i s7.heap∧(∀b∈fp,H' b=none)∧W i m σ' H':=λ{σ7 H7} I7 n7=>by obtain⟨m',hm,w7⟩:=hN σ7 H7 n7;refine⟨m',hm,i+1,σ7,H7,I7.unpinned,T.keep _ _ _ st5 λb hb o e=>(I7.pin (b,o) (Zx _ (Zx _ (a1U' hb e)))).1,λb hb=>?_,w7⟩;obtain⟨o,e,d⟩:=T.obj _ _ st5 b hb;exact(I7.pin (b,o) (Zx _ (Zx _ (a1U' hb e)))).2.1
  cases f with
  |next=>obtain⟨σ7,H7,I7,n7⟩:=q7;exact again I7 n7
  |cont=>obtain⟨σ7,H7,I7,n7⟩:=q7;exact again I7 n7
  |brk=>obtain⟨σ7,H7,I7,q7⟩:=q7;exact⟨σ7,H7,I7.unpinned,q7⟩
  |ret v=>obtain⟨x7,σ7,H7,I7,r7,q7⟩:=q7;exact⟨x7,σ7,H7,I7.unpinned,r7,q7⟩
end
abbrev R2:=V→V→Hp→VK→Prop
def OpR(X:Cx)(f:Value→Value→Sem Value)(r:R2):Prop:=
 ∀(pq:Lp) (s:Shared) (σ:St) (H:Hp) (x y:V) (v u:Value) (Q:VK),Inv X pq σ H s→RelV x v→RelV y u→r x y H Q→
  wpAny (model X.prog X.w) X.A (f v u) (EP X pq σ Q) X.xe s
def UnR(X:Cx)(f:Value→Sem Value)(r:V→Hp→VK→Prop):Prop:=
 ∀(pq:Lp) (s:Shared) (σ:St) (H:Hp) (x:V) (v:Value) (Q:VK),Inv X pq σ H s→RelV x v→r x H Q→
  wpAny (model X.prog X.w) X.A (f v) (EP X pq σ Q) X.xe s
def CallR(X:Cx)(f:Value)(r:List V→Hp→VK→Prop):Prop:=
 ∀(pq:Lp) (s:Shared) (σ:St) (H:Hp) (xs:List V) (us:Lv) (Q:VK),Inv X pq σ H s→Vals xs us→r xs H Q→
  wpAny (model X.prog X.w) X.A (call f us) (EP X pq σ Q) X.xe s
def TruR(X:Cx)(r:V→Hp→(Bool→Hp→Prop)→Prop):Prop:=
 ∀(pq:Lp) (s:Shared) (σ:St) (H:Hp) (x:V) (v:Value) (Q:Bool→Hp→Prop),Inv X pq σ H s→RelV x v→r x H Q→
  wpAny (model X.prog X.w) X.A (truthy v) (TP X pq σ Q) X.xe s
def tOp(r:R2)(ta tb:TE):TE:=λσ H Q=>ta σ H λx H1=>tb σ H1 λy H2=>r x y H2 Q
def tUn(r:V→Hp→VK→Prop)(ta:TE):TE:=λσ H Q=>ta σ H λx H1=>r x H1 Q
def rI(C:Int→Int→Prop)(g:Int→Int→V):R2:=λx y H Q=>∃i j,x=.int i∧y=.int j∧C i j∧Q (g i j) H
def rI0(g:Int→Int→V):R2:=λx y H Q=>∃i j,x=.int i∧y=.int j∧Q (g i j) H
def rU(g:Int→V):V→Hp→VK→Prop:=λx H Q=>∃i,x=.int i∧Q (g i) H
section
variable {X:Cx}{a b c:Expr}{ta tb tc:TE}{pos:Pos}
theorem binT(ha:PE X a ta)(hb:PE X b tb){σ:St}{H:Hp}{R:V→V→Hp→Prop}(I:Inv X pq σ H s)
  (h:ta σ H λx H1=>tb σ H1 λy H2=>R x y H2)  {f:Value→Value→Sem Value}
  (hf:∀v u s2 x y H2,Inv X pq σ H2 s2→RelV x v→RelV y u→R x y H2→wpAny (model X.prog X.w) X.A (f v u) Q X.xe s2):
  wpAny (model X.prog X.w) X.A (eval a X.env) (λv s₁=>wpAny (model X.prog X.w) X.A (eval b X.env) (λu s₂=>wpAny (model X.prog X.w) X.A (f v u) Q X.xe s₂) X.xe s₁) X.xe s:=by
 refine thn (ha pq s σ H _ I h) λv s1 ⟨x,H1,I1,r1,q1⟩=>?_;refine thn (hb pq s1 σ H1 _ I1 q1) λu s2 ⟨y,H2,I2,r2,q2⟩=>?_;exact hf v u s2 x y H2 I2 r1 r2 q2
theorem pe_op{op:Operator}{r:R2}(ho:OpR X (binaryOp op) r)(ha:PE X a ta)(hb:PE X b tb):PE X (.BinOp a op b pos) (tOp r ta tb):=by intro pq s σ H Q I h;exact wpAny_BinOp (binT ha hb I h λv u s2 x y H2 I2 rx ry q=>ho pq s2 σ H2 x y v u Q I2 rx ry q)
theorem pe_un{op:UnaryOp}{r:V→Hp→VK→Prop}(ho:UnR X (unaryOp op) r)(ha:PE X a ta):PE X (.UnaryOp op a pos) (tUn r ta):=by intro pq s σ H Q I h;exact UnaryOp_ (thn (ha pq s σ H _ I h) λv s1 ⟨x,H1,I1,r1,q1⟩=>ho pq s1 σ H1 x v Q I1 r1 q1)
theorem opI{f:Value→Value→Sem Value}{C:Int→Int→Prop}
  (rule:∀(i j:Int) (t u:Tok) (s:Shared) (Q:Vs) (E:Vs),C i j→Q (.int (g i j) s.toks) {s with toks:=s.toks+1}→wpAny (model X.prog X.w) X.A (f (.int i t) (.int j u)) Q E s):
  OpR X f (rI C λi j=>.int (g i j)):=by
 intro pq s σ H x y v u Q I rx ry h;obtain⟨i,j,rfl,rfl,hc,q⟩:=h;obtain⟨t,rfl⟩:=rx;obtain⟨t',rfl⟩:=ry;exact rule i j t t' s _ _ hc ⟨.int (g i j),H,I.tok _,⟨_,rfl⟩,q⟩
theorem opI0{f:Value→Value→Sem Value}
  (rule:∀(i j:Int) (t u:Tok) (s:Shared) (Q:Vs) (E:Vs),Q (.int (g i j) s.toks) {s with toks:=s.toks+1}→wpAny (model X.prog X.w) X.A (f (.int i t) (.int j u)) Q E s):
  OpR X f (rI0 λi j=>.int (g i j)):=by
 intro pq s σ H x y v u Q I rx ry h;obtain⟨i,j,rfl,rfl,q⟩:=h;obtain⟨t,rfl⟩:=rx;obtain⟨t',rfl⟩:=ry;exact rule i j t t' s _ _ ⟨.int (g i j),H,I.tok _,⟨_,rfl⟩,q⟩
theorem opB0{f:Value→Value→Sem Value}{g:Int→Int→Bool}
  (rule:∀(i j:Int) (t u:Tok) (s:Shared) (Q:Vs) (E:Vs),Q (.bool (g i j)) s→wpAny (model X.prog X.w) X.A (f (.int i t) (.int j u)) Q E s):
  OpR X f (rI0 λi j=>.bl (g i j)):=by
 intro pq s σ H x y v u Q I rx ry h;obtain⟨i,j,rfl,rfl,q⟩:=h;obtain⟨t,rfl⟩:=rx;obtain⟨t',rfl⟩:=ry;exact rule i j t t' s _ _ ⟨.bl (g i j),H,I,rfl,q⟩
def CDiv(i j:Int):Prop:=0<j∧j<1073741824
noncomputable def CMul(i j:Int):Prop:=(-(2^64)<i∧i<2^64)∨(-(2^64)<j∧j<2^64)
theorem CMul.ok{i j:Int}(h:CMul i j):IntMulOk i j:=by
 rcases h with⟨h1,h2⟩| ⟨h1,h2⟩
 ·exact .of_left (intBits_le_64 h1 h2)
 ·exact .of_right (intBits_le_64 h1 h2)
theorem a7q'(k:Nat):(0:Int)≤2^k:=by rw[two_pow_cast];exact Int.natCast_nonneg _
theorem op_add:OpR X (binaryOp .Add) (rI0 λi j=>.int (i+j)):=opI0 λ_ _ _ _ _ _ _ q=>add_int q
theorem op_sub:OpR X (binaryOp .Sub) (rI0 λi j=>.int (i-j)):=opI0 λ_ _ _ _ _ _ _ q=>sub_int q
theorem op_mul:OpR X (binaryOp .Mult) (rI CMul λi j=>.int (i*j)):=opI λ_ _ _ _ _ _ _ hc q=>mul_int q hc.ok
theorem op_fdiv:OpR X (binaryOp .FloorDiv) (rI CDiv λi j=>.int (i/j)):=opI λi j _ _ _ _ _ hc q=>by have h1:(0:Int)<j:=hc.1;have h2:j<1073741824:=hc.2;exact floordiv_int (by omega) (by rw[Int.fdiv_eq_ediv_of_nonneg i (by omega)];exact q) (.inl (PyProof.noPylong_small (by omega)))
theorem op_mod:OpR X (binaryOp .Mod) (rI (λ_ j=>0<j) λi j=>.int (i%j)):=opI λi j _ _ _ _ _ hc q=>by have h1:(0:Int)<j:=hc;exact mod_int' (by omega) (by rw[Int.fmod_eq_emod_of_nonneg i (by omega)];exact q)
theorem op_shr:OpR X (binaryOp .RShift) (rI (λ_ j=>0≤j) λi j=>.int (i/2^j.toNat)):=opI λi j _ _ _ _ _ hc q=>
 rshift_int hc (by rw[Int.fdiv_eq_ediv_of_nonneg i (a7q' _)];exact q)
theorem op_and:OpR X (binaryOp .BitAnd) (rI0 λi j=>.int (Builtin.bitAnd i j)):=opI0 λ_ _ _ _ _ _ _ q=>and_int q
theorem op_or:OpR X (binaryOp .BitOr) (rI0 λi j=>.int (Builtin.bitOr i j)):=opI0 λ_ _ _ _ _ _ _ q=>or_int q
theorem unI{f:Value→Sem Value}{g:Int→Int}
  (rule:∀(i:Int) (t:Tok) (s:Shared) (Q:Vs) (E:Vs),Q (.int (g i) s.toks) {s with toks:=s.toks+1}→wpAny (model X.prog X.w) X.A (f (.int i t)) Q E s):
  UnR X f (rU λi=>.int (g i)):=by
 intro pq s σ H x v Q I rx h;obtain⟨i,rfl,q⟩:=h;obtain⟨t,rfl⟩:=rx;exact rule i t s _ _ ⟨.int (g i),H,I.tok _,⟨_,rfl⟩,q⟩
theorem un_neg:UnR X (unaryOp .USub) (rU λi=>.int (-i)):=unI λ_ _ _ _ _ q=>neg_int q
end
section
variable {X:Cx}{a b c:Expr}{ta tb tc:TE}{pos:Pos}
theorem fin_bl{σ:St}{H:Hp}{Q:VK}{k k':Bool}(I:Inv X pq σ H s)(q:Q (.bl k) H)(e:k=k'):EP X pq σ Q (.bool k') s:=by subst e;exact⟨.bl k,H,I,rfl,q⟩
theorem op_le:OpR X (compareOp .LtE) (rI0 λi j=>.bl (decide (i≤j))):=opB0 λ_ _ _ _ _ _ _ q=>le_int q
theorem op_gt:OpR X (compareOp .Gt) (rI0 λi j=>.bl (decide (j<i))):=opB0 λ_ _ _ _ _ _ _ q=>gt_int q
theorem op_ge:OpR X (compareOp .GtE) (rI0 λi j=>.bl (decide (j≤i))):=opB0 λ_ _ _ _ _ _ _ q=>ge_int q
theorem op_isN:OpR X (compareOp .Is) (λx y H Q=>y=.non∧Q (.bl (decide (x=.non))) H):=by
 intro pq s σ H x y v u Q I rx ry h;obtain⟨rfl,q⟩:=h;cases ry;refine is_none_gen (fin_bl I q ?_)
 cases x<;>first
  | (cases rx;rfl)
  | (obtain⟨t,rfl⟩:=rx;rfl)
theorem op_notN:OpR X (compareOp .IsNot) (λx y H Q=>y=.non∧Q (.bl (!decide (x=.non))) H):=by
 intro pq s σ H x y v u Q I rx ry h;obtain⟨rfl,q⟩:=h;cases ry;refine isnot_none_gen (fin_bl I q ?_)
 cases x<;>first
  | (cases rx;rfl)
  | (obtain⟨t,rfl⟩:=rx;rfl)
theorem pe_cmpR{op:CmpOp}{r:R2}(ho:OpR X (compareOp op) r)(ha:PE X a ta)(hb:PE X b tb)(hm:behindInMarks op b=false):PE X (.Compare a [op] [b] pos) (tOp r ta tb):=by intro pq s σ H Q I h;exact wpAny_Compare1 (binT ha hb I h λv u s2 x y H2 I2 rx ry q=>ho pq s2 σ H2 x y v u Q I2 rx ry q) hm
def tTest(t:TE):TT:=λσ H Q=>t σ H λx H'=>∃k,x=.bl k∧Q k H'
theorem pt_cmpR{op:CmpOp}{r:R2}(ho:OpR X (compareOp op) r)(ha:PE X a ta)(hb:PE X b tb)(hm:behindInMarks op b=false):PT X (.Compare a [op] [b] pos) (tTest (tOp r ta tb)):=by
 intro pq s σ H Q I h
 refine wpAny_isTrue_Compare1 (thn (ha pq s σ H _ I h) λv s1 ⟨x,H1,I1,r1,q1⟩=>thn (hb pq s1 σ H1 _ I1 q1) λu s2 ⟨y,H2,I2,r2,q2⟩=>
  thn (ho pq s2 σ H2 x y v u _ I2 r1 r2 q2) λc s3 ⟨z,H3,I3,r3,k,e,q3⟩=>?_) hm
 subst e;cases r3;exact wpAny_truthy_bool ⟨H3,I3,q3⟩
def tChain(r r':R2)(ta tb tc:TE):TE:=λσ H Q=>ta σ H λx H1=>tb σ H1 λy H2=>r x y H2 λz H3=>∃k,z=.bl k∧
 (if k=true then tc σ H3 λw' H4=>r' y w' H4 Q else Q (.bl false) H3)
theorem b0X'{op:CmpOp}{r r':R2}(ho:OpR X (compareOp op) r)(ho':OpR X (compareOp op') r')(ha:PE X a ta)(hb:PE X b tb)(hc:PE X c tc)
  (hm:lastMarks [op,op'] [b,c]=false:=by with_unfolding_all rfl):PE X (.Compare a [op,op'] [b,c] pos) (tChain r r' ta tb tc):=by
 intro pq s σ H Q I h
 refine Compare_chain (thn (ha pq s σ H _ I h) λv s1 ⟨x,H1,I1,r1,q1⟩=>chain_link (thn (hb pq s1 σ H1 _ I1 q1) λu s2 ⟨y,H2,I2,r2,q2⟩=>
  thn (ho pq s2 σ H2 x y v u _ I2 r1 r2 q2) λd s3 ⟨z,H3,I3,r3,k,e,q3⟩=>?_)) hm
 subst e;cases r3;refine wpAny_truthy_bool ?_;cases k with
 |false=>exact ite_ff ⟨.bl false,H3,I3,rfl,q3⟩
 |true=>exact ite_tt (chain_last (thn (hc pq s3 σ H3 _ I3 q3) λw' s4 ⟨z',H4,I4,r4,q4⟩=>ho' pq s4 σ H4 y z' u w' Q I4 r2 r4 q4))
theorem b0Y'{op:CmpOp}{r r':R2}(ho:OpR X (compareOp op) r)(ho':OpR X (compareOp op') r')(ha:PE X a ta)(hb:PE X b tb)(hc:PE X c tc)
  (hm:lastMarks [op,op'] [b,c]=false:=by with_unfolding_all rfl):PT X (.Compare a [op,op'] [b,c] pos) (tTest (tChain r r' ta tb tc)):=by
 intro pq s σ H Q I h
 refine isTrue_chain (thn (ha pq s σ H _ I h) λv s1 ⟨x,H1,I1,r1,q1⟩=>test_link (thn (hb pq s1 σ H1 _ I1 q1) λu s2 ⟨y,H2,I2,r2,q2⟩=>
  thn (ho pq s2 σ H2 x y v u _ I2 r1 r2 q2) λd s3 ⟨z,H3,I3,r3,k,e,q3⟩=>?_)) hm
 subst e;cases r3;refine wpAny_truthy_bool ?_;cases k with
 |false=>obtain⟨k',e',q'⟩:=q3;cases e';exact ite_ff ⟨H3,I3,q'⟩
 |true=>refine ite_tt (test_last (thn (hc pq s3 σ H3 _ I3 q3) λw' s4 ⟨z',H4,I4,r4,q4⟩=>thn (ho' pq s4 σ H4 y z' u w' _ I4 r2 r4 q4) λd' s5 ⟨z2,H5,I5,r5,k2,e2,q5⟩=>?_));subst e2;cases r5;exact wpAny_truthy_bool ⟨H5,I5,q5⟩
def TruV(K:Fg)(x:V)(H:Hp)(k:Bool):Prop:=
 match x with
 | .non=>k=false
 | .bl b=>k=b
 | .int i=>k=(i !=0)
 | .str y=>y.length≤sizeLine∧k=((y.length:Int) !=0)
 | .byt y=>y.size≤sizeLine∧k=((y.size:Int) !=0)
 | .ref p=>(∃xs,SqL K H p xs∧k= !xs.isEmpty)∨(∃xs,SqT K H p xs∧k= !xs.isEmpty)∨∃kvs,H p=some (.dK kvs)∧k= !kvs.isEmpty
 |_=>False
theorem a7r'{κ:Type}{kvs:List (κ×V)}{vs:List (κ×Value)}(r:KV kvs vs):(!vs.isEmpty)= !kvs.isEmpty:=by cases r<;>rfl
theorem a4E'{xs:List V}(r:Vals xs its):(!its.toArray.isEmpty)= !xs.isEmpty:=by cases r<;>simp
theorem a7s':(sizeLine:Nat)<2^63:=by rw[sizeLine_eq];decide
theorem tru_ok:TruR X (λx H Q=>∃k,TruV X.K x H k∧Q k H):=by
 intro pq s σ H x v Q I rx h;obtain⟨k,e,q⟩:=h;have hl:=a7s';have hs:sizeLine=16777216:=sizeLine_eq;cases x with
 |non=>cases rx;have e':k=false:=e;subst e';exact truthy_none ⟨H,I,q⟩
 |bl b=>cases rx;have e':k=b:=e;subst e';exact wpAny_truthy_bool ⟨H,I,q⟩
 |int i=>obtain⟨t,rfl⟩:=rx;have e':k=(i !=0):=e;subst e';exact PySem.P.truthy_int ⟨H,I,q⟩
 |str y=>obtain⟨t,rfl⟩:=rx;obtain⟨hy,e'⟩:y.length≤sizeLine∧k=((y.length:Int) !=0):=e;subst e';exact PySem.P.truthy_str (by omega) ⟨H,I.tok _,q⟩
 |byt y=>obtain⟨t,rfl⟩:=rx;obtain⟨hy,e'⟩:y.size≤sizeLine∧k=((y.size:Int) !=0):=e;subst e';exact PySem.W.truthy_bytes (by omega) ⟨H,I.tok _,q⟩
 |ref p=>
  cases rx;have e':(∃xs,SqL X.K H p xs∧k= !xs.isEmpty)∨(∃xs,SqT X.K H p xs∧k= !xs.isEmpty)∨∃kvs,H p=some (.dK kvs)∧k= !kvs.isEmpty:=e;rcases e' with⟨xs,hx,e'⟩| ⟨xs,hx,e'⟩| ⟨kvs,hx,e'⟩
  ·subst e';obtain⟨its,r,pl,hz⟩:=I.list hx;have hlen:=r.length;exact wpAny_truthy_list pl.isList (by simp only[Zi];omega) ⟨H,I.tok _,by rw[a4E' r];exact q⟩
  ·subst e';obtain⟨its,r,pl,hz⟩:=I.tuple hx;have hlen:=r.length;exact truthy_tuple pl (by simp only[Zi];omega) ⟨H,I.tok _,by rw[a4E' r];exact q⟩
  ·subst e';obtain⟨hz,hS,vs,r,m⟩:kvs.length≤sizeLine∧(p==sysModules)=false∧∃vs,KV kvs vs∧s.heap.DictOf (a7i' X.prog X.w) p vs:=I.hok p _ hx;have hlen:kvs.length=vs.length:=Paired.length r;exact wpAny_truthy_dict hS m (by omega) ⟨H,I.tok _,by rw[a7r' r];exact q⟩
 |_=>exact(show False from e).elim
theorem b0Z'(ha:PE X a ta)(he:∀whole,isTrue a X.env whole=(do let v ←whole;standAt a.pos;holding [v] (truthy v))):
  PT X a (λσ H Q=>ta σ H λx H'=>∃k,TruV X.K x H' k∧Q k H'):=by
 intro pq s σ H Q I h;exact isTrue_plain (thn (ha pq s σ H _ I h) λv s1 ⟨x,H1,I1,r1,q1⟩=>tru_ok pq s1 σ H1 x v Q I1 r1 q1) (he _)
theorem a7t':OpR X (binaryOp .Add) (λx y H Q=>∃i j,x=.str i∧y=.str j∧i.length+j.length≤sizeLine∧Q (.str (i++j)) H):=by intro pq s σ H x y v u Q I rx ry h;obtain⟨i,j,rfl,rfl,hz,q⟩:=h;obtain⟨t,rfl⟩:=rx;obtain⟨t',rfl⟩:=ry;exact add_str (λt' tk=>⟨.str (i++j),H,I.tok _,⟨_,rfl⟩,q⟩) hz
theorem vals1{x:V}(r:Vals [x] us):∃u,us=[u]∧RelV x u:=by
 cases r with
 |cons r1 r2=>cases r2;exact⟨_,rfl,r1⟩
theorem vals2{x y:V}(r:Vals [x,y] us):∃u w',us=[u,w']∧RelV x u∧RelV y w':=by
 cases r with
 |cons r1 r2=>
  cases r2 with
  |cons r3 r4=>cases r4;exact⟨_,_,rfl,r1,r3⟩
theorem a9i'(hc:X.calm=true):CallR X (.builtin "max") (λxs H Q=>∃i j,xs=[.int i,.int j]∧Q (.int (if j>i then j else i)) H):=by
 intro pq s σ H xs us Q I r h;obtain⟨i,j,rfl,q⟩:=h;obtain⟨u,w',rfl,⟨t,rfl⟩,⟨t',rfl⟩⟩:=vals2 r;refine max_two_ints (I.ok.hd hc) λh' tk k=>⟨_,H,I.kept k,?_,q⟩;by_cases hj:j>i
 ·rw[if_pos hj,if_pos hj];exact⟨_,rfl⟩
 ·rw[if_neg hj,if_neg hj];exact⟨_,rfl⟩
theorem a9j'(hc:X.calm=true):CallR X (.builtin "min") (λxs H Q=>∃i j,xs=[.int i,.int j]∧Q (.int (if j<i then j else i)) H):=by
 intro pq s σ H xs us Q I r h;obtain⟨i,j,rfl,q⟩:=h;obtain⟨u,w',rfl,⟨t,rfl⟩,⟨t',rfl⟩⟩:=vals2 r;refine min_two_ints (I.ok.hd hc) λh' tk k=>⟨_,H,I.kept k,?_,q⟩;by_cases hj:j<i
 ·rw[if_pos hj,if_pos hj];exact⟨_,rfl⟩
 ·rw[if_neg hj,if_neg hj];exact⟨_,rfl⟩
theorem a5X':CallR X (.type "int") (λxs H Q=>(∃i,xs=[.int i]∧Q (.int i) H)∨∃k,xs=[.bl k]∧Q (.int (if k then 1 else 0)) H):=by
 intro pq s σ H xs us Q I r h;rcases h with⟨i,rfl,q⟩| ⟨k,rfl,q⟩
 ·obtain⟨u,rfl,t,rfl⟩:=vals1 r;exact call_int_int ⟨.int i,H,I,⟨_,rfl⟩,q⟩
 ·obtain⟨u,rfl,r1⟩:=vals1 r;cases r1;exact call_int_bool ⟨.int (if k then 1 else 0),H,I.tok _,⟨_,rfl⟩,q⟩
end
section
variable {x:Addr}{mA:Mg}{v:Value}
end
section
variable {H H':Hp}{fs fs':List (Str×V)}
end
section
variable {X:Cx}{σ:St}{H:Hp}{fs:List (Str×V)}{f:Str}{v:V}
end
section
variable {X:Cx}{o value:Expr}{f:Str}{pos tpos:Pos}{ta tv:TE}
end
section
variable {X:Cx}{σ:St}{H:Hp}{c:Value}{b:Bool}
end
structure Room (k:Nat)(A:Around):Prop where
 hd:A.handled=none
 dp:A.depth+3*k+5<recursionLimit
 un:A.units+16*k+200<cLine
 gd:A.guards=some []
theorem Room.mono{j:Nat}(r:Room k A)(h:j≤k):Room j A:=⟨r.hd,by have:=r.dp;omega,by have:=r.un;omega,r.gd⟩
theorem Room.deeper(r:Room (k+1) A)(env:Env):Room k (A.deeper env):=
 ⟨r.hd,by have:=r.dp;show A.depth+1+3*k+5<_;omega,by have:=r.un;show A.units+3+16*k+200<_;omega,r.gd⟩
theorem Room.depth(r:Room k A):A.depth<recursionLimit:=by have:=r.dp;omega
theorem Room.units(r:Room k A):A.units+64<cLine:=by have:=r.un;omega
def tNil:TA:=λ_ H Q=>Q [] H
def tCons(ta:TE)(tr:TA):TA:=λσ H Q=>ta σ H λx H1=>tr σ H1 λxs H2=>Q (x::xs) H2
section
variable {X:Cx}{te:TE}{t:TA}{pos:Pos}
theorem b1a':PA X [] tNil:=λ_ _ _ _ H Q I h=>Calls.spliced_nil ⟨[],H,I,.nil,h⟩
theorem a7u'(ha:PE X e te)(hr:PA X es t)(hs:starEach (e::es) X.env=(false,eval e X.env)::starEach es X.env:=by rfl):PA X (e::es) (tCons te t):=by intro pos pq s σ H Q I h;rw[hs];show wpAny _ _ (spliced ((false,eval e X.env)::backTo pos (starEach es X.env))) _ _ s;refine Calls.spliced_cons (thn (ha pq s σ H _ I h) λu s1 ⟨x,H1,I1,r1,q1⟩=>?_);exact thn (hr pos pq s1 σ H1 _ I1 q1) λus s2 ⟨xs,H2,I2,r2,q2⟩=>⟨x::xs,H2,I2,.cons r1 r2,q2⟩
def tTup(t:TA):TE:=λσ H Q=>t σ H λxs H1=>xs.length≤sizeLine∧∀p,H1 p=none→Q (.ref p) (upd H1 p (.tup xs))
def tLst(t:TA):TE:=λσ H Q=>t σ H λxs H1=>xs.length≤sizeLine∧∀p,H1 p=none→Q (.ref p) (upd H1 p (.lst xs))
theorem pe_tup{x1}(h:PA X es t):PE X (.Tuple es x1 pos) (tTup t):=by intro pq s σ H Q I hq;refine wpAny_Tuple_spliced (thn (h pos pq s σ H _ I hq) λus s1 ⟨xs,H1,I1,r,z,q⟩=>⟨by rw[←r.length];exact z,?_⟩);have hf:H1 s1.heap.objs.size=none:=I1.hok.fresh (Zk _);refine⟨.ref s1.heap.objs.size,upd H1 s1.heap.objs.size (.tup xs),I1.laid (t':=s1.toks) (λb u e=>Zc _ e) (Zk _) ?_,rfl,q _ hf⟩;exact⟨z,us,r,⟨_,Zl _ rfl,rfl,_,rfl⟩,_,Zl _ rfl,rfl⟩
theorem pe_lst(h:PA X es t):PE X (.List es pos) (tLst t):=by intro pq s σ H Q I hq;refine wpAny_List_spliced (thn (h pos pq s σ H _ I hq) λus s1 ⟨xs,H1,I1,r,z,q⟩=>⟨by rw[←r.length];exact z,?_⟩);have hf:H1 s1.heap.objs.size=none:=I1.hok.fresh (Zk _);refine⟨.ref s1.heap.objs.size,upd H1 s1.heap.objs.size (.lst xs),I1.laid (t':=s1.toks) (λb u e=>Zc _ e) (Zk _) ?_,rfl,q _ hf⟩;exact⟨z,us,0,r,Zl _ rfl⟩
end
abbrev Sp:=List V→Hp→VK→XK→Prop
abbrev CXT:=List Env→Hp→Shared→XK→Vs
structure Env0 (P:Program)(w:World)(K:Fg)(mg:Mg)(base:Heap)(A:Around)(outer:List Env)(s:Shared)(H:Hp):Prop where
 frames:A.frames=some outer
 mod:Mod K mg base
 bs:∀b o,base.get? b=some o→s.heap.get? b=some o∧H b=none
 bsz:base.objs.size≤s.heap.objs.size
 funs:s.heap.FunFrames base outer
 frf:∀b∈frs outer,H b=none
 hok:HOk P w H s.heap
 bare:AllBare s.gens
def CE(outer:List Env)(P:Program)(w:World)(H:Hp)(s:Shared)(Q:VK)(u:Value)(s':Shared):Prop:=
 ∃v H',s'.os=s.os∧AllBare s'.gens∧Un (frs outer) [] H H' s.heap s'.heap∧HOk P w H' s'.heap∧RelV v u∧Q v H'
def CR(CX:CXT)(outer:List Env)(P:Program)(w:World)(H:Hp)(s:Shared)(Q:VK)(E:XK)(r:Result)(s':Shared):Prop:=
 match r with
 | .ok (.ret u)=>CE outer P w H s Q u s'
 | .ok _=>False
 | .error e=>CX outer H s E e s'
structure FnOk (P:Program)(w:World)(K:Fg)(mg:Mg)(base:Heap)(CX:CXT)(k:Nat)(f:Addr)(fd:FuncData)(ps:Ls)(sp:Sp):Prop where
 len:∀vs H Q E,sp vs H Q E→vs.length=ps.length
 run:∀(A:Around) (outer:List Env) (s:Shared) (H:Hp) (args:Args) (us:Lv) (vs:List V) (Q:VK) (E:XK),Room k A→Env0 P w K mg base A outer s H→BindsTo s fd args (ps.zip us)→Vals vs us→sp vs H Q E→
  codeAny (model P w) A (.call (.ref f) args) (CR CX outer P w H s Q E) s
theorem FnOk.mono{CX:CXT}{j:Nat}{fd:FuncData}{sp:Sp}(F:FnOk P w K mg base CX j f fd ps sp)(h:j≤k):
  FnOk P w K mg base CX k f fd ps sp:=⟨F.len,λA outer s H args us vs Q E hr=>F.run A outer s H args us vs Q E (hr.mono h)⟩
theorem FnOk.imp{CX:CXT}{fd:FuncData}{sp sp':Sp}(F:FnOk P w K mg base CX k f fd ps sp)
  (h:∀vs H Q E,sp' vs H Q E→sp vs H Q E):FnOk P w K mg base CX k f fd ps sp':=
 ⟨λvs H Q E q=>F.len vs H Q E (h _ _ _ _ q),λA outer s H args us vs Q E hr he hb hv hs=>F.run A outer s H args us vs Q E hr he hb hv (h _ _ _ _ hs)⟩
section
variable {X:Cx}{σ:St}{H:Hp}
theorem Inv.env0(I:Inv X pq σ H s):Env0 X.prog X.w X.K X.mg X.base X.A X.stack s H:=
 ⟨I.ok.frames,I.ok.mod,I.bs,ZS I.ok.bsz I.sz,I.stack,I.stkFree,I.hok,I.bare⟩
theorem Inv.after{Q:VK}(I:Inv X pq σ H s)(h:CE X.stack X.prog X.w H s Q u s'):EP X pq σ Q u s':=by obtain⟨v,H',os,bare,un,hok,r,q⟩:=h;obtain⟨hh,g,d,t,os'⟩:=s';obtain rfl:os'=s.os:=os;exact⟨v,H',I.call (h':=hh) (g':=g) (d':=d) (t':=t) (ch:=[]) un hok bare (λb z=>absurd z (by simp)),r,q⟩
end
def tCall(sp:Sp)(dvs:List V)(E:XK)(t:TA):TE:=λσ H Q=>t σ H λvs H1=>sp (vs++dvs) H1 Q E
def Binds(K:Fg)(fd:FuncData)(ps:Ls)(ds:Lv):Prop:=
 ∀(s:Shared) (us:Lv),K.In s.heap→(us++ds).length=ps.length→BindsTo s fd ⟨us,[]⟩ (ps.zip (us++ds))
theorem Binds.all{fd:FuncData}(h:∀us:Lv,us.length=ps.length→bindArgs fd ⟨us,[]⟩=pure (ps.zip us)):Binds K fd ps []:=λs us _ hl=>by rw[List.append_nil]at hl⊢;exact .of_eq (h us hl)
def a9k'(CX:CXT)(X:Cx)(E:XK):Prop:=∀(pq:Lp) (σ:St) (H:Hp) (s:Shared) (e:Value) (s':Shared),Inv X pq σ H s→CX X.stack H s E e s'→X.xe e s'
section
variable {X:Cx}{CX:CXT}{fd:FuncData}{sp:Sp}{dvs:List V}{ds:Lv}{E:XK}{x m:Str}{p pos:Pos}{o:Expr}{ta:TE}{t:TA}
theorem run_fn{σ:St}{H:Hp}{Q:VK}{vs:List V}(F:FnOk X.prog X.w X.K X.mg X.base CX k f fd ps sp)(hr:Room k X.A)(hb:Binds X.K fd ps ds)(hd:Vals dvs ds)(hx:a9k' CX X E)
  (I:Inv X pq σ H s) (r:Vals vs us) (h:sp (vs++dvs) H Q E):wpAny (model X.prog X.w) X.A (call (.ref f) us) (EP X pq σ Q) X.xe s:=by
 have r2:Vals (vs++dvs) (us++ds):=r.append hd;have hl:(us++ds).length=ps.length:=by rw[←r2.length];exact F.len _ _ _ _ h
 refine wpAny_call (codeAny_mono (F.run X.A X.stack s H ⟨us,[]⟩ (us++ds) (vs++dvs) Q E hr I.env0 (hb s us I.kIn hl) r2 h) λr s' hq=>?_);cases r with
 |error e=>exact hx pq σ H s e s' I hq
 |ok fl=>
  cases fl with
  |ret u=>exact I.after hq
  |next=>exact False.elim hq
  |brk=>exact False.elim hq
  |cont=>exact False.elim hq
theorem pe_call(F:FnOk X.prog X.w X.K X.mg X.base CX k f fd ps sp)(hr:Room k X.A)(hg:Gl X x)(hm:X.mg x=some (.ref f))(hk:PySem.W.keepIn X.K (.ref f)=true)(hb:Binds X.K fd ps ds)(hd:Vals dvs ds)(hx:a9k' CX X E)
  (ha:PA X (e::es) t) (hdb:(x==("__debug__":Str))=false:=by decide) (he:starEach (e::es) X.env=(false,eval e X.env)::starEach es X.env:=by rfl) (hpl:(backTo pos (starEach es X.env)).any (·.1)=false:=by rfl):
  PE X (.Call (.Name x p) (e::es) [] pos) (tCall sp dvs E t):=by
 intro pq s σ H Q I h;refine wpAny_Call_Name_kw (a7l' I hg hm ?_ hdb);refine PySem.W.callWith_K (h₀:=X.base) I.ok.mod.kin hk (thn (ha pos pq s σ H _ I h) λus s1 ⟨vs,H1,I1,r,q⟩=>⟨I1.kIn,?_⟩) he hpl;exact run_fn F hr hb hd hx I1 r q
end
section
variable {X:Cx}{CX:CXT}{fd:FuncData}{ks:Ls}{sp:Sp}{E:XK}{x m:Str}{p pos kpos:Pos}{o:Expr}{kws:List Keyword}{te ta:TE}{t tk:TA}{nm:Option Str}
variable {g:Lv→Lv→Lv}{gV:List V→List V→List V}
end
structure FnScope (N P:Ls)(sc:Scope):Prop where
 kind:sc.kind=.function
 co:sc.isCoroutine=false
 gen:sc.isGenerator=false
 nd:N.Nodup
 pre:N.take P.length=P
 par:∀x∈P,sc.names.lookup x=some .local∨sc.names.lookup x=some .cell
 nofree:∀y∈sc.names,y.2≠.free
theorem a5Y'{kindOf:Str→Option NameKind}{x:Str}:∀{binds:List (Str×Value)} {m:Mg},(∀v,(x,v)∉binds)→bindL kindOf binds m x=m x
 | [],_,_=>rfl
 | (n,v)::r,m,h=>by
  unfold bindL;rw[a5Y' λw hw=>h w (Zb _ hw)];split
  ·have:x≠n:=by rintro rfl;exact h v Zd
   simp[this]
  ·rfl
theorem a5Z'{kindOf:Str→Option NameKind}{x:Str}:∀{binds:List (Str×Value)} {m:Mg},(∀v,(x,v)∉binds)→bindC kindOf binds m x=m x
 | [],_,_=>rfl
 | (n,v)::r,m,h=>by
  unfold bindC;rw[a5Z' λw hw=>h w (Zb _ hw)];split
  ·rfl
  ·have:x≠n:=by rintro rfl;exact h v Zd
   simp[this]
theorem a6a'{kindOf:Str→Option NameKind}{x:Str}{v:Value}:∀{P:Ls} {vs:Lv} {i:Nat} {m:Mg},P.Nodup→P[i]?=some x→vs[i]?=some v→kindOf x=some .local→
  bindL kindOf (P.zip vs) m x=some v
 | [],_,_,_,_,h,_,_=>by simp at h
 |_::_,[],_,_,_,_,h,_=>by simp at h
 |p::P,w::vs,0,m,nd,h1,h2,hk=>by simp at h1 h2;subst h1;subst h2;show bindL kindOf ((p,w)::P.zip vs) m p=_;unfold bindL;rw[a5Y' λv hv=>(List.nodup_cons.mp nd).1 (List.of_mem_zip hv).1,if_pos hk];simp
 |p::P,w::vs,i+1,m,nd,h1,h2,hk=>by show bindL kindOf ((p,w)::P.zip vs) m x=_;unfold bindL;exact a6a' (i:=i) (List.nodup_cons.mp nd).2 (by simpa using h1) (by simpa using h2) hk
theorem a6b'{kindOf:Str→Option NameKind}{x:Str}{v:Value}:∀{P:Ls} {vs:Lv} {i:Nat} {m:Mg},P.Nodup→P[i]?=some x→vs[i]?=some v→kindOf x≠some .local→
  bindC kindOf (P.zip vs) m x=some v
 | [],_,_,_,_,h,_,_=>by simp at h
 |_::_,[],_,_,_,_,h,_=>by simp at h
 |p::P,w::vs,0,m,nd,h1,h2,hk=>by simp at h1 h2;subst h1;subst h2;show bindC kindOf ((p,w)::P.zip vs) m p=_;unfold bindC;rw[a5Z' λv hv=>(List.nodup_cons.mp nd).1 (List.of_mem_zip hv).1,if_neg hk];simp
 |p::P,w::vs,i+1,m,nd,h1,h2,hk=>by show bindC kindOf ((p,w)::P.zip vs) m x=_;unfold bindC;exact a6b' (i:=i) (List.nodup_cons.mp nd).2 (by simpa using h1) (by simpa using h2) hk
noncomputable def start(N:Ls)(vs:List V):St:=vs.map some++List.replicate (N.length-vs.length) none
noncomputable def cxOf(CX:CXT)(P:Program)(w:World)(K:Fg)(mg:Mg)(base:Heap)(N:Ls)(qual:Str)(scope:Scope)(f:Addr)(cd:Value)(A:Around)(outer:List Env)(s:Shared)(H:Hp)(E:XK):Cx where
 prog:=P
 w:=w
 K:=K
 mg:=mg
 base:=base
 A:=A.deeper (envOfC qual scope s.heap.objs.size f cd)
 N:=N
 s₀:=s
 H₀:=H
 env:=envOfC qual scope s.heap.objs.size f cd
 outer:=outer
 stack:=envOfC qual scope s.heap.objs.size f cd::outer
 ex:=[]
 calm:=true
 fn:=λ_=>true
 pn:=[]
 xe:=λe s'=>wpAny (model P w) (A.deeper (envOfC qual scope s.heap.objs.size f cd)) (leaving (envOfC qual scope s.heap.objs.size f cd) e) (λ_ s''=>CX outer H s E e s'') (λe' s''=>CX outer H s E e' s'') s'
theorem a7v'{sc:Scope}{x:Str}(h:sc.names.lookup x=some .cell):∃c,(cellsFrom n sc.names []).lookup x=some c:=by have q:=PySem.W.cellsFrom_some sc.names n [] (.inl h);exact Option.isSome_iff_exists.mp q
theorem a9l'{CX:CXT}{s1:Shared}{H:Hp}{E:XK}{vs:List V}
  (S:FnScope N ps scope) (hd:A.handled=none) (e0:Env0 P w K mg base A outer s H) (hl:vs.length=ps.length) (r:Vals vs us)
  (x:InCallC s s.heap.objs.size (bindL (envOfC qual scope s.heap.objs.size f cd).kindOf (ps.zip us) λ_=>none) (cellsFrom (s.heap.objs.size+1) scope.names []) (bindC (envOfC qual scope s.heap.objs.size f cd).kindOf (ps.zip us) λ_=>none) s1):
  Inv (cxOf CX P w K mg base N qual scope f cd A outer s H E) [] (start N vs) H s1:=by
 have hpl:ps.length≤N.length:=by have:=congrArg List.length S.pre;rw[List.length_take]at this;omega
 obtain⟨h1,tk,rfl,hk⟩:=x.done;have noA:∀b:Addr,b∉(cxOf CX P w K mg base N qual scope f cd A outer s H E).ex:=λb z=>absurd (show b∈([]:La)from z) (by simp)
 refine⟨⟨e0.mod,S.kind,rfl,rfl,Zk _,λy z c h1 h2=>?_,λy hy=>?_,λy c _ h=>?_,λ_=>hd,Around.frames_deeper e0.frames,.inr ⟨rfl,rfl⟩,λb z=>absurd z (noA b),e0.bs,e0.bsz,λb _ _=>noA b,λb z=>absurd z (noA b),e0.funs,e0.frf⟩,
  rfl,e0.bare,Un.kept hk,⟨_,x.toInCall.ns,λi y v h1 h2 h3=>?_⟩,λy c h=>⟨_,x.cell y c h⟩,e0.hok.fresh (Zk _),λy c h=>?_,λp hp=>absurd (show p∈([]:Lp)from hp) (by simp),e0.hok.kept hk,?_⟩
 ·exact name_of_addr x.apart (ZA h1) (ZA h2)
 ·have hy:scope.names.lookup y=some .cell∨scope.names.lookup y=some .free:=hy;rcases hy with hy|hy
  ·exact a7v' hy
  ·exact absurd rfl (S.nofree _ (ZA hy))
 ·exact Nat.le_of_lt (x.above y c (ZA h))
 ·have hi:i<vs.length:=by
   unfold start at h2;by_cases hi:i<vs.length
   ·exact hi
   ·rw[Zs (by simpa using hi)]at h2;rw[List.getElem?_replicate]at h2;split at h2<;>cases h2
  have ha:vs[i]?=some v:=by
   unfold start at h2;rw[Zp (by simpa using hi),ZB]at h2;cases e:vs[i]? with
   |none=>rw[e]at h2;cases h2
   |some a=>rw[e]at h2;cases h2;rfl
  obtain⟨u,hu,rv⟩:=r.get ha;have hp:ps[i]?=some y:=by rw[←S.pre,List.getElem?_take_of_lt (by omega)];exact h1
  have ndP:ps.Nodup:=by rw[←S.pre];exact S.nd.sublist (List.take_sublist _ _)
  refine⟨u,rv,?_⟩;rcases S.par y (Zv hp)with k|k
  ·exact .inl ⟨k,a6a' ndP hp hu k⟩
  ·obtain⟨c,e⟩:=a7v' (n:=s.heap.objs.size+1) k;refine .inr ⟨.inl k,c,e,?_⟩;have q:=x.cell y c e;rw[a6b' ndP hp hu (by show scope.names.lookup y≠_;rw[k];decide)]at q;exact q
 ·exact e0.hok.fresh (Nat.le_of_lt (x.above y c (ZA h)))
 ·unfold start;show _=N.length;rw[ZG,Zj,List.length_replicate];omega
theorem fn_of{CX:CXT}{params:Arguments}{body:List Stmt}{dV kV:Value}{an:Option Addr}
    {sp:Sp} (lk:K.lookup f=some ⟨oc,od,.func (PySem.W.fnOf name qual params body scope dV kV doc pm an cdv ct),osl⟩) (hcd:PySem.W.codeIn K cdv qual=true) (S:FnScope N ps scope)
  (len:∀vs H Q E,sp vs H Q E→vs.length=ps.length)
  (hbody:∀(A:Around) (outer:List Env) (s:Shared) (H:Hp) (vs:List V) (Q:VK) (E:XK),Room k (A.deeper (envOfC qual scope s.heap.objs.size f cdv))→sp vs H Q E→
   ∃t,PSs (cxOf CX P w K mg base N qual scope f cdv A outer s H E) body t∧t {nx:=λ_ H'=>Q .non H',rt:=Q} (start N vs) H):
  FnOk P w K mg base CX (k+1) f (PySem.W.fnOf name qual params body scope dV kV doc pm an cdv ct) ps sp:=by
 refine⟨len,λA outer s H args us vs Q E hr e0 hb r hsp=>?_⟩;have hl:=len _ _ _ _ hsp;have KX:K.In s.heap:=e0.mod.kin.keeps λb o e=>(e0.bs b o e).1;have lim:s.heap.NoLimit:=e0.mod.nolimit.keeps λb o e=>(e0.bs b o e).1
 have hkind:∀y∈ps.zip us,scope.names.lookup y.1=some .local∨(scope.names.lookup y.1=some .cell∧((cellsFrom (s.heap.objs.size+1) scope.names []).lookup y.1).isSome=true):=λ⟨n,v⟩ hy=>by
  rcases S.par n (List.of_mem_zip hy).1 with q|q
  ·exact .inl q
  ·exact .inr ⟨q,PySem.W.cellsFrom_some _ _ _ (.inl q)⟩
 refine codeAny_call_function hr.depth (KX _ _ lk) rfl S.co S.gen rfl (PySem.W.codeRec_of KX hcd) (hb _ _ _ _ ?_);refine wpAny_newFunctionEnv_cells S.kind hkind λenv he s1 x=>?_;subst he;refine⟨lim.keeps x.toInCall.keep,codeAny_func ?_⟩;obtain⟨t,ht,hq⟩:=hbody A outer s H vs Q E (hr.deeper _) hsp;have I:Inv (cxOf CX P w K mg base N qual scope f cdv A outer s H E) [] (start N vs) H s1:=a9l' S hr.hd e0 hl r x;refine wpAny_mono (ht [] s1 (start N vs) H _ I hq) (λfl s' hs=>?_) λe s' hs=>hs
 have fin:∀{σ':St} {H':Hp} {v:V} {u:Value},Inv (cxOf CX P w K mg base N qual scope f cdv A outer s H E) [] σ' H' s'→RelV v u→Q v H'→CE outer P w H s Q u s':=
  λ{σ' H' v u} J rv q=>⟨v,H',J.os,J.bare,J.base,J.hok,rv,q⟩
 cases fl with
 |ret u=>obtain⟨v,σ',H',J,rv,q⟩:=hs;exact fin J rv q
 |next=>obtain⟨σ',H',J,q⟩:=hs;exact fin (v:=V.non) (u:=Value.none) J rfl q
 |brk=>obtain⟨_,_,_,q⟩:=hs;exact False.elim q
 |cont=>obtain⟨_,_,_,q⟩:=hs;exact False.elim q
section
variable {X:Cx}{x:Str}{p pos:Pos}{t:TA}{id T:String}{r:List V→Hp→VK→Prop}
def tCB(r:List V→Hp→VK→Prop)(t:TA):TE:=λσ H Q=>t σ H λvs H1=>r vs H1 Q
theorem b1b'(hc:CallR X (.builtin id) r)(hg:Gl X x)(hm:X.mg x=none)(hv:bootBuiltins x=some (.builtin id))(ha:PA X (e::es) t)(hn:x≠"__name__":=by decide)(hdb:(x==("__debug__":Str))=false:=by decide)
  (he:starEach (e::es) X.env=(false,eval e X.env)::starEach es X.env:=by rfl) (hpl:(backTo pos (starEach es X.env)).any (·.1)=false:=by rfl):PE X (.Call (.Name x p) (e::es) [] pos) (tCB r t):=by
 intro pq s σ H Q I h;refine wpAny_Call_Name_kw (a4D' I hg hm hv ?_ hn hdb);exact PyProof.Rows.callWith_builtin1 (thn (ha pos pq s σ H _ I h) λus s1 ⟨vs,H1,I1,r1,q1⟩=>hc pq s1 σ H1 vs us Q I1 r1 q1) he hpl
theorem a2W'(hc:CallR X (.type T) r)(hg:Gl X x)(hm:X.mg x=none)(hv:bootBuiltins x=some (.type T))(ha:PA X (e::es) t)(hn:x≠"__name__":=by decide)(hdb:(x==("__debug__":Str))=false:=by decide)
  (he:starEach (e::es) X.env=(false,eval e X.env)::starEach es X.env:=by rfl) (hpl:(backTo pos (starEach es X.env)).any (·.1)=false:=by rfl):PE X (.Call (.Name x p) (e::es) [] pos) (tCB r t):=by
 intro pq s σ H Q I h;refine wpAny_Call_Name_kw (a4D' I hg hm hv ?_ hn hdb);exact PyProof.Rows.callWith_type1 (thn (ha pos pq s σ H _ I h) λus s1 ⟨vs,H1,I1,r1,q1⟩=>hc pq s1 σ H1 vs us Q I1 r1 q1) he hpl
end
end L2
namespace HT
section
open PySem.SeqAt
open PySem.AutoSeq1 (wpAny_loadPart')
open PySem.MeetsSeq PySem.MeetsSeq2 PySem.MeetsSeq3
end
theorem cat_tup{t b:Addr}{vs ws:Lv}(ht:IsTup s.heap t vs.toArray)(hb:IsTup s.heap b ws.toArray)(hv:vs≠[])
  (h1:ws=[]→Q (.ref t) s) (h2:ws≠[]→Q (.ref s.heap.objs.size) {s with heap:=s.heap.push {cls:=.type "tuple",data:=.seq (vs++ws).toArray}})
  (hsz:vs.length+ws.length≤sizeLine):wpAny (model prog w) A (binaryOp .Add (.ref t) (.ref b)) Q E s:=by
 obtain⟨⟨cls,dd,data,sl⟩,ho,hc,n,hd⟩:=id ht;obtain⟨⟨cls2,dd2,data2,sl2⟩,ho2,hc2,n2,hd2⟩:=id hb;simp only at hc hd hc2 hd2;subst hc hd hc2 hd2;have e:vs.toArray++ws.toArray=(vs++ws).toArray:=by simp
 by_cases hw:ws=[]
 ·exact concat_meets ⟨_,ho,rfl⟩ ⟨_,ho2,rfl⟩ noFill_tuple_add seq_tuple_add PySem.F.slot_tuple_add PySem.F.entry_tuple_add (PySem.F.args_tuple_add_2 _ _)
   (tuple_addW1 t b vs.toArray ws.toArray n n2 dd dd2 sl sl2 (by simpa using hv) (by simp[hw])) ⟨ho,ho2,h1 hw⟩
 ·refine concat_meets ⟨_,ho,rfl⟩ ⟨_,ho2,rfl⟩ noFill_tuple_add seq_tuple_add PySem.F.slot_tuple_add PySem.F.entry_tuple_add (PySem.F.args_tuple_add_2 _ _)
   (tuple_addW2 t b vs.toArray ws.toArray n n2 dd dd2 sl sl2 (by simpa using hv) (by simpa using hw) (by rw[Zi,Zi];exact hsz)) ⟨ho,ho2,?_⟩
  rw[e];exact h2 hw
noncomputable def sIx(n d:Nat):Option Int→Nat
 |none=>d
 |some v=>if v<0 then(v+(n:Int)).toNat else min v.toNat n
theorem sIx_le(n d:Nat)(hd:d≤n)(o:Option Int):sIx n d o≤n:=by
 cases o with
 |none=>exact hd
 |some v=>
  show(if v<0 then(v+(n:Int)).toNat else min v.toNat n)≤n;by_cases hv:v<0
  ·rw[if_pos hv];omega
  ·rw[if_neg hv];exact Nat.min_le_right _ _
theorem b0h'(v:Int)(n d:Nat):(if v<0 then max (v+(n:Int)) 0 else min v (n:Int))=((sIx n d (some v):Nat):Int):=by
 show(if v<0 then max (v+(n:Int)) 0 else min v (n:Int))=(((if v<0 then(v+(n:Int)).toNat else min v.toNat n):Nat):Int);by_cases hv:v<0
 ·simp only[if_pos hv];omega
 ·simp only[if_neg hv];omega
theorem a7w'(lo hi:Option Int)(n:Nat):Builtin.Slice.sliceAdjust lo hi 1 (n:Int)=(((sIx n 0 lo:Nat):Int),((sIx n n hi:Nat):Int)):=by
 have h1:¬((1:Int)<0):=by omega
 unfold Builtin.Slice.sliceAdjust;simp only[h1,Z0];refine Prod.ext ?_ ?_
 ·cases lo with
  |none=>rfl
  |some v=>exact b0h' v n 0
 ·cases hi with
  |none=>rfl
  |some v=>exact b0h' v n n
theorem a7x'(i j:Nat):Builtin.Slice.slicePlaces (i:Int) (j:Int) 1=j-i:=by
 unfold Builtin.Slice.slicePlaces;have h1:(1:Int)>0:=by omega
 simp only[h1,if_true,Int.ediv_one];split<;>omega
theorem a4F'{v:Value}{o:Option Int}{Q:Option Int→Shared→Prop}(p:IsPart v o)(h:Q o s):wpAny (model prog w) A (Builtin.Slice.slicePartIndex v) Q E s:=by
 cases p with
 |none=>exact slicePart_none h
 |int i t=>exact slicePart_int h
theorem a1q'{Q:Int×Int×Nat→Shared→Prop}(hs:s.heap.IsSliceOf sl vl vu .none)(pl:IsPart vl lo)(pu:IsPart vu hi)
  (h:Q (((sIx n 0 lo:Nat):Int),1,sIx n n hi-sIx n 0 lo) s):wpAny (model prog w) A (Builtin.Slice.sliceApplied (.ref sl) (pure (n:Int))) Q E s:=by
 obtain⟨os,hos,hcs,hds⟩:=id hs;unfold Builtin.Slice.sliceApplied Builtin.Slice.sliceFields;refine Za (Za (wpAny_field hos hds (x:=vl) rfl (Za (wpAny_field hos hds (x:=vu) rfl (Za (wpAny_field hos hds (x:=.none) rfl (Ze ?_)))))));refine Za (slicePart_none ?_);show wpAny _ _ (if((1:Int)==0)=true then _ else _) _ _ s;rw[if_neg (by decide)];refine Za (a4F' pl (Za (a4F' pu (Za (Ze ?_)))));show wpAny _ _ (match Builtin.Slice.sliceAdjust lo hi 1 (n:Int)with| (lo,hi)=>pure (lo,(1:Int),Builtin.Slice.slicePlaces lo hi 1)) _ _ s;rw[a7w' lo hi n];show wpAny _ _ (pure (((sIx n 0 lo:Nat):Int),(1:Int),Builtin.Slice.slicePlaces ((sIx n 0 lo:Nat):Int) ((sIx n n hi:Nat):Int) 1)) _ _ s;rw[a7x'];exact Ze h
theorem b1c'(xs:Av)(i k:Nat):((List.range k).filterMap λ(m:Nat)=>xs[((i:Int)+(m:Int)*1).toNat]?).toArray=((xs.toList.drop i).take k).toArray:=by
 have e:(λ(m:Nat)=>xs[((i:Int)+(m:Int)*1).toNat]?)=λm=>xs[i+m]? :=by
  funext m;have:((i:Int)+(m:Int)*1).toNat=i+m:=by omega
  rw[this]
 rw[e];have:=pick_run xs i k;rw[List.filterMap_map]at this;have e2:((λx=>xs[x]?)∘λx=>i+x)=λm=>xs[i+m]? :=rfl;rw[e2]at this;rw[this]
theorem a2P'{t:Addr}(ht:IsTup s.heap t items)(hs:s.heap.IsSliceOf sl vl vu .none)(pl:IsPart vl lo)(pu:IsPart vu hi)
  (hw:¬(sIx items.size 0 lo=0∧sIx items.size items.size hi=items.size))
  (h:Q (.ref s.heap.objs.size) {s with heap:=s.heap.push {cls:=.type "tuple",data:=.seq ((items.toList.drop (sIx items.size 0 lo)).take (sIx items.size items.size hi-sIx items.size 0 lo)).toArray}})
  (hsz:items.size≤sizeLine):wpAny (model prog w) A (getItem (.ref t) (.ref sl)) Q E s:=by
 have htake:sizeOk (.seq ((items.toList.drop (sIx items.size 0 lo)).take (sIx items.size items.size hi-sIx items.size 0 lo)).toArray):=by show((items.toList.drop (sIx items.size 0 lo)).take (sIx items.size items.size hi-sIx items.size 0 lo)).toArray.size≤sizeLine;rw[Zi,List.length_take,List.length_drop,ZF];omega
 have hj:sIx items.size items.size hi≤items.size:=sIx_le _ _ (Zk _) hi;obtain⟨os,hos,hcs,hds⟩:=id hs;have hTs:s.TypeIs (.ref sl) "slice":=⟨os,hos,hcs⟩;unfold getItem
 try with_reducible refine ZY ?_
 first|refine Za (Ze ?_)|skip
 refine Za (wpAny_sequenceKey ht.typeIs (by decide) ?_)
 refine Za (ZP (name:=Str.ofString "__getitem__") ht.typeIs PyProof.Rows.slot_tuple_getitem
  (ZH PyProof.Rows.slot_tuple_getitem ht.typeIs entry_tuple_getitem ?_ (args_tuple_getitem _ _)))
 show wpAny _ _ (Builtin.Tuple.tupleItemsOf (.ref t)>>=_) _ _ s;refine Za (tupleItemsOf_ ht ?_);refine Za (wpAny_typeOf hTs ?_);rw[if_pos (by decide)];refine Za (a1q' hs pl pu ?_);have hno:¬((((sIx items.size 0 lo:Nat):Int)==0&&(1:Int)==1&&(sIx items.size items.size hi-sIx items.size 0 lo)==items.size)=true):=by intro q;rw[Zt,Zt]at q;have q1:((sIx items.size 0 lo:Nat):Int)=0:=eq_of_beq q.1.1;have q2:sIx items.size items.size hi-sIx items.size 0 lo=items.size:=eq_of_beq q.2;exact hw ⟨by omega,by omega⟩
 show wpAny _ _ (if(((sIx items.size 0 lo:Nat):Int)==0&&(1:Int)==1&&(sIx items.size items.size hi-sIx items.size 0 lo)==items.size)=true then _ else _) _ _ s;rw[if_neg hno,b1c']
 first
  |exact Za (m:=Builtin.Tuple.tupleExact _) (ZD (Ze ⟨_,rfl,Ze h⟩) htake)
  |exact Za (m:=Builtin.Tuple.tupleExact _) (ZD (Za (Ze (Ze ⟨_,rfl,Ze h⟩))) htake)
  |exact Za (Za (m:=Builtin.Tuple.tupleExact _) (ZD (Ze (Ze ⟨_,rfl,Ze h⟩)) htake))
  |exact Za (Za (m:=Builtin.Tuple.tupleExact _) (ZD (Ze ⟨_,rfl,Ze h⟩) htake))
end HT
namespace L2
abbrev TO:=St→Hp→(Option Int→Hp→Prop)→Prop
def PO(X:Cx)(e:Option Expr)(t:TO):Prop:=
 ∀(pq:Lp) (s:Shared) (σ:St) (H:Hp) (Q:Option Int→Hp→Prop),Inv X pq σ H s→t σ H Q→
  wpAny (model X.prog X.w) X.A (evalPart e X.env) (λu s'=>∃o H',Inv X pq σ H' s'∧IsPart u o∧Q o H') X.xe s
def tNoPart:TO:=λ_ H Q=>Q none H
def tPart(t:TE):TO:=λσ H Q=>t σ H λx H1=>∃i,x=.int i∧Q (some i) H1
section
variable {X:Cx}{te:TE}{lo hi:Option Expr}{tl th:TO}{pos:Pos}
theorem po_none:PO X none tNoPart:=by intro pq s σ H Q I h;rw[evalPart_none];exact Ze ⟨none,H,I,.none,h⟩
theorem po_some(h:PE X e te):PO X (some e) (tPart te):=by intro pq s σ H Q I hw;rw[evalPart_some];refine thn (h pq s σ H _ I hw) λu s1 ⟨x,H1,I1,r1,q1⟩=>?_;obtain⟨i,rfl,q⟩:=q1;obtain⟨t,rfl⟩:=r1;exact⟨some i,H1,I1,.int i t,q⟩
def SlR(X:Cx)(r:V→Option Int→Option Int→Hp→VK→Prop):Prop:=
 ∀(pq:Lp) (s:Shared) (σ:St) (H:Hp) (x:V) (v vl vu:Value) (lo hi:Option Int) (sl:Addr) (Q:VK),Inv X pq σ H s→RelV x v→s.heap.IsSliceOf sl vl vu .none→IsPart vl lo→IsPart vu hi→r x lo hi H Q→
  ∃T id,typeLookup (.type T) "__getitem__"=pure (some (.builtin id))∧s.TypeIs v T∧wpAny (model X.prog X.w) X.A (getItem v (.ref sl)) (EP X pq σ Q) X.xe s
def tSl(r:V→Option Int→Option Int→Hp→VK→Prop)(te:TE)(tl th:TO):TE:=λσ H Q=>te σ H λx H1=>tl σ H1 λl H2=>th σ H2 λu H3=>r x l u H3 Q
theorem b1d'{r:V→Option Int→Option Int→Hp→VK→Prop}(hr:SlR X r)(he:PE X e te)(hl:PO X lo tl)(hu:PO X hi th):PE X (.Subscript e (.Slice lo hi none p2) pos) (tSl r te tl th):=by intro pq s σ H Q I h;refine Subscript_ (thn (he pq s σ H _ I h) λv s1 ⟨x,H1,I1,r1,q1⟩=>?_);refine wpAny_Slice (thn (hl pq s1 σ H1 _ I1 q1) λvl s2 ⟨l,H2,I2,pl,q2⟩=>thn (hu pq s2 σ H2 _ I2 q2) λvu s3 ⟨u,H3,I3,pu,q3⟩=>?_);rw[evalPart_none];refine Ze ?_;have I4:Inv X pq σ H3 {s3 with heap:=s3.heap.push {cls:=.type "slice",data:=.fields #[vl,vu,.none]}}:=I3.kept (t':=s3.toks) λb ob q=>Zc _ q;obtain⟨T,id,hT,ht,hg⟩:=hr pq {s3 with heap:=s3.heap.push {cls:=.type "slice",data:=.fields #[vl,vu,.none]}} σ H3 x v vl vu l u s3.heap.objs.size Q I4 r1 (Heap.IsSliceOf.new ..) pl pu q3;show wpAny (model X.prog X.w) X.A (subscriptTail e (.Slice lo hi none p2) v (.ref s3.heap.objs.size)) (EP X pq σ Q) X.xe {s3 with heap:=s3.heap.push {cls:=.type "slice",data:=.fields #[vl,vu,.none]}};exact tail_any (ops:=[.ref s3.heap.objs.size,v]) ht hT hg (by with_unfolding_all rfl)
noncomputable def cutV(xs:List V)(lo hi:Option Int):List V:=(xs.drop (HT.sIx xs.length 0 lo)).take (HT.sIx xs.length xs.length hi-HT.sIx xs.length 0 lo)
theorem a3M'(xs:List V)(lo hi:Option Int):(cutV xs lo hi).length≤xs.length:=by unfold cutV;rw[List.length_take,List.length_drop];omega
def rSlT(K:Fg):V→Option Int→Option Int→Hp→VK→Prop:=λx lo hi H Q=>∃a xs,x=.ref a∧SqT K H a xs∧
 ¬(HT.sIx xs.length 0 lo=0∧HT.sIx xs.length xs.length hi=xs.length)∧∀p,H p=none→Q (.ref p) (upd H p (.tup (cutV xs lo hi)))
theorem sl_tup:SlR X (rSlT X.K):=by
 intro pq s σ H x v vl vu lo hi sl Q I rx hs pl pu h;obtain⟨a,xs,rfl,hx,hw,q⟩:=h;cases rx;obtain⟨its,r,ht,hz⟩:=I.tuple hx;have hlen:its.toArray.size=xs.length:=by rw[Zi];exact r.length.symm
 refine⟨"tuple",_,PyProof.Rows.slot_tuple_getitem.lookup,ht.typeIs,?_⟩;refine HT.a2P' ht hs pl pu (by rw[hlen];exact hw) ?_ (by rw[hlen];exact hz);rw[hlen];refine⟨.ref s.heap.objs.size,_,I.laid (t':=s.toks) (o:=.tup (cutV xs lo hi)) (λb ob q=>Zc _ q) (Zk _) ?_,rfl,q _ (I.hok.fresh (Zk _))⟩;exact⟨ZS (a3M' xs lo hi) hz,_,(r.drop (HT.sIx xs.length 0 lo)).take (HT.sIx xs.length xs.length hi-HT.sIx xs.length 0 lo),IsTup.new _ _,NoD.new _ _⟩
def rCatT(K:Fg):R2:=λx y H Q=>∃a b xs ys,x=.ref a∧y=.ref b∧SqT K H a xs∧SqT K H b ys∧xs≠[]∧xs.length+ys.length≤sizeLine∧
 (ys=[]→Q (.ref a) H)∧(ys≠[]→∀p,H p=none→Q (.ref p) (upd H p (.tup (xs++ys))))
theorem Vals.nil_iff{xs:List V}(r:Vals xs us):us=[]↔xs=[]:=by
 cases r with
 |nil=>simp
 |cons _ _=>simp
theorem op_catT:OpR X (binaryOp .Add) (rCatT X.K):=by intro pq s σ H x y v u Q I rx ry h;obtain⟨a,b,xs,ys,rfl,rfl,ha,hb,hx,hz,q1,q2⟩:=h;cases rx;cases ry;obtain⟨its,r1,p1,_⟩:=I.tuple ha;obtain⟨its2,r2,p2,_⟩:=I.tuple hb;refine HT.cat_tup p1 p2 (λz=>hx (r1.nil_iff.mp z)) (λz=>⟨.ref a,H,I,rfl,q1 (r2.nil_iff.mp z)⟩) (λz=>?_) (by rw[←r1.length,←r2.length];exact hz);refine⟨.ref s.heap.objs.size,_,I.laid (t':=s.toks) (o:=.tup (xs++ys)) (λb ob q=>Zc _ q) (Zk _) ?_,rfl,q2 (λw=>z (r2.nil_iff.mpr w)) _ (I.hok.fresh (Zk _))⟩;exact⟨by rw[ZG];exact hz,_,r1.append r2,IsTup.new _ _,NoD.new _ _⟩
end
noncomputable def ixN(n:Nat)(i:Int):Option Nat:=if 0≤i then(if i<n then some i.toNat else none)else if-(n:Int)≤i then some (i+n).toNat else none
noncomputable def atI{α:Type}(xs:List α)(i:Int):Option α:=(ixN xs.length i).bind λj=>xs[j]?
theorem ixN_seq{i:Int}{j:Nat}(h:ixN n i=some j):seqIndex? i n=some j∧j<n∧-(n:Int)≤i∧i<n:=by
 unfold ixN at h;by_cases h0:0≤i
 ·rw[if_pos h0]at h;by_cases h1:i<n
  ·rw[if_pos h1]at h;have e:i.toNat=j:=Option.some.inj h;exact⟨by rw[seqIndex_of h0 h1,e],by omega,by omega,h1⟩
  ·rw[if_neg h1]at h;cases h
 ·rw[if_neg h0]at h;by_cases h1: -(n:Int)≤i
  ·rw[if_pos h1]at h;have e:(i+n).toNat=j:=Option.some.inj h;exact⟨by rw[seqIndex_neg (by omega) h1,e],by omega,h1,by omega⟩
  ·rw[if_neg h1]at h;cases h
theorem b0i'{xs:List α}{i:Int}{v:α}(h:atI xs i=some v):∃j,seqIndex? i xs.length=some j∧xs[j]?=some v∧j<xs.length∧-(xs.length:Int)≤i∧i<xs.length:=by
 unfold atI at h;cases e:ixN xs.length i with
 |none=>rw[e]at h;cases h
 |some j=>rw[e]at h;obtain⟨h1,h2,h3,h4⟩:=ixN_seq e;exact⟨j,h1,h,h2,h3,h4⟩
def b0j'(b:Expr):Prop:=∀o i,subscripted b false o i=operate [o,i] (getItem o i)
def IxR(X:Cx)(r:R2):Prop:=
 ∀(value slice:Expr) (pq:Lp) (s:Shared) (σ:St) (H:Hp) (x y:V) (v u:Value) (Q:VK),Inv X pq σ H s→RelV x v→RelV y u→r x y H Q→
  subscripted slice false v u=operate [v,u] (getItem v u)→wpAny (model X.prog X.w) X.A (subscriptTail value slice v u) (EP X pq σ Q) X.xe s
def MtR(X:Cx)(id:String)(r:V→List V→Hp→VK→Prop):Prop:=
 ∀(pq:Lp) (s:Shared) (σ:St) (H:Hp) (x:V) (xs:List V) (v:Value) (us:Lv) (Q:VK),Inv X pq σ H s→RelV x v→Vals xs us→r x xs H Q→
  wpAny (model X.prog X.w) X.A (call (.builtin id) (v::us)) (EP X pq σ Q) X.xe s
section
variable {X:Cx}{a b:Expr}{ta tb:TE}{pos:Pos}
theorem pe_ix{r:R2}(hr:IxR X r)(ha:PE X a ta)(hb:PE X b tb)(hs:b0j' b):PE X (.Subscript a b pos) (tOp r ta tb):=by intro pq s σ H Q I h;exact Subscript_ (binT ha hb I h λv u s2 x y H2 I2 rx ry q=>hr a b pq s2 σ H2 x y v u Q I2 rx ry q (hs _ _))
def rIxL(K:Fg):R2:=λx y H Q=>∃p xs i v,x=.ref p∧y=.int i∧SqL K H p xs∧atI xs i=some v∧Q v H
def rIxT(K:Fg):R2:=λx y H Q=>∃p xs i v,x=.ref p∧y=.int i∧SqT K H p xs∧atI xs i=some v∧Q v H
theorem ix_list:IxR X (rIxL X.K):=by
 intro value slice pq s σ H x y v u Q I rx ry h hs;obtain⟨p,xs,i,z,rfl,rfl,hq,he,q⟩:=h;cases rx;obtain⟨t,rfl⟩:=ry;obtain⟨its,r,pl,hz⟩:=I.list hq;obtain⟨j,h1,h2,h3,h4,h5⟩:=b0i' he;obtain⟨w,ew,rw'⟩:=r.get h2;have hl:=r.length;have hn:=a7s';have fin:EP X pq σ Q w s:=⟨z,H,I,rw',q⟩;by_cases h0:0≤i
 ·have hj:i.toNat=j:=by
   rw[seqIndex_of h0 h5]at h1;exact Option.some.inj h1
  exact item_listR pl.isList h0 (by omega) (by rw[hj];simpa using ew) fin hs
 ·have hj:(i+(its.toArray.size:Int)).toNat=j:=by
   rw[seqIndex_neg (by omega) h4]at h1;rw[Zi,←hl];exact Option.some.inj h1
  exact subscriptTail_builtinR (x:=w) pl.isList.typeIs slot_list_getitem.lookup
   (wpAny_getItem_list_neg (Q:=λr s'=>r=w∧EP X pq σ Q r s') pl.isList (by omega) (by rw[Zi]<;>omega) (by omega) (by rw[hj];simpa using ew) ⟨rfl,fin⟩) hs
theorem ix_tup:IxR X (rIxT X.K):=by
 intro value slice pq s σ H x y v u Q I rx ry h hs;obtain⟨p,xs,i,z,rfl,rfl,hq,he,q⟩:=h;cases rx;obtain⟨t,rfl⟩:=ry;obtain⟨its,r,pl,hz⟩:=I.tuple hq;obtain⟨j,h1,h2,h3,h4,h5⟩:=b0i' he;obtain⟨w,ew,rw'⟩:=r.get h2;have hl:=r.length;have hn:=a7s';have fin:EP X pq σ Q w s:=⟨z,H,I,rw',q⟩
 exact subscriptTail_builtinR (x:=w) pl.typeIs slot_tuple_getitem.lookup
  (getItem_tuple (j:=j) (Q:=λr s'=>r=w∧EP X pq σ Q r s') pl (by omega) (by omega) (by rw[Zi,←hl];exact h1) (by simpa using ew) ⟨rfl,fin⟩) hs
theorem a5m'(lo hi:Option Int)(n:Nat):(sliceBounds lo hi none n).1=((HT.sIx n 0 lo:Nat):Int)∧(sliceBounds lo hi none n).2.1=((HT.sIx n n hi:Nat):Int)∧(sliceBounds lo hi none n).2.2=1:=by
 refine⟨?_,?_,rfl⟩
 ·cases lo with
  |none=>simp[sliceBounds,HT.sIx]
  |some i=>
   simp only[sliceBounds,HT.sIx,Option.getD_none,show(1:Int)>0 by decide,if_true];by_cases h:i<0
   ·simp only[h,if_true]<;>omega
   ·simp only[h,Z0]<;>omega
 ·cases hi with
  |none=>simp[sliceBounds,HT.sIx]
  |some i=>
   simp only[sliceBounds,HT.sIx,Option.getD_none,show(1:Int)>0 by decide,if_true];by_cases h:i<0
   ·simp only[h,if_true]<;>omega
   ·simp only[h,Z0]<;>omega
theorem a4G'(its:Lv)(lo hi:Option Int):slicePick its.toArray lo hi none=((its.drop (HT.sIx its.length 0 lo)).take (HT.sIx its.length its.length hi-HT.sIx its.length 0 lo)).toArray:=by obtain⟨h1,h2,h3⟩:=a5m' lo hi its.toArray.size;unfold slicePick;rw[h1,h2,h3];simp only[sliceRange_one,pick_run,Zi]<;>rfl
def rSlL(K:Fg):V→Option Int→Option Int→Hp→VK→Prop:=λx lo hi H Q=>∃a xs,x=.ref a∧SqL K H a xs∧∀p,H p=none→Q (.ref p) (upd H p (.lst (cutV xs lo hi)))
theorem sl_list:SlR X (rSlL X.K):=by intro pq s σ H x v vl vu lo hi sl Q I rx hs pl pu h;obtain⟨a,xs,rfl,hx,q⟩:=h;cases rx;obtain⟨its,r,ht,hz⟩:=I.list hx;have hlen:=r.length;refine⟨"list",_,slot_list_getitem.lookup,ht.isList.typeIs,?_⟩;refine wpAny_getItem_list_slice ht.isList hs pl pu .none (by simp) ?_ (by rw[Zi]<;>omega);rw[a4G',←hlen];refine⟨.ref s.heap.objs.size,_,I.laid (t':=s.toks) (o:=.lst (cutV xs lo hi)) (λb ob q=>Zc _ q) (Zk _) ?_,rfl,q _ (I.hok.fresh (Zk _))⟩;exact⟨ZS (a3M' xs lo hi) hz,_,0,(r.drop (HT.sIx xs.length 0 lo)).take (HT.sIx xs.length xs.length hi-HT.sIx xs.length 0 lo),Zl _ rfl⟩
theorem a5n':CallR X (.builtin "len") (λxs H Q=>∃p ys,xs=[.ref p]∧(SqL X.K H p ys∨SqT X.K H p ys)∧Q (.int ys.length) H):=by
 intro pq s σ H xs us Q I r h;obtain⟨p,ys,rfl,hq,q⟩:=h;obtain⟨u,rfl,rx⟩:=vals1 r;cases rx;have hn:=a7s';rcases hq with hq|hq
 ·obtain⟨its,r',pl,hz⟩:=I.list hq;have hlen:=r'.length;exact Calls.call_len_list pl.isList (by simp only[Zi]<;>omega) ⟨.int ys.length,H,I.tok _,⟨s.toks+1,by rw[Zi,hlen]⟩,q⟩
 ·obtain⟨its,r',pl,hz⟩:=I.tuple hq;have hlen:=r'.length;exact len_tuple pl (by simp only[Zi]<;>omega) ⟨.int ys.length,H,I.tok _,⟨s.toks+1,by rw[Zi,hlen]⟩,q⟩
theorem a5o':CallR X (.builtin "len") (λxs H Q=>∃z,xs=[.str z]∧z.length≤sizeLine∧Q (.int z.length) H):=by intro pq s σ H xs us Q I r h;obtain⟨z,rfl,hz,q⟩:=h;obtain⟨u,rfl,t,rfl⟩:=vals1 r;have hn:=a7s';exact len_str (by omega) ⟨.int z.length,H,I.tok _,⟨_,rfl⟩,q⟩
theorem a2D':CallR X (.type "tuple") (λxs H Q=>∃p ys,xs=[.ref p]∧((SqL X.K H p ys∧∀l,H l=none→Q (.ref l) (upd H l (.tup ys)))∨(SqT X.K H p ys∧Q (.ref p) H))):=by
 intro pq s σ H xs us Q I r h;obtain⟨p,ys,rfl,h⟩:=h;obtain⟨u,rfl,rx⟩:=vals1 r;cases rx;rcases h with⟨hq,q⟩| ⟨hq,q⟩
 ·obtain⟨its,r',pl,hz⟩:=I.list hq;have hlen:=r'.length;refine call_tuple_list pl.isList (λh' kp=>?_) (by simp only[Zi]<;>omega);have I1:Inv X pq σ H {s with heap:=h'}:=I.kept (t':=s.toks) kp
  have I2:Inv X pq σ (upd H h'.objs.size (.tup ys)) {s with heap:=h'.push {cls:=.type "tuple",data:=.seq its.toArray}}:=
   I1.laid (t':=s.toks) (λb o e=>Zc _ e) (Zk _) (show ObjOk X.prog X.w _ _ _ (.tup ys)from⟨hz,its,r',IsTup.new _ _,NoD.new _ _⟩)
  exact⟨.ref h'.objs.size,_,I2,rfl,q _ (I1.hok.fresh (Zk _))⟩
 ·obtain⟨its,r',pl,hz⟩:=I.tuple hq;exact call_tuple_same pl ⟨.ref p,H,I,rfl,q⟩
def tyV(K:Fg)(T:String)(x:V)(H:Hp):Prop:=match x with
 | .str _=>T="str"
 | .int _=>T="int"
 | .ref p=>(T="list"∧∃xs,SqL K H p xs)∨(T="tuple"∧∃o,K.lookup p=some o∧o.cls=.type "tuple"∧o.dict=none)∨
   (T="dict"∧((∃kvs,H p=some (.dK kvs))∨∃kvs,H p=some (.dT kvs)))∨(T="set"∧∃S n,H p=some (.set S n))
 |_=>False
theorem tyV_is{σ:St}{H:Hp}{T:String}{x:V}{v:Value}(I:Inv X pq σ H s)(r:RelV x v)(ty:tyV X.K T x H):
  s.TypeIs v T∧∀a,v=.ref a→∃ob,s.heap.get? a=some ob∧ob.dict=none:=by
 cases x with
 |str z=>obtain⟨t,rfl⟩:=r;cases(show T="str" from ty);exact⟨typeIs_str s z t,λ_ e=>nomatch e⟩
 |int i=>obtain⟨t,rfl⟩:=r;cases(show T="int" from ty);exact⟨typeIs_int s i t,λ_ e=>nomatch e⟩
 |ref p=>
  cases r;rcases ty with⟨rfl,xs,hq⟩| ⟨rfl,o,hk,hc,hd⟩| ⟨rfl,hk⟩| ⟨rfl,S,n,hk⟩
  ·obtain⟨its,_,pl,_⟩:=I.list hq;refine⟨pl.isList.typeIs,λa e=>?_⟩;cases e;obtain⟨o,n,e,c,hd,_⟩:=pl;exact⟨o,e,hd⟩
  ·refine⟨⟨o,I.kIn p o hk,hc⟩,λa e=>?_⟩;cases e;exact⟨o,I.kIn _ o hk,hd⟩
  ·have z:∃o,s.heap.get? p=some o∧o.ExactDict:=by
    rcases hk with⟨kvs,hk⟩| ⟨kvs,hk⟩
    ·obtain⟨_,_,_,_,o,_,_,e,ex,_⟩:=I.hok p _ hk;exact⟨o,e,ex⟩
    ·obtain⟨_,_,_,_,o,_,_,e,ex,_⟩:=I.hok p _ hk;exact⟨o,e,ex⟩
   obtain⟨o,e,ex⟩:=z;refine⟨⟨o,e,ex.1⟩,λa e2=>?_⟩;cases e2;exact⟨o,e,ex.2.1⟩
  ·obtain⟨o,_,_,_,e,ex,_⟩:=I.hok p _ hk;refine⟨⟨o,e,ex.1⟩,λa e2=>?_⟩;cases e2;exact⟨o,e,ex.2.1⟩
 |_=>exact False.elim ty
def tBM0(K:Fg)(T:String)(r:V→List V→Hp→VK→Prop)(to:TE):TE:=λσ H Q=>to σ H λx H1=>tyV K T x H1∧r x [] H1 Q
def tBM(K:Fg)(T:String)(r:V→List V→Hp→VK→Prop)(to:TE)(t:TA):TE:=λσ H Q=>to σ H λx H1=>tyV K T x H1∧t σ H1 λxs H2=>r x xs H2 Q
variable {o:Expr}{to:TE}{t:TA}{cpos:Pos}{T id:String}{r:V→List V→Hp→VK→Prop}
theorem pe_bm0(pa:PlainAttrs T)(slot:Slot T name id)(hty:typeOf (.builtin id)=pure (.type "method_descriptor"))(hm:MtR X id r)(ho:PE X o to)
  (hbase:attributeBase o name X.env (eval o X.env)=eval o X.env:=by rfl) (hline:(apos.endLine==cpos.line)=true:=by rfl):PE X (.Call (.Attribute o name apos) [] [] cpos) (tBM0 X.K T r to):=by
 intro pq s σ H Q I h;refine wpAny_Call_method0_late hbase hline (thn (ho pq s σ H _ I h) λv s1 ⟨x,H1,I1,r1,ty,q1⟩=>?_);obtain⟨h1,h2⟩:=tyV_is I1 r1 ty;exact⟨T,id,pa,slot,hty,h1,h2,Calls.callWith_builtin rfl (PySem.evalArgs_none (hm pq s1 σ H1 x [] v [] Q I1 r1 .nil q1))⟩
theorem pe_bm(pa:PlainAttrs T)(slot:Slot T name id)(hty:typeOf (.builtin id)=pure (.type "method_descriptor"))(hm:MtR X id r)(ho:PE X o to)(ha:PA X (e::es) t)
  (hbase:attributeBase o name X.env (eval o X.env)=eval o X.env:=by rfl)
  (hfew:((backTo cpos (starEach (e::es) X.env)).all (λx=> !x.1)&&(backToKw cpos (keywordEach [] X.env)).all (λx=>x.1.isSome)
   &&decide ((e::es).length+([]:List Keyword).length+(if([]:List Keyword).isEmpty then 0 else 1)<30))=true:=by rfl)
  (hline:(apos.endLine==cpos.line)=true:=by rfl) (hs:starEach (e::es) X.env=(false,eval e X.env)::starEach es X.env:=by rfl) (hplain:(backTo cpos (starEach es X.env)).any (·.1)=false:=by rfl):
  PE X (.Call (.Attribute o name apos) (e::es) [] cpos) (tBM X.K T r to t):=by
 intro pq s σ H Q I h;refine wpAny_Call_method_late hbase hfew hline rfl (thn (ho pq s σ H _ I h) λv s1 ⟨x,H1,I1,r1,ty,q1⟩=>?_);obtain⟨h1,h2⟩:=tyV_is I1 r1 ty;refine⟨T,id,pa,slot,hty,h1,h2,?_⟩;have hA:=ha cpos pq s1 σ H1 _ I1 q1;rw[hs]at hA⊢;refine Calls.callWith_builtin (by show(false||(backTo cpos (starEach es X.env)).any (·.1))=false;rw[hplain]<;>rfl) (Calls.evalArgs_plain ?_);exact thn hA λus s2 ⟨vs,H2,I2,r2,q2⟩=>hm pq s2 σ H2 x vs v us Q I2 r1 r2 q2
end
def MtM(X:Cx)(id:String)(r:V→List V→Hp→VK→Prop):Prop:=
 ∀(pq:Lp) (s:Shared) (σ:St) (H:Hp) (x:V) (xs:List V) (v:Value) (us:Lv) (Q:VK),Inv X pq σ H s→RelV x v→Vals xs us→r x xs H Q→
  wpAny (model X.prog X.w) X.A (call (.builtin id) (v::us)) (EP X pq σ Q) X.xe s
theorem Vals.un{x:V}{xs:List V}(h:Vals (x::xs) us):∃u r,us=u::r∧RelV x u∧Vals xs r:=by
 cases h with
 |cons r t=>exact⟨_,_,rfl,r,t⟩
theorem Vals.nul(h:Vals [] us):us=[]:=by cases h;rfl
theorem Vals.one{x:V}(h:Vals [x] us):∃u,us=[u]∧RelV x u:=by obtain⟨u,r,rfl,h1,h2⟩:=h.un;cases h2.nul;exact⟨u,rfl,h1⟩
theorem Vals.two{x y:V}(h:Vals [x,y] us):∃u v,us=[u,v]∧RelV x u∧RelV y v:=by obtain⟨u,r,rfl,h1,h2⟩:=h.un;obtain⟨v,rfl,h3⟩:=h2.one;exact⟨u,v,rfl,h1,h3⟩
theorem Vals.zero:∀{us:Lv},Vals [] us→us=[]
 |_,.nil=>rfl
theorem Vals.rep{xs:List V}(h:Vals xs us):∀k:Nat,Vals (List.replicate k xs).flatten (List.replicate k us).flatten
 |0=>.nil
 |k+1=>by rw[List.replicate_succ,List.replicate_succ,List.flatten_cons,List.flatten_cons];exact Vals.append h (Vals.rep h k)
theorem a6c'(its:Lv):∀(k:Nat) (acc:Lv),
  List.foldl (λx1 x2=>x1++x2) acc.toArray (List.replicate k its.toArray)=(acc++(List.replicate k its).flatten).toArray
 |0,acc=>by simp
 |k+1,acc=>by
  have e:acc.toArray++its.toArray=(acc++its).toArray:=by simp
  have e2:(acc++its)++(List.replicate k its).flatten=acc++(List.replicate (k+1) its).flatten:=by rw[List.replicate_succ,List.flatten_cons,List.append_assoc]
  rw[←e2,←a6c' its k (acc++its),←e,List.replicate_succ,List.foldl_cons]
section
variable {X:Cx}{σ:St}{H:Hp}{l b:Addr}{xs ys zs:List V}
theorem Inv.lset{its its':Lv}{n:Nat}{f:Av→Av}{t':Nat}(I:Inv X pq σ H s)(hH:H l=some (.lst xs))
  (e:s.heap.get? l=some {cls:=.type "list",data:=.seq its.toArray n}) (hf:f its.toArray=its'.toArray) (hv:Vals ys its') (hz:ys.length≤sizeLine):
  Inv X pq σ (upd H l (.lst ys)) {s with heap:=s.heap.update l (Obj.mapSeq f),toks:=t'}:=by
 have q:=PySem.IsL.update e f;rw[hf]at q;refine I.write (x:=l) (e:=l) (by rw[hH];exact trivial) (.inl rfl) (λb' u hb hu=>(Heap.get?_update_other s.heap (Obj.mapSeq f) (Ne.symm hb)).trans hu) ⟨_,q⟩ ?_;exact⟨hz,its',_,hv,q⟩
theorem Inv.lnew{t':Nat}(I:Inv X pq σ H s)(hv:Vals ys its)(hz:ys.length≤sizeLine):
  Inv X pq σ (upd H s.heap.objs.size (.lst ys)) {s with heap:=s.heap.push {cls:=.type "list",data:=.seq its.toArray},toks:=t'}:=
 I.laid (λ_ _ q=>Zc _ q) (Zk _) ⟨hz,its,0,hv,Zl _ rfl⟩
theorem Inv.fresh(I:Inv X pq σ H s):H s.heap.objs.size=none:=I.hok.fresh (Zk _)
theorem Inv.lstM(I:Inv X pq σ H s)(hH:H l=some (.lst xs)):xs.length≤sizeLine∧∃(its:Lv) (n:Nat),Vals xs its∧xs.length=its.length∧s.heap.get? l=some {cls:=.type "list",data:=.seq its.toArray n}:=by obtain⟨z,its,n,r,e⟩:=I.hok l _ hH;exact⟨z,its,n,r,r.length,e⟩
theorem b1e'(h:n≤sizeLine):Builtin.List.listTooLong n=false:=by unfold Builtin.List.listTooLong;exact ZM (by omega)
end
section
variable {X:Cx}
def rAppend:V→List V→Hp→VK→Prop:=λx vs H Q=>∃l xs y,x=.ref l∧vs=[y]∧H l=some (.lst xs)∧xs.length<sizeLine∧Q .non (upd H l (.lst (xs++[y])))
theorem a6d':MtM X "list.append" rAppend:=by intro pq s σ H x vs v us Q I rx rv h;obtain⟨l,xs,y,rfl,rfl,hH,hz,q⟩:=h;cases rx;obtain⟨u,rfl,ru⟩:=rv.one;obtain⟨z,its,n,r,hl,e⟩:=I.lstM hH;refine call_meets F.slot_list_append ⟨_,e,rfl⟩ F.entry_list_append (F.args_list_append_2 _ _) (PySem.list_append l its.toArray n u (by rw[Zi];omega)) ⟨e,?_⟩;refine⟨.non,_,I.lset (its':=its++[u]) hH e (by simp) (r.append (.cons ru .nil)) ?_,rfl,q⟩;rw[ZG,List.length_singleton];omega
def rCat:R2:=λx y H Q=>∃l b xs zs,x=.ref l∧y=.ref b∧H l=some (.lst xs)∧H b=some (.lst zs)∧xs.length+zs.length≤sizeLine∧∀p,H p=none→Q (.ref p) (upd H p (.lst (xs++zs)))
theorem op_cat:OpR X (binaryOp .Add) rCat:=by
 intro pq s σ H x y v u Q I rx ry h;obtain⟨l,b,xs,zs,rfl,rfl,hH,hB,hz,q⟩:=h;cases rx;cases ry;obtain⟨z,its,n,r,hl,e⟩:=I.lstM hH;obtain⟨z2,its2,n2,r2,hl2,e2⟩:=I.lstM hB;refine PySem.P.add_list e e2 ?_ (by rw[Zi,Zi];omega);have ea:its.toArray++its2.toArray=(its++its2).toArray:=by simp
 rw[ea];exact⟨.ref _,_,I.lnew (t':=s.toks) (r.append r2) (by rw[ZG];omega),rfl,q _ I.fresh⟩
def rRep:R2:=λx y H Q=>∃l k xs,x=.ref l∧y=.int k∧H l=some (.lst xs)∧-(2^63)≤k∧k<2^63∧xs.length*k.toNat≤sizeLine∧
 ∀p,H p=none→Q (.ref p) (upd H p (.lst (List.replicate k.toNat xs).flatten))
theorem len_rep(xs:List α)(k:Nat):(List.replicate k xs).flatten.length=k*xs.length:=by
 induction k with
 |zero=>simp
 |succ k ih=>rw[List.replicate_succ,List.flatten_cons,ZG,ih,Nat.succ_mul,Nat.add_comm]
theorem op_rep:OpR X (binaryOp .Mult) rRep:=by
 intro pq s σ H x y v u Q I rx ry h;obtain⟨l,k,xs,rfl,rfl,hH,h1,h2,hz,q⟩:=h;cases rx;obtain⟨t,rfl⟩:=ry;obtain⟨z,its,n,r,hl,e⟩:=I.lstM hH;have hlen:its.toArray.size*k.toNat≤sizeLine:=by rw[Zi,←hl];exact hz
 have hcap:¬its.toArray.size*k.toNat>(2^63-1)/8:=by
  have:(sizeLine:Nat)≤(2^63-1)/8:=by decide
  omega
 have hfit:¬(!Builtin.List.listFitsIndex k)=true:=by rw[fitsIndex_both h1 h2];exact Bool.false_ne_true
 have hlong:¬Builtin.List.listTooLong (its.toArray.size*k.toNat)=true:=by rw[b1e' hlen];exact Bool.false_ne_true
 have hnew:List.foldl (λx1 x2=>x1++x2) #[] (List.replicate (if its.toArray.isEmpty=true then 0 else k.toNat) its.toArray)=(List.replicate k.toNat its).flatten.toArray:=by
  have f0:∀m:Nat,List.foldl (λx1 x2=>x1++x2) #[] (List.replicate m its.toArray)=(List.replicate m its).flatten.toArray:=λm=>by have:=a6c' its m [];rw[List.nil_append]at this;exact this
  rw[f0];cases its with
  |nil=>simp
  |cons a r'=>rw[if_neg (by simp)]
 refine wpAny_binaryOp_repeat_ref (T:="list") (U:="int") (by decide) ⟨_,e,rfl⟩ (λs'=>typeIs_int s' k t) noFill_list_mul F.fills_int_mul F.slot_int_rmul repeat_list F.slot_int_index.lookup
  (call_meets F.slot_int_rmul (typeIs_int s k t) F.entry_int_rmul (F.args_int_rmul_2 _ _) (int___rmul___int_list k t l its.toArray n)
   ⟨e,rfl,⟨_,e,rfl⟩,call_meets F.slot_list_mul ⟨_,e,rfl⟩ F.entry_list_mul (F.args_list_mul_2 _ _) (AutoListH.list___mul___list_int_3 l its.toArray n k t hfit hcap hlong) ⟨e,?_⟩⟩)
 rw[hnew];exact⟨.ref _,_,I.lnew (t':=s.toks) (r.rep k.toNat) (by rw[len_rep,Nat.mul_comm];exact hz),rfl,q _ I.fresh⟩
end
set_option maxRecDepth 100000 in
section
variable {X:Cx}
end
end L2
namespace Att
open PySem PySem.W PySem.Calls PyProof.Rows
theorem a3G'{P:Params}:∀(ns:Li) (vs:Lv),WellAll P h vs (ns.map WData.int)→IntsAre vs ns:=by
 intro ns
 induction ns with
 |nil=>intro vs w;rw[List.map_nil]at w;cases w;exact .nil
 |cons n ns ih=>
  intro vs w;rw[ZE]at w;cases w with
  |cons a b=>cases a;exact .cons _ _ (ih _ b)
theorem a9m'{l:OpenLaw}(hn:l.most=some n){P:Params}{args:List WData}{vals:Lv}
  (hpre:l.row.toRowW.claim.pre args=true) (hwl:WellAll P h vals args):
  ∃a vs ns,vals=[Value.ref a]∧args=[WData.list (ns.map WData.int)]∧h.get? a=some {cls:=.type "list",data:=.seq vs.toArray}∧IntsAre vs ns∧ns.length≤n:=by
 have hsh:WShape.hasAll [] args [.list .int]=true:=(pre_splitW hpre).1;have hc:l.pre.holds [] {args:=args}=true:=(pre_splitW hpre).2;obtain⟨d,r,rfl,h1,h2⟩:=hasAllW_cons hsh;obtain rfl:=hasAllW_nil h2;obtain⟨xs,rfl,h3⟩:=hasW_list h1;obtain⟨ns,rfl⟩:=items_int h3
 have hlen:ns.length≤n:=by
  unfold OpenLaw.pre at hc;have h4:(WTm.not (.lt (.lit (.int (n:Int))) (.len (.arg 0)))).holds [] {args:=[.list (ns.map .int)]}=true:=by have h4:=(holds_andW hc).1;rw[hn]at h4;exact h4
  have h5:=condW_of h4 (w_not (w_lt w_lit (w_len_list (w_arg rfl))));rw[Zj]at h5;refine Nat.le_of_not_lt λq=>?_;have q':(n:Int)<((ns.length:Nat):Int):=by omega
  first
   | (rw[ZI q']at h5;exact absurd h5 (by decide))
   | (simp at h5;omega)
 cases hwl with
 |cons w1 w2=>
  cases w2;cases w1 with
  |list ho hall=>exact⟨_,_,ns,rfl,rfl,ho,a3G' ns _ hall,hlen⟩
theorem a9n'(l:OpenLaw)(args:List WData):l.row.toRowW.claim.post args (.bool true) args=true:=
 postW_of (r:=l.row.toRowW) (X:=(true==true))
  (show WShape.has [] (.bool true) .bool=true by first|rfl|decide|simp[WShape.has,WShape.arms,WShape.armsAll])
  (show(WTm.eq .res (.lit (.bool true))).value [] {args:=args,res:=some (.bool true),after:=args}=some (.bool (true==true))from w_eq_bool (w_res rfl) w_lit) rfl
theorem a6J'{l:OpenLaw}{d:DefRec}
  (hn:l.most=some n) (hdf:d.params.defaults=[])
  (call:∀(w:World) (s₀ s₁:Shared) (mg mb:Mg) (fa:Addr) (o:Obj) (pm cd doc:Value) (a:Addr) (vs:Lv) (ns:Li),
   Ground q loose [] XP w s₀ mg mb s₁.heap→YP w s₁.heap→
   s₁.heap.get? fa=some o→o.data=.func (docDef d.name d.params d.body d.scope pm cd doc)→s₁.heap.CodeRec cd d.name→mg d.name=some (.ref fa)→
   s₁.heap.get? a=some {cls:=.type "list",data:=.seq vs.toArray}→IntsAre vs ns→ns.length≤n→s₁.gens= #[]→
   codeAny (model l.prog w) callerA (.call (.ref fa) ⟨[.ref a],[]⟩) (λr s'=>r=.ok (.ret (.bool true))∧OldK s₁.heap s'.heap∧s'.os=s₁.os∧AllBare s'.gens) s₁):
  WalkO q loose XP YP l.row.toRowW d [] (λf vs=>PySem.call f vs):=by
 intro w s₀ s₁ mg mb G Y fa o pm cd doc dV kV ho hd hcd hD hmg hg args vals as hpre hlay hrd hwl hlo;obtain rfl:dV=.none:=Dflts.none hD hdf;obtain rfl:kV=.none:=Dflts.noKw hD;obtain⟨a,vs,ns,rfl,rfl,hobj,hints,hlen⟩:=a9m' hn hpre hwl;refine enter_call (codeAny_mono (call w s₀ s₁ mg mb fa o pm cd doc a vs ns G Y ho (fd_plain hd) hcd hmg hobj hints hlen hg) λr s' hq=>?_);obtain⟨rfl,h2,h3,h4⟩:=hq;exact⟨.inl ⟨.bool true,.bool true,[],rfl,λ_=>rfl,.bool true,a9n' l _,λ_=>⟨List.Pairwise.nil,λ_ hm=>(nomatch hm)⟩⟩,h2,h3,h4⟩
section
variable {K:Frag}
end
end Att
namespace L2
theorem a6e':∀{vs:Lv} {ns:Li},IntsAre vs ns→Vals (ns.map V.int) vs
 |_,_,.nil=>.nil
 |_,_,.cons n t h=>.cons ⟨t,rfl⟩ (a6e' h)
def Only(H:Hp):Prop:=∀b,H b=none∨∃o xs,H b=some (.frz o (.lst xs))
theorem b1f'{P:Program}{w:World}{mb:Mg}{CX:CXT}{k:Nat}{fa:Addr}{fd:FuncData}{x:Str}{sp:Sp}{s₁:Shared}{vs:Lv}{ns:Li}
  (KX:K.In s₁.heap) (hns:s₁.heap.Ns mainGlobals mg) (hb:s₁.heap.Ns builtinsNs mb) (hbb:∀x:Str,x≠"__name__"→mb x=bootBuiltins x) (hlim:s₁.heap.NoLimit) (hg:s₁.gens= #[])
  (ha:s₁.heap.get? a=some {cls:=.type "list",data:=.seq vs.toArray}) (hi:IntsAre vs ns) (hl:ns.length≤sizeLine) (hr:Room k callerA)
  (F:∀base:Heap,K.In base→base.Ns mainGlobals mg→FnOk P w K mg base CX k fa fd [x] sp) (hbind:∀(s:Shared) (u:Value),BindsTo s fd ⟨[u],[]⟩ [(x,u)])
  (hsp:∀H:Hp,Only H→SqL K H a (ns.map V.int)→sp [.ref a] H (λv _=>v=.bl true) λ_ _ _=>False)
  (hCX:∀H e s',CX [] H s₁ (λ_ _ _=>False) e s'→False):
  codeAny (model P w) callerA (.call (.ref fa) ⟨[.ref a],[]⟩) (λr s'=>r=.ok (.ret (.bool true))∧OldK s₁.heap s'.heap∧s'.os=s₁.os∧AllBare s'.gens) s₁:=by
 have rv:=a6e' hi;have lenV:=hi.length
 have core:∀H:Hp,Only H→SqL K H a (ns.map V.int)→HOk P w H s₁.heap→(∀b,H b≠none→b=a)→(H a≠none→K.lookup a=none)→
   codeAny (model P w) callerA (.call (.ref fa) ⟨[.ref a],[]⟩) (λr s'=>r=.ok (.ret (.bool true))∧OldK s₁.heap s'.heap∧s'.os=s₁.os∧AllBare s'.gens) s₁:=by
  intro H hO hS hok hA hK;have base_of:∀{b:Addr} {o:Obj},s₁.heap.get? b=some o→H b=none→(hidT s₁.heap H).get? b=some o:=λe n=>b0T' e n
  have noA:∀{b:Addr} {o:Obj} {es:Array DictEntry} {ep:Nat},s₁.heap.get? b=some o→o.data=.dict es ep→H b=none:=λ{b o es ep} e d=>by
   cases q:H b with
   |none=>rfl
   |some u=>have e':b=a:=hA b (by rw[q];simp);subst e';rw[ha]at e;cases e;have d':Data.seq vs.toArray _=Data.dict es ep:=d;cases d'
  have nsK:∀{b:Addr} {m:Mg},s₁.heap.Ns b m→(hidT s₁.heap H).Ns b m:=λ{b m} ⟨o,es,ep,e,d,r⟩=>⟨o,es,ep,base_of e (noA e d),d,r⟩
  have hKb:K.In (hidT s₁.heap H):=λb o e=>base_of (KX b o e) (by
   cases q:H b with
   |none=>rfl
   |some u=>have e':b=a:=hA b (by rw[q];simp);subst e';rw[hK (by rw[q];simp)]at e;cases e)
  have hM:Mod K mg (hidT s₁.heap H):=⟨hKb,nsK hns,⟨mb,nsK hb,hbb⟩,let⟨mc,h1,h2⟩:=hlim;⟨mc,nsK h1,h2⟩⟩;have e0:Env0 P w K mg (hidT s₁.heap H) callerA [] s₁ H:=⟨rfl,hM,λb o e=>of_hidT e,Nat.le_of_eq (a9c' _ _),trivial,λb hb=>absurd (show b∈([]:La)from hb) (by simp),hok,.of_eq hg⟩;refine codeAny_mono ((F _ hKb (nsK hns)).run callerA [] s₁ H ⟨[.ref a],[]⟩ [.ref a] [.ref a] _ _ hr e0 (hbind s₁ (.ref a)) (.cons rfl .nil) (hsp H hO hS)) λr s' h=>?_;cases r with
  |error e=>exact(hCX H e s' h).elim
  |ok fl=>
   cases fl with
   |next=>exact False.elim h
   |brk=>exact False.elim h
   |cont=>exact False.elim h
   |ret u=>
    obtain⟨v,H',os,bare,un,hok',r',q⟩:=h;have q':v=.bl true:=q;subst q';obtain rfl:u=Value.bool true:=r';refine⟨rfl,OldK.of_keep λb o e=>?_,os,bare⟩;cases q:H b with
    |none=>exact un.keep b o e q (by intro z;exact absurd (show b∈([]:La)from z) (by simp)) (by simp)
    |some u=>
     rcases hO b with z| ⟨ob,xs,z⟩
     ·rw[q]at z;cases z
     ·have z2:=un.frzs b ob _ z;obtain⟨e1,_⟩:=hok b _ z;obtain⟨e2,_⟩:=hok' b _ z2;rw[e]at e1;cases e1;exact e2
 cases hk:K.lookup a with
 |some o=>have e:=KX a o hk;rw[ha]at e;cases e;refine core (λ_=>none) (λ_=>.inl rfl) (.inr ⟨_,vs.toArray,_,hk,rfl,rfl,rfl,by rw[Zi,lenV];exact hl,by simpa using rv⟩) (λb u z=>by have z':(none:Option HO)=some u:=z;cases z') (λb z=>absurd rfl z) λz=>absurd rfl z
 |none=>
  refine core (λb=>if b=a then some (.frz {cls:=.type "list",data:=.seq vs.toArray} (.lst (ns.map V.int)))else none) (λb=>?_) (.inl (.inr ⟨{cls:=.type "list",data:=.seq vs.toArray},if_pos rfl⟩)) (λb u z=>?_) (λb z=>?_) λ_=>hk
  ·by_cases hb:b=a
   ·exact .inr ⟨_,_,if_pos hb⟩
   ·exact .inl (if_neg hb)
  ·by_cases hb:b=a
   ·have z':=(if_pos hb).symm.trans z;cases z';subst hb;exact⟨ha,by rw[Zj];exact hl,vs,_,rv,ha⟩
   ·have z':=(if_neg hb).symm.trans z;cases z'
  ·by_cases hb:b=a
   ·exact hb
   ·exact absurd (if_neg hb) z
theorem walk_of{l:PySem.W.OpenLaw}{d:DefRec}{K:Params→Fg}{CX:World→CXT}{sp:World→Sp}{x:Str}
  (hn:l.most=some n) (hn2:n≤sizeLine) (hdf:d.params.defaults=[]) (hr:Room k callerA)
  (hY:∀(w:World) (h:Heap),YP w h→(K w.params).In h)
  (F:∀(w:World) (mg:Mg) (fa:Addr) (h:Heap),(K w.params).In h→h.Ns mainGlobals mg→mg d.name=some (.ref fa)→
   ∃fd:FuncData,(∀(s:Shared) (u:Value),BindsTo s fd ⟨[u],[]⟩ [(x,u)])∧
    ∀base:Heap,(K w.params).In base→base.Ns mainGlobals mg→FnOk l.prog w (K w.params) mg base (CX w) k fa fd [x] (sp w))
  (hsp:∀(w:World) (H:Hp) (a:Addr) (ns:Li),ns.length≤n→Only H→SqL (K w.params) H a (ns.map V.int)→sp w [.ref a] H (λv _=>v=.bl true) λ_ _ _=>False)
  (hCX:∀(w:World) (H:Hp) (s:Shared) (e:Value) (s':Shared),CX w [] H s (λ_ _ _=>False) e s'→False):
  PySem.W.WalkO q loose XP YP l.row.toRowW d [] (λf vs=>PySem.call f vs):=by
 refine Att.a6J' hn hdf λw s₀ s₁ mg mb fa o pm cd doc a vs ns G Y ho hd hcd hmg hobj hints hlen hg=>?_;have KX:=hY w _ Y;obtain⟨fd,hb,hF⟩:=F w mg fa _ KX G.T.g hmg;exact b1f' KX G.T.g G.T.b G.T.builtins G.T.nolimit hg hobj hints (ZS hlen hn2) hr hF hb (λH hO hS=>hsp w H a ns hlen hO hS) λH e s'=>hCX w H s₁ e s'
noncomputable def a3f'(s:Stmt):Arguments:=match s with
 | .FunctionDef _ a _ _ _ _ _ _ _ _=>a
 |_=>{posonlyargs:=[],args:=[],vararg:=none,kwonlyargs:=[],kw_defaults:=[],kwarg:=none,defaults:=[]}
noncomputable def a0Q'(s:Stmt):List Stmt:=match s with
 | .FunctionDef _ _ b _ _ _ _ _ _ _=>b
 |_=>[]
noncomputable def a0o'(s:Stmt):Scope:=match s with
 | .FunctionDef _ _ _ _ _ _ sc _ _ _=>sc
 |_=>{kind:=.function,names:=[],isGenerator:=false,isCoroutine:=false}
abbrev E0:XK:=λ_ _ _=>False
structure Fun (K:Fg)(x qual:Str)(st:Stmt)(f:Addr)(fd:FuncData):Prop where
 ex:∃(oc:Value) (od:Option Addr) (kV doc pm:Value) (an:Option Addr) (cdv ct:Value) (osl:Array (Ov)),
  fd=PySem.W.fnOf x qual (a3f' st) (a0Q' st) (a0o' st) .none kV doc pm an cdv ct∧K.lookup f=some ⟨oc,od,.func fd,osl⟩∧PySem.W.codeIn K cdv qual=true
 kp:PySem.W.keepIn K (.ref f)=true
theorem Fun.binds{x:Str}{fd:FuncData}(F:Fun K x qual st f fd)
  (h:∀(kV doc pm:Value) (an:Option Addr) (cdv ct:Value) (us:Lv),us.length=ps.length→bindArgs (PySem.W.fnOf x qual (a3f' st) (a0Q' st) (a0o' st) .none kV doc pm an cdv ct) ⟨us,[]⟩=pure (ps.zip us)):Binds K fd ps []:=by
 obtain⟨oc,od,kV,doc,pm,an,cdv,ct,osl,rfl,lk,hcd⟩:=F.ex;exact .all (h kV doc pm an cdv ct)
theorem fun_mk{x:Str}{an:Option Addr}{kV:Value}(l:K.lookup f=some ⟨oc,od,.func (PySem.W.fnOf x qual (a3f' st) (a0Q' st) (a0o' st) .none kV doc pm an cdv ct),osl⟩)
  (c:PySem.W.codeIn K cdv qual=true) (k:PySem.W.keepIn K (.ref f)=true):Fun K x qual st f (PySem.W.fnOf x qual (a3f' st) (a0Q' st) (a0o' st) .none kV doc pm an cdv ct):=⟨⟨oc,od,kV,doc,pm,an,cdv,ct,osl,rfl,l,c⟩,k⟩
section
variable {X:Cx}
end
end L2
variable {H H' H1 H0 Hx:L2.Hp}{X:L2.Cx}{σ σ':L2.St}{v:L2.V}{ta te tc to:L2.TE}{R:L2.It→L2.Hp→Prop}{wi:L2.TI}{CX:L2.CXT}{sp:L2.Sp}{J:L2.It}{u':L2.HO}{B:La→L2.Hp→Prop}
namespace Py
theorem ex43{C:Prop}{a b c d:Sort _}{p q r:a→b→c→d→Prop}(h:∃x y z w,p x y z w∧q x y z w∧r x y z w)(k:∀x y z w,p x y z w→q x y z w→r x y z w→C):C:=by obtain⟨x,y,z,w,h1,h2,h3⟩:=h;exact k x y z w h1 h2 h3
theorem ex93{C:Prop}{a b c d e f g h i:Sort _}{p q r:a→b→c→d→e→f→g→h→i→Prop}(z:∃x1 x2 x3 x4 x5 x6 x7 x8 x9,p x1 x2 x3 x4 x5 x6 x7 x8 x9∧q x1 x2 x3 x4 x5 x6 x7 x8 x9∧r x1 x2 x3 x4 x5 x6 x7 x8 x9)(k:∀x1 x2 x3 x4 x5 x6 x7 x8 x9,p x1 x2 x3 x4 x5 x6 x7 x8 x9→q x1 x2 x3 x4 x5 x6 x7 x8 x9→r x1 x2 x3 x4 x5 x6 x7 x8 x9→C):C:=by obtain⟨x1,x2,x3,x4,x5,x6,x7,x8,x9,h1,h2,h3⟩:=z;exact k x1 x2 x3 x4 x5 x6 x7 x8 x9 h1 h2 h3
theorem ex34{C:Prop}{a b c:Sort _}{p q r t:a→b→c→Prop}(h:∃x y z,p x y z∧q x y z∧r x y z∧t x y z)(k:∀x y z,p x y z→q x y z→r x y z→t x y z→C):C:=by obtain⟨x,y,z,h1,h2,h3,h4⟩:=h;exact k x y z h1 h2 h3 h4
inductive D where
 |non|bl (b:Bool)|int (i:Int)|str (x:Str)
 |tup (xs:List D)|lst (xs:List D)|ref (n:Nat)|scr (xs:List D)
 |fn (x:Str)|dct|ty (n:String)|dks (ks:List (Li))
 deriving Inhabited
abbrev Store:=List (List D)
structure GS where
 mg:Mg
 F:La
noncomputable def Frz(K:Fg)(H:Hp)(a:Addr)(vs:List V):Prop:=(∃o,H a=some (.frz o (.lst vs)))∨
 ∃(o:Obj) (its:Av) (n:Nat),K.lookup a=some o∧o.cls=.type "list"∧o.dict=none∧o.data=.seq its n∧its.size≤sizeLine∧Vals vs its.toList
theorem Frz.sq{vs:List V}(h:Frz K H a vs):SqL K H a vs:=by
 rcases h with⟨o,h⟩|h
 ·exact .inl (.inr ⟨o,h⟩)
 ·exact .inr h
noncomputable def hD(k:Li):Int:=reduceHash (Builtin.Tuple.tupleHashOf (k.map hashInt))
noncomputable def ObD(h:Heap)(a:Addr)(cs:List (Li×Addr)):Prop:=(a==sysModules)=false∧∃o es ep,h.get? a=some o∧o.ExactDict∧o.data=.dict es ep∧es.toList=cs.map λc=>⟨hD c.1,.ref c.2,.bool true⟩
section
variable (K:Fg)(mg:GS)(μ:La)(H:Hp)
mutual
def Rep:D→V→Prop
 | .non,v=>v=.non
 | .bl b,v=>v=.bl b
 | .int i,v=>v=.int i
 | .str x,v=>v=.str x
 | .tup ds,v=>∃a vs,v=.ref a∧SqT K H a vs∧RepL ds vs
 | .lst ds,v=>∃a vs,v=.ref a∧H a=some (.lst vs)∧(a∉μ∧a∉mg.F)∧RepL ds vs
 | .scr ds,v=>∃a vs,v=.ref a∧Frz K H a vs∧RepL ds vs
 | .ref n,v=>∃a,v=.ref a∧μ[n]?=some a
 | .fn x,v=>∃a,v=.ref a∧mg.mg x=some (.ref a)
 | .dct,v=>∃a,v=.ref a∧H a=some (.dK [])
 | .ty n,v=>v=.ty n
 | .dks ks,v=>∃a cs,v=.ref a∧H a=some (.ext λh=>ObD h a cs)∧a∉mg.F∧(cs.map (·.1)=ks∧ks.Nodup)∧∀c∈cs,SqT K H c.2 (c.1.map V.int)
def RepL:List D→List V→Prop
 | [],vs=>vs=[]
 |d::ds,vs=>∃w ws,vs=w::ws∧Rep d w∧RepL ds ws
end
end
structure SOk (K:Fg)(mg:GS)(μ:La)(S:Store)(H:Hp):Prop where
 live:∀a∈mg.F,∃o,H a=some o
 len:μ.length=S.length
 nd:μ.Nodup
 at_:∀(n:Nat) (a:Addr) (ds:List D),μ[n]?=some a→S[n]?=some ds→∃vs,H a=some (.lst vs)∧RepL K mg μ H ds vs
structure Ext (μ:La)(H:Hp)(μ':La)(H':Hp):Prop where
 pre:∃r,μ'=μ++r
 keep:∀a o,H a=some o→((∀xs,o≠.lst xs)∨a∉μ)→H' a=some o
 there:∀a o,H a=some o→∃o',H' a=some o'
 fresh:∀a∈μ',a∈μ∨H a=none
section
variable {mg:GS}{μ'':La}{H'':Hp}
theorem Ext.refl:Ext μ H μ H:=⟨⟨[],by simp⟩,λ_ _ h _=>h,λ_ o h=>⟨o,h⟩,λ_ h=>.inl h⟩
theorem Ext.trans(a:Ext μ H μ' H')(b:Ext μ' H' μ'' H''):Ext μ H μ'' H'':=by
 obtain⟨r,e⟩:=a.pre;obtain⟨r',e'⟩:=b.pre;refine⟨⟨r++r',by rw[e',e,List.append_assoc]⟩,λx o h c=>?_,λx o h=>?_,λx h=>?_⟩
 ·have h1:=a.keep x o h c;refine b.keep x o h1 ?_;rcases c with c|c
  ·exact .inl c
  ·refine .inr λz=>?_;rcases a.fresh x z with z|z
   ·exact c z
   ·rw[h]at z;cases z
 ·obtain⟨o1,h1⟩:=a.there x o h;exact b.there x o1 h1
 ·rcases b.fresh x h with h|h
  ·exact a.fresh x h
  ·refine .inr ?_;cases e:H x with
   |none=>rfl
   |some o=>obtain⟨o1,h1⟩:=a.there x o e;rw[h1]at h;cases h
theorem Ext.sqT{vs:List V}(x:Ext μ H μ' H')(h:SqT K H a vs):SqT K H' a vs:=by
 rcases h with(h| ⟨o,h⟩)|h
 ·exact .inl (.inl (x.keep _ _ h (.inl λ_ z=>by cases z)))
 ·exact .inl (.inr ⟨o,x.keep _ _ h (.inl λ_ z=>by cases z)⟩)
 ·exact .inr h
theorem Ext.frz{vs:List V}(x:Ext μ H μ' H')(h:Frz K H a vs):Frz K H' a vs:=by
 rcases h with⟨o,h⟩|h
 ·exact .inl ⟨o,x.keep _ _ h (.inl λ_ z=>by cases z)⟩
 ·exact .inr h
theorem Ext.lst{vs:List V}(x:Ext μ H μ' H')(h:H a=some (.lst vs))(ha:a∉μ):H' a=some (.lst vs)∧a∉μ':=by
 refine⟨x.keep _ _ h (.inr ha),λz=>?_⟩;rcases x.fresh a z with z|z
 ·exact ha z
 ·rw[h]at z;cases z
theorem Ext.get(x:Ext μ H μ' H')(h:μ[n]?=some a):μ'[n]?=some a:=by obtain⟨r,rfl⟩:=x.pre;rw[Zp (Zh.mp h).1];exact h
mutual
theorem Rep.mono(x:Ext μ H μ' H'):∀(d:D) (v:V),Rep K mg μ H d v→Rep K mg μ' H' d v
 | .non,_,h=>h
 | .bl _,_,h=>h
 | .int _,_,h=>h
 | .str _,_,h=>h
 | .tup ds,v,h=>by unfold Rep at h⊢;obtain⟨a,vs,e,q,r⟩:=h;exact⟨a,vs,e,x.sqT q,RepL.mono x ds vs r⟩
 | .lst ds,v,h=>by unfold Rep at h⊢;obtain⟨a,vs,e,q,n,r⟩:=h;exact⟨a,vs,e,(x.lst q n.1).1,⟨(x.lst q n.1).2,n.2⟩,RepL.mono x ds vs r⟩
 | .scr ds,v,h=>by unfold Rep at h⊢;obtain⟨a,vs,e,q,r⟩:=h;exact⟨a,vs,e,x.frz q,RepL.mono x ds vs r⟩
 | .ref n,v,h=>by unfold Rep at h⊢;obtain⟨a,e,q⟩:=h;exact⟨a,e,x.get q⟩
 | .fn y,v,h=>h
 | .ty y,v,h=>h
 | .dct,v,h=>by unfold Rep at h⊢;obtain⟨a,e,q⟩:=h;exact⟨a,e,x.keep _ _ q (.inl λ_ z=>by cases z)⟩
 | .dks ks,v,h=>by unfold Rep at h⊢;obtain⟨a,cs,e,q,n,r,k⟩:=h;exact⟨a,cs,e,x.keep _ _ q (.inl λ_ z=>by cases z),n,r,λc hc=>x.sqT (k c hc)⟩
theorem RepL.mono(x:Ext μ H μ' H'):∀(ds:List D) (vs:List V),RepL K mg μ H ds vs→RepL K mg μ' H' ds vs
 | [],vs,h=>h
 |d::ds,vs,h=>by unfold RepL at h⊢;obtain⟨w,ws,e,r,q⟩:=h;exact⟨w,ws,e,Rep.mono x d w r,RepL.mono x ds ws q⟩
end
theorem RepL.length:∀{ds:List D} {vs:List V},RepL K mg μ H ds vs→ds.length=vs.length
 | [],vs,h=>by unfold RepL at h;subst h;rfl
 |d::ds,vs,h=>by unfold RepL at h;obtain⟨w,ws,rfl,r,q⟩:=h;simp[RepL.length q]
theorem RepL.get:∀{ds:List D} {vs:List V} {i:Nat} {d:D},RepL K mg μ H ds vs→ds[i]?=some d→∃v,vs[i]?=some v∧Rep K mg μ H d v
 | [],vs,i,d,h,e=>by simp at e
 |c::ds,vs,i,d,h,e=>by
  unfold RepL at h;obtain⟨w,ws,rfl,r,q⟩:=h;cases i with
  |zero=>simp at e;subst e;exact⟨w,rfl,r⟩
  |succ i=>simpa using RepL.get q (by simpa using e)
theorem RepL.of:∀{ds:List D} {vs:List V},ds.length=vs.length→(∀(i:Nat) d v,ds[i]?=some d→vs[i]?=some v→Rep K mg μ H d v)→RepL K mg μ H ds vs
 | [],[],_,_=>by unfold RepL;rfl
 | [],_::_,h,_=>by simp at h
 |_::_,[],h,_=>by simp at h
 |d::ds,v::vs,h,k=>by unfold RepL;exact⟨v,vs,rfl,k 0 d v rfl rfl,RepL.of (by simpa using h) λi d' v' h1 h2=>k (i+1) d' v' (by simpa using h1) (by simpa using h2)⟩
theorem RepL.nil:RepL K mg μ H [] []:=by unfold RepL;rfl
theorem RepL.cons{d:D}{ds:List D}{vs:List V}(h:Rep K mg μ H d v)(t:RepL K mg μ H ds vs):RepL K mg μ H (d::ds) (v::vs):=by unfold RepL;exact⟨v,vs,rfl,h,t⟩
theorem RepL.uncons{d:D}{ds:List D}{vs:List V}(h:RepL K mg μ H (d::ds) vs):∃v ws,vs=v::ws∧Rep K mg μ H d v∧RepL K mg μ H ds ws:=by unfold RepL at h;exact h
theorem RepL.append:∀{ds es:List D} {vs ws:List V},RepL K mg μ H ds vs→RepL K mg μ H es ws→RepL K mg μ H (ds++es) (vs++ws)
 | [],es,vs,ws,h,k=>by unfold RepL at h;subst h;exact k
 |d::ds,es,vs,ws,h,k=>by obtain⟨v,us,rfl,r,q⟩:=h.uncons;exact .cons r (RepL.append q k)
theorem RepL.take:∀{ds:List D} {vs:List V} (n:Nat),RepL K mg μ H ds vs→RepL K mg μ H (ds.take n) (vs.take n)
 | [],vs,n,h=>by unfold RepL at h;subst h;simpa using RepL.nil
 |d::ds,vs,0,h=>by simpa using RepL.nil
 |d::ds,vs,n+1,h=>by obtain⟨v,us,rfl,r,q⟩:=h.uncons;exact .cons r (RepL.take n q)
theorem RepL.drop:∀{ds:List D} {vs:List V} (n:Nat),RepL K mg μ H ds vs→RepL K mg μ H (ds.drop n) (vs.drop n)
 | [],vs,n,h=>by unfold RepL at h;subst h;simpa using RepL.nil
 |d::ds,vs,0,h=>h
 |d::ds,vs,n+1,h=>by obtain⟨v,us,rfl,r,q⟩:=h.uncons;exact RepL.drop n q
theorem Ext.laid{p:Addr}{o:HO}(hp:H p=none):Ext μ H μ (upd H p o):=
 ⟨⟨[],by simp⟩,λa u h _=>by rw[a0p' (a0j' h hp)];exact h,λa u h=>⟨u,by rw[a0p' (a0j' h hp)];exact h⟩,λ_ h=>.inl h⟩
theorem SOk.notin{S:Store}{p:Addr}(s:SOk K mg μ S H)(hp:H p=none):p∉μ:=λz=>by
 obtain⟨n,hn,e⟩:=ZQ.mp z;have e1:μ[n]?=some p:=by rw[Zm hn,e]
 have e2:S[n]?=some (S[n]'(by rw[←s.len];exact hn)):=Zm _;obtain⟨vs,h,_⟩:=s.at_ n p _ e1 e2;rw[hp]at h;cases h
theorem SOk.notF{S:Store}{p:Addr}(s:SOk K mg μ S H)(hp:H p=none):p∉mg.F:=λz=>by obtain⟨o,h⟩:=s.live p z;rw[hp]at h;cases h
theorem SOk.laid{S:Store}{p:Addr}{o:HO}(s:SOk K mg μ S H)(hp:H p=none):SOk K mg μ S (upd H p o):=by refine⟨λa h=>(Ext.laid (μ:=μ) hp).there a _ (s.live a h).choose_spec,s.len,s.nd,λn a ds h1 h2=>?_⟩;obtain⟨vs,h,r⟩:=s.at_ n a ds h1 h2;exact⟨vs,by rw[a0p' (a0j' h hp)];exact h,RepL.mono (Ext.laid hp) _ _ r⟩
theorem Ext.boxed{p:Addr}{o:HO}(hp:H p=none):Ext μ H (μ++[p]) (upd H p o):=
 ⟨⟨[p],rfl⟩,λa u h _=>by rw[a0p' (a0j' h hp)];exact h,λa u h=>⟨u,by rw[a0p' (a0j' h hp)];exact h⟩,λa h=>by
  rcases ZX.mp h with h|h
  ·exact .inl h
  ·have:a=p:=by simpa using h
   subst this;exact .inr hp⟩
theorem SOk.boxed{S:Store}{p:Addr}{ds:List D}{vs:List V}(s:SOk K mg μ S H)(hp:H p=none)(r:RepL K mg μ H ds vs):
  SOk K mg (μ++[p]) (S++[ds]) (upd H p (.lst vs)):=by
 have np:=s.notin hp;refine⟨λa h=>(Ext.laid (μ:=μ) hp).there a _ (s.live a h).choose_spec,by simp[s.len],?_,λn a es h1 h2=>?_⟩
 ·rw[List.nodup_append]
  exact⟨s.nd,by simp,λa ha b hb=>by
   have:b=p:=by simpa using hb
   subst this;intro z;subst z;exact np ha⟩
 ·by_cases hn:n<μ.length
  ·rw[Zp hn]at h1;rw[Zp (by rw[←s.len];exact hn)]at h2;obtain⟨ws,h,q⟩:=s.at_ n a es h1 h2;exact⟨ws,by rw[a0p' (a0j' h hp)];exact h,RepL.mono (Ext.boxed hp) _ _ q⟩
  ·have hl:=s.len;have e1:n=μ.length:=by have:=(Zh.mp h1).1;simp at this;omega
   subst e1;rw[Zs (Zk _)]at h1;rw[Zs (by omega)]at h2;simp[hl]at h1 h2;subst h1;subst h2;exact⟨vs,a0y',RepL.mono (Ext.boxed hp) _ _ r⟩
theorem Ext.wrote{xs:List V}{ys:List V}(ha:a∈μ)(h:H a=some (.lst xs)):Ext μ H μ (upd H a (.lst ys)):=by
 refine⟨⟨[],by simp⟩,λb o e c=>?_,λb o e=>?_,λ_ h=>.inl h⟩
 ·have:b≠a:=by
   rintro rfl;rw[h]at e;cases e;rcases c with c|c
   ·exact c _ rfl
   ·exact c ha
  rw[a0p' this];exact e
 ·by_cases z:b=a
  ·subst z;exact⟨_,a0y'⟩
  ·exact⟨o,by rw[a0p' z];exact e⟩
theorem SOk.wrote{S:Store}{ds:List D}{xs vs:List V}(s:SOk K mg μ S H)(hn:μ[n]?=some a)(h:H a=some (.lst xs))(r:RepL K mg μ H ds vs):
  SOk K mg μ (S.set n ds) (upd H a (.lst vs)):=by
 have ha:a∈μ:=Zv hn;have hl:=s.len;have hnl:n<S.length:=by have:=(Zh.mp hn).1;omega
 refine⟨λb hb=>(Ext.wrote (μ:=μ) (ys:=vs) ha h).there b _ (s.live b hb).choose_spec,by simp[hl],s.nd,λm b es h1 h2=>?_⟩;by_cases e:m=n
 ·subst e;rw[hn]at h1;cases h1;rw[List.getElem?_set_self hnl]at h2;cases h2;exact⟨vs,a0y',RepL.mono (Ext.wrote ha h) _ _ r⟩
 ·rw[ZR (Ne.symm e)]at h2;obtain⟨ws,q,r'⟩:=s.at_ m b es h1 h2;have:b≠a:=by rintro rfl;exact e (L2_nodup s.nd h1 hn)
  exact⟨ws,by rw[a0p' this];exact q,RepL.mono (Ext.wrote ha h) _ _ r'⟩
where
 L2_nodup {l:La} (nd:l.Nodup) {i j:Nat} {x:Addr} (a:l[i]?=some x) (b:l[j]?=some x):i=j:=by obtain⟨h1,e1⟩:=Zh.mp a;obtain⟨h2,e2⟩:=Zh.mp b;exact(List.getElem_inj nd).mp (e1.trans e2.symm)
end
end Py
variable {xs ys ds:List Py.D}{T S S1 S' S5:Py.Store}{d v8:Py.D}{Γ:Str→Option Py.D}{O:Addr→List Py.D→List L2.V→L2.HO→Prop}{x2 x3 x4 x5:Option Py.D}
namespace Py
open PySem.Sem (wp)
open PySem.Builtin
end Py
namespace Py
structure Exc where
 cls:Str
 fs:List D
inductive Res (α:Type) where
 |ok (a:α) (S:Store)
 |err (x:Exc) (S:Store)
 |fail
abbrev big:Nat:=16777216
theorem a7y':sizeLine=big:=sizeLine_eq
def Want(K:Fg)(mg:GS)(μ:La)(H:Hp)(Q:VK):Res D→Prop
 | .ok d S'=>∀μ' H' v,Ext μ H μ' H'→SOk K mg μ' S' H'→Rep K mg μ' H' d v→Q v H'
 |_=>False
section
variable {mg:GS}{Q:VK}
theorem Want.now(w:Want K mg μ H Q (.ok d S))(s:SOk K mg μ S H)(r:Rep K mg μ H d v):Q v H:=w μ H v .refl s r
theorem Want.tup{vs:List V}(w:Want K mg μ H Q (.ok (.tup ds) S))(s:SOk K mg μ S H)(r:RepL K mg μ H ds vs)(p:Addr)(hp:H p=none):Q (.ref p) (upd H p (.tup vs)):=
 w μ _ _ (.laid hp) (s.laid hp) (by unfold Rep;exact⟨p,vs,rfl,SqT.of a0y',RepL.mono (.laid hp) _ _ r⟩)
theorem Want.lst{vs:List V}(w:Want K mg μ H Q (.ok (.lst ds) S))(s:SOk K mg μ S H)(r:RepL K mg μ H ds vs)(p:Addr)(hp:H p=none):Q (.ref p) (upd H p (.lst vs)):=
 w μ _ _ (.laid hp) (s.laid hp) (by unfold Rep;exact⟨p,vs,rfl,a0y',⟨s.notin hp,s.notF hp⟩,RepL.mono (.laid hp) _ _ r⟩)
theorem Want.box{vs:List V}(w:Want K mg μ H Q (.ok (.ref S.length) (S++[ds])))(s:SOk K mg μ S H)(r:RepL K mg μ H ds vs)(p:Addr)(hp:H p=none):Q (.ref p) (upd H p (.lst vs)):=
 w (μ++[p]) _ _ (.boxed hp) (s.boxed hp r) (by unfold Rep;exact⟨p,rfl,by rw[Zs (by rw[s.len];exact Zk _),s.len];simp⟩)
theorem Want.wrote{xs vs:List V}(w:Want K mg μ H Q (.ok d (S.set n ds)))(s:SOk K mg μ S H)(hn:μ[n]?=some a)(h:H a=some (.lst xs))(r:RepL K mg μ H ds vs)
  (rd:Rep K mg μ H d v):Q v (upd H a (.lst vs)):=
 w μ _ _ (.wrote (Zv hn) h) (s.wrote hn h r) (Rep.mono (.wrote (Zv hn) h) _ _ rd)
noncomputable def a2Q'(S:Store):D→Option (List D)
 | .lst xs=>some xs
 | .ref n=>S[n]?
 |_=>none
noncomputable def seqOf(S:Store):D→Option (List D)
 | .lst xs=>some xs
 | .ref n=>S[n]?
 | .tup xs=>some xs
 | .scr xs=>some xs
 |_=>none
theorem a0O'(s:SOk K mg μ S H)(r:Rep K mg μ H d v)(e:a2Q' S d=some xs):∃a vs,v=.ref a∧H a=some (.lst vs)∧RepL K mg μ H xs vs:=by
 cases d with
 |lst ys=>unfold a2Q' at e;cases e;unfold Rep at r;obtain⟨a,vs,e,h,_,q⟩:=r;exact⟨a,vs,e,h,q⟩
 |ref n=>unfold a2Q' at e;unfold Rep at r;obtain⟨a,e1,h⟩:=r;obtain⟨vs,h1,q⟩:=s.at_ n a xs h e;exact⟨a,vs,e1,h1,q⟩
 |_=>cases e
theorem a3N'(s:SOk K mg μ S H)(r:Rep K mg μ H d v)(e:seqOf S d=some xs):∃a vs,v=.ref a∧(SqL K H a vs∨SqT K H a vs)∧RepL K mg μ H xs vs:=by
 cases d with
 |lst ys=>obtain⟨a,vs,e1,h,q⟩:=a0O' s r (show a2Q' S (.lst ys)=some xs from e);exact⟨a,vs,e1,.inl (.of h),q⟩
 |ref n=>obtain⟨a,vs,e1,h,q⟩:=a0O' s r (show a2Q' S (.ref n)=some xs from e);exact⟨a,vs,e1,.inl (.of h),q⟩
 |tup ys=>unfold seqOf at e;cases e;unfold Rep at r;obtain⟨a,vs,e,h,q⟩:=r;exact⟨a,vs,e,.inr h,q⟩
 |scr ys=>unfold seqOf at e;cases e;unfold Rep at r;obtain⟨a,vs,e,h,q⟩:=r;exact⟨a,vs,e,.inl h.sq,q⟩
 |_=>cases e
theorem a0a'{i:Int}(r:Rep K mg μ H (.int i) v):v=.int i:=by unfold Rep at r;exact r
theorem a4H'{i:Bool}(r:Rep K mg μ H (.bl i) v):v=.bl i:=by unfold Rep at r;exact r
theorem a2E'{i:Str}(r:Rep K mg μ H (.str i) v):v=.str i:=by unfold Rep at r;exact r
theorem a3g'(r:Rep K mg μ H .non v):v=.non:=by unfold Rep at r;exact r
theorem a0r'(r:Rep K mg μ H (.tup ds) v):∃a vs,v=.ref a∧SqT K H a vs∧RepL K mg μ H ds vs:=by unfold Rep at r;exact r
theorem a0L'{i:Int}:Rep K mg μ H (.int i) (.int i):=by unfold Rep;rfl
theorem repBl{i:Bool}:Rep K mg μ H (.bl i) (.bl i):=by unfold Rep;rfl
theorem repStr{i:Str}:Rep K mg μ H (.str i) (.str i):=by unfold Rep;rfl
theorem a9o':Rep K mg μ H .non .non:=by unfold Rep;rfl
end
def rD(K:Fg)(mg:Mg)(g:D→D→Store→Res D):R2:=λx y H Q=>∃F μ S d e,SOk K ⟨mg,F⟩ μ S H∧Rep K ⟨mg,F⟩ μ H d x∧Rep K ⟨mg,F⟩ μ H e y∧Want K ⟨mg,F⟩ μ H Q (g d e S)
noncomputable def addD(d e:D)(S:Store):Res D:=match d,e with
 | .int i,.int j=>.ok (.int (i+j)) S
 | .str x,.str y=>if x.length+y.length≤big then .ok (.str (x++y)) S else .fail
 | .tup a,.tup b=>if a.length+b.length≤big then .ok (.tup (a++b)) S else .fail
 |d,e=>match a2Q' S d,a2Q' S e with
  |some a,some b=>if a.length+b.length≤big then .ok (.lst (a++b)) S else .fail
  |_,_=>.fail
noncomputable def subD(d e:D)(S:Store):Res D:=match d,e with
 | .int i,.int j=>.ok (.int (i-j)) S
 |_,_=>.fail
noncomputable def mulD(d e:D)(S:Store):Res D:=match d,e with
 | .int i,.int j=>if(-(2^64)<i∧i<2^64)∨(-(2^64)<j∧j<2^64)then .ok (.int (i*j)) S else if Builtin.Int.intBits i≤100000∧Builtin.Int.intBits j≤100000 then .ok (.int (i*j)) S else .fail
 | .lst a,.int k=>if-(2^63)≤k∧k<2^63∧a.length*k.toNat≤big then .ok (.lst (List.replicate k.toNat a).flatten) S else .fail
 |_,_=>.fail
theorem b1g':OpR X (binaryOp .FloorDiv) (rI (λ_ j=>0<j∧j<2^100) λi j=>.int (i/j)):=opI λi j _ _ _ _ _ hc q=>by
 have h1:(0:Int)<j:=hc.1;have h2:j<2^100:=hc.2;refine floordiv_int (by omega) (by rw[Int.fdiv_eq_ediv_of_nonneg i (by omega)];exact q) (.inl (PyProof.noPylong_of_log2 ?_));have h3:j.natAbs<2^100:=by omega
 exact Nat.lt_trans ((Nat.log2_lt (by omega)).mpr h3) (by decide)
noncomputable def fdivD(d e:D)(S:Store):Res D:=match d,e with
 | .int i,.int j=>if 0<j∧j<1073741824 then .ok (.int (i/j)) S else if 0<j∧j<2^100 then .ok (.int (i/j)) S else .fail
 |_,_=>.fail
noncomputable def modD(d e:D)(S:Store):Res D:=match d,e with
 | .int i,.int j=>if 0<j then .ok (.int (i%j)) S else .fail
 |_,_=>.fail
noncomputable def shrD(d e:D)(S:Store):Res D:=match d,e with
 | .int i,.int j=>if 0≤j then .ok (.int (i/2^j.toNat)) S else .fail
 |_,_=>.fail
noncomputable def shlD(d e:D)(S:Store):Res D:=match d,e with
 | .int i,.int j=>if i=1∧0≤j∧j<1000 then .ok (.int (2^j.toNat)) S else .fail
 |_,_=>.fail
noncomputable def andD(d e:D)(S:Store):Res D:=match d,e with
 | .int i,.int j=>.ok (.int (Builtin.bitAnd i j)) S
 |_,_=>.fail
noncomputable def orD(d e:D)(S:Store):Res D:=match d,e with
 | .int i,.int j=>.ok (.int (Builtin.bitOr i j)) S
 |_,_=>.fail
noncomputable def opD:Operator→D→D→Store→Res D
 | .Add=>addD| .Sub=>subD| .Mult=>mulD| .FloorDiv=>fdivD| .Mod=>modD| .Pow=>λ_ _ _=>.fail | .RShift=>shrD| .LShift=>shlD| .BitAnd=>andD| .BitOr=>orD
 |_=>λ_ _ _=>.fail
theorem b1h'{t b:Addr}{ws:Lv}(ht:IsTup s.heap t #[])(hb:IsTup s.heap b ws.toArray)
  (h1:Q (.ref b) s):wpAny (model prog w) A (binaryOp .Add (.ref t) (.ref b)) Q E s:=by
 obtain⟨⟨cls,dd,data,sl⟩,ho,hc,n,hd⟩:=id ht;obtain⟨⟨cls2,dd2,data2,sl2⟩,ho2,hc2,n2,hd2⟩:=id hb;simp only at hc hd hc2 hd2;subst hc hd hc2 hd2
 exact concat_meets ⟨_,ho,rfl⟩ ⟨_,ho2,rfl⟩ noFill_tuple_add seq_tuple_add PySem.F.slot_tuple_add PySem.F.entry_tuple_add (PySem.F.args_tuple_add_2 _ _)
   (tuple_addW0 t b #[] ws.toArray n n2 dd dd2 sl sl2 rfl) ⟨ho,ho2,h1⟩
theorem b1i':OpR X (binaryOp .Add) (λx y H Q=>∃a b ys,x=.ref a∧y=.ref b∧SqT X.K H a []∧SqT X.K H b ys∧Q (.ref b) H):=by intro pq s σ H x y v u Q I rx ry h;obtain⟨a,b,ys,rfl,rfl,ha,hb,q⟩:=h;cases rx;cases ry;obtain⟨its,r,pa,_⟩:=I.tuple ha;obtain⟨its2,r2,pb,_⟩:=I.tuple hb;have e:=r.zero;subst e;exact b1h' pa pb ⟨.ref b,H,I,rfl,q⟩
theorem op_shl1:OpR X (binaryOp .LShift) (rI (λi j=>i=1∧0≤j∧j<1000) λ_ j=>.int (2^j.toNat)):=opI λi j _ _ _ _ _ hc q=>by
 obtain⟨rfl,h1,h2⟩:=hc;refine lshift_int h1 ?_ (by rw[Int.one_mul];exact q);have:Builtin.Int.intBits 1=1:=by decide+kernel
 rw[this];omega
theorem op_mulG:OpR X (binaryOp .Mult) (rI (λi j=>Builtin.Int.intBits i≤100000∧Builtin.Int.intBits j≤100000) λi j=>.int (i*j)):=opI λ_ _ _ _ _ _ _ hc q=>PyProof.Rows.mul_int q (PySem.IntMulOk.of_le hc.1 hc.2 (by decide))
theorem op_D(op:Operator):OpR X (binaryOp op) (rD X.K X.mg (opD op)):=by
 intro pq s σ H x y v u Q I rx ry h;obtain⟨F,μ,S,d,e,sk,rd,re,w⟩:=h;have hb:=a7y';cases op with
 |Add=>
  replace w:Want X.K ⟨X.mg,F⟩ μ H Q (addD d e S):=w;unfold addD at w;split at w
  ·have:=a0a' rd;have:=a0a' re;subst x y
   exact op_add pq s σ H _ _ v u Q I rx ry ⟨_,_,rfl,rfl,w.now sk a0L'⟩
  ·have:=a2E' rd;have:=a2E' re;subst x y
   split at w
   ·exact a7t' pq s σ H _ _ v u Q I rx ry ⟨_,_,rfl,rfl,by omega,w.now sk repStr⟩
   ·exact w.elim
  ·split at w
   ·obtain⟨a,vs,rfl,ha,qa⟩:=a0r' rd;obtain⟨b,ws,rfl,hb',qb⟩:=a0r' re;have l1:=qa.length;have l2:=qb.length;cases vs with
    |nil=>refine b1i' pq s σ H _ _ v u Q I rx ry ⟨a,b,ws,rfl,rfl,ha,hb',?_⟩;rename_i as bs _;have:as=[]:=ZJ (by simpa using l1);subst this;exact w.now sk re
    |cons v0 vs=>
     refine op_catT pq s σ H _ _ v u Q I rx ry ⟨a,b,v0::vs,ws,rfl,rfl,ha,hb',by simp,by omega,?_,?_⟩
     ·intro hw;subst hw;rename_i as bs _;have:bs=[]:=ZJ (by simpa using l2);subst this;rw[List.append_nil]at w;exact w.now sk rd
     ·intro _ p hp;exact w.tup sk (qa.append qb) p hp
   ·exact w.elim
  ·split at w
   ·rename_i as bs e1 e2;split at w
    ·obtain⟨a,vs,rfl,ha,qa⟩:=a0O' sk rd e1;obtain⟨b,ws,rfl,hb',qb⟩:=a0O' sk re e2;have l1:=qa.length;have l2:=qb.length;exact op_cat pq s σ H _ _ v u Q I rx ry ⟨a,b,vs,ws,rfl,rfl,ha,hb',by omega,λp hp=>w.lst sk (qa.append qb) p hp⟩
    ·exact w.elim
   ·exact w.elim
 |Sub=>
  replace w:Want X.K ⟨X.mg,F⟩ μ H Q (subD d e S):=w;unfold subD at w;split at w
  ·have:=a0a' rd;have:=a0a' re;subst x y
   exact op_sub pq s σ H _ _ v u Q I rx ry ⟨_,_,rfl,rfl,w.now sk a0L'⟩
  ·exact w.elim
 |Mult=>
  replace w:Want X.K ⟨X.mg,F⟩ μ H Q (mulD d e S):=w;unfold mulD at w;split at w
  ·have:=a0a' rd;have:=a0a' re;subst x y
   split at w
   ·rename_i hc;exact op_mul pq s σ H _ _ v u Q I rx ry ⟨_,_,rfl,rfl,hc,w.now sk a0L'⟩
   ·split at w
    ·rename_i hc;exact op_mulG pq s σ H _ _ v u Q I rx ry ⟨_,_,rfl,rfl,hc,w.now sk a0L'⟩
    ·exact w.elim
  ·split at w
   ·rename_i as k hc;obtain⟨a,vs,rfl,ha,qa⟩:=a0O' sk rd rfl;have:=a0a' re;subst y;have l1:=qa.length;refine op_rep pq s σ H _ _ v u Q I rx ry ⟨a,k,vs,rfl,rfl,ha,hc.1,hc.2.1,by rw[←l1];omega,λp hp=>w.lst sk ?_ p hp⟩;generalize k.toNat=m;clear hc w
    induction m with
    |zero=>simpa using RepL.nil
    |succ m ih=>rw[List.replicate_succ,List.replicate_succ,List.flatten_cons,List.flatten_cons];exact qa.append ih
   ·exact w.elim
  ·exact w.elim
 |FloorDiv=>
  replace w:Want X.K ⟨X.mg,F⟩ μ H Q (fdivD d e S):=w;unfold fdivD at w;split at w
  ·have:=a0a' rd;have:=a0a' re;subst x y
   split at w
   ·rename_i hc;exact op_fdiv pq s σ H _ _ v u Q I rx ry ⟨_,_,rfl,rfl,hc,w.now sk a0L'⟩
   ·split at w
    ·rename_i hc;exact b1g' pq s σ H _ _ v u Q I rx ry ⟨_,_,rfl,rfl,hc,w.now sk a0L'⟩
    ·exact w.elim
  ·exact w.elim
 |Mod=>
  replace w:Want X.K ⟨X.mg,F⟩ μ H Q (modD d e S):=w;unfold modD at w;split at w
  ·have:=a0a' rd;have:=a0a' re;subst x y
   split at w
   ·rename_i hc;exact op_mod pq s σ H _ _ v u Q I rx ry ⟨_,_,rfl,rfl,hc,w.now sk a0L'⟩
   ·exact w.elim
  ·exact w.elim
 |Pow=>exact w.elim
 |RShift=>
  replace w:Want X.K ⟨X.mg,F⟩ μ H Q (shrD d e S):=w;unfold shrD at w;split at w
  ·have:=a0a' rd;have:=a0a' re;subst x y
   split at w
   ·rename_i hc;exact op_shr pq s σ H _ _ v u Q I rx ry ⟨_,_,rfl,rfl,hc,w.now sk a0L'⟩
   ·exact w.elim
  ·exact w.elim
 |LShift=>
  replace w:Want X.K ⟨X.mg,F⟩ μ H Q (shlD d e S):=w;unfold shlD at w;split at w
  ·have:=a0a' rd;have:=a0a' re;subst x y
   split at w
   ·rename_i hc;obtain⟨rfl,h1,h2⟩:=hc;exact op_shl1 pq s σ H _ _ v u Q I rx ry ⟨_,_,rfl,rfl,⟨rfl,h1,h2⟩,w.now sk a0L'⟩
   ·exact w.elim
  ·exact w.elim
 |BitAnd=>
  replace w:Want X.K ⟨X.mg,F⟩ μ H Q (andD d e S):=w;unfold andD at w;split at w
  ·have:=a0a' rd;have:=a0a' re;subst x y
   exact op_and pq s σ H _ _ v u Q I rx ry ⟨_,_,rfl,rfl,w.now sk a0L'⟩
  ·exact w.elim
 |BitOr=>
  replace w:Want X.K ⟨X.mg,F⟩ μ H Q (orD d e S):=w;unfold orD at w;split at w
  ·have:=a0a' rd;have:=a0a' re;subst x y
   exact op_or pq s σ H _ _ v u Q I rx ry ⟨_,_,rfl,rfl,w.now sk a0L'⟩
  ·exact w.elim
 |_=>exact w.elim
end Py
variable {l:List (Str×(List Py.D→Py.Store→Py.Res Py.D))}{φ:List Py.D→Py.Store→Py.Res Py.D}
namespace Py
inductive Sh where
 |non|bl (b:Bool)|int (i:Int)|str (x:Str)|tup (xs:List D)|lst (xs:List D)
noncomputable def sh(S:Store):D→Option Sh
 | .non=>some .non
 | .bl b=>some (.bl b)
 | .int i=>some (.int i)
 | .str x=>some (.str x)
 | .tup xs=>some (.tup xs)
 | .lst xs=>some (.lst xs)
 | .ref n=>(S[n]?).map .lst
 |_=>none
noncomputable def allO:List (Option Bool)→Option Bool
 | []=>some true
 |o::r=>match o,allO r with
  |some b,some c=>some (b&&c)
  |_,_=>none
noncomputable def eqS(f:D→D→Option Bool):Sh→Sh→Option Bool
 | .non,.non=>some true
 | .bl a,.bl b=>some (a==b)
 | .int a,.int b=>some (a==b)
 | .str a,.str b=>some (a==b)
 | .bl a,.int b=>some ((if a then 1 else 0)==b)
 | .int a,.bl b=>some (a==(if b then 1 else 0))
 | .tup a,.tup b=>(allO (List.zipWith f a b)).map (· &&a.length==b.length)
 | .lst a,.lst b=>if a.length=b.length then allO (List.zipWith f a b)else some false
 |_,_=>some false
noncomputable def eqF(S:Store):Nat→D→D→Option Bool
 |0,_,_=>none
 |n+1,d,e=>match sh S d,sh S e with
  |some x,some y=>eqS (eqF S n) x y
  |_,_=>none
noncomputable def eJ(l:List (Option Bool))(j:Nat):Bool:=match l[j]? with
 |some (some b)=>b
 |_=>true
theorem a2X':∀(l:List (Option Bool)) (k:Bool),allO l=some k→(∀(j:Nat) o,l[j]?=some o→o=some (eJ l j))∧k=(List.range l.length).all (eJ l)
 | [],k,h=>by unfold allO at h;cases h;exact⟨λj o e=>by simp at e,by simp⟩
 |o::r,k,h=>by
  unfold allO at h;split at h
  ·rename_i b c e2;cases h;obtain⟨h1,h2⟩:=a2X' r c e2;refine⟨λj o e=>?_,?_⟩
   ·cases j with
    |zero=>simp at e;subst e;simp[eJ]
    |succ j=>
     have e':r[j]?=some o:=by simpa using e
     rw[h1 j o e'];simp[eJ]
   ·rw[Zy,List.range_succ_eq_map,List.all_cons,List.all_map,h2];rfl
  ·cases h
section
def ShIs(K:Fg)(mg:GS)(μ:La)(H:Hp)(s:Shared)(u:Value):Sh→Prop
 | .non=>u=.none
 | .bl b=>u=.bool b
 | .int i=>∃t,u=.int i t
 | .str x=>∃t,u=.str x t
 | .tup ds=>∃a its vs,u=.ref a∧s.heap.IsTuple a its.toArray∧Vals vs its∧RepL K mg μ H ds vs
 | .lst ds=>∃a its vs,u=.ref a∧s.heap.IsList a its.toArray∧Vals vs its∧RepL K mg μ H ds vs
theorem shIs(I:Inv X pq σ H s)(sk:SOk X.K ⟨X.mg,F⟩ μ S H){x:Sh}(r:Rep X.K ⟨X.mg,F⟩ μ H d v)(q:RelV v u)(e:sh S d=some x):ShIs X.K ⟨X.mg,F⟩ μ H s u x:=by
 cases d with
 |non=>cases e;cases a3g' r;exact q
 |bl b=>cases e;cases a4H' r;exact q
 |int b=>cases e;cases a0a' r;exact q
 |str b=>cases e;cases a2E' r;exact q
 |tup xs=>cases e;obtain⟨a,vs,rfl,h,k⟩:=a0r' r;cases q;obtain⟨its,rv,p,_⟩:=I.tuple h;exact⟨a,its,vs,rfl,p,rv,k⟩
 |lst xs=>cases e;obtain⟨a,vs,rfl,h,k⟩:=a0O' sk r rfl;cases q;obtain⟨its,rv,p,_⟩:=I.list (.of h);exact⟨a,its,vs,rfl,p.isList,rv,k⟩
 |ref n=>
  replace e:(S[n]?).map Sh.lst=some x:=e;cases e2:S[n]? with
  |none=>rw[e2]at e;cases e
  |some xs=>rw[e2]at e;cases e;obtain⟨a,vs,rfl,h,k⟩:=a0O' sk r e2;cases q;obtain⟨its,rv,p,_⟩:=I.list (.of h);exact⟨a,its,vs,rfl,p.isList,rv,k⟩
 |_=>cases e
def Items(A:Around)(s:Shared)(f:D→D→Option Bool)(K:Fg)(mg:GS)(μ:La)(H:Hp):Prop:=
 ∀d e v w u z k,Rep K mg μ H d v→RelV v u→Rep K mg μ H e w→RelV w z→f d e=some k→SeqAt.EqAt A s u z k
theorem a7z'{f:D→D→Option Bool}{mg:GS}(F:Items A s f K mg μ H){es:List D}{vs ws:List V}{zs:Lv}(r1:RepL K mg μ H ds vs)(q1:Vals vs us)(r2:RepL K mg μ H es ws)(q2:Vals ws zs){k:Bool}
  (h:allO (List.zipWith f ds es)=some k):∀j (h1:j<us.toArray.size) (h2:j<zs.toArray.size),SeqAt.EqAt A s us.toArray[j] zs.toArray[j] (eJ (List.zipWith f ds es) j):=by
 intro j h1 h2;have l1:=r1.length;have l2:=r2.length;have l3:=q1.length;have l4:=q2.length
 have h1':j<us.length:=by simpa using h1
 have h2':j<zs.length:=by simpa using h2
 have a1:ds[j]?=some (ds[j]'(by omega)):=Zm _;have a2:es[j]?=some (es[j]'(by omega)):=Zm _;obtain⟨v,b1,c1⟩:=r1.get a1;obtain⟨w,b2,c2⟩:=r2.get a2;obtain⟨u,b3,c3⟩:=q1.get b1;obtain⟨z,b4,c4⟩:=q2.get b2
 have e1:us.toArray[j]=u:=by have:=Zh.mp b3;obtain⟨_,e⟩:=this;simpa using e
 have e2:zs.toArray[j]=z:=by have:=Zh.mp b4;obtain⟨_,e⟩:=this;simpa using e
 rw[e1,e2];have hz:(List.zipWith f ds es)[j]?=some (f (ds[j]'(by omega)) (es[j]'(by omega))):=by rw[List.getElem?_zipWith,a1,a2]
 exact F _ _ v w u z _ c1 c3 c2 c4 ((a2X' _ _ h).1 j _ hz)
theorem a7A'{f:D→D→Option Bool}{es:List D}{k:Bool}(h:allO (List.zipWith f ds es)=some k)(m:Nat)(hm:m=min ds.length es.length):(List.range m).all (eJ (List.zipWith f ds es))=k:=by have:=(a2X' _ _ h).2;rw[this,List.length_zipWith,hm]
open PySem.SeqAt
theorem rcS{mg:GS}{f:D→D→Option Bool}(F:Items A.in1 s f K mg μ H)(hu:A.units<cLine){z:Value}:∀{x y:Sh} {k:Bool},ShIs K mg μ H s u x→ShIs K mg μ H s z y→eqS f x y=some k→
  RcAt A s u z k∧RcNeAt A s u z (!k):=by
 intro x y k hx hy h;cases x with
 |non=>
  cases hx;cases y with
  |non=>cases hy;cases h;exact⟨RcAt.none_none,RcNeAt.none_none⟩
  |bl b=>cases hy;cases h;exact⟨RcAt.none_bool b,RcNeAt.none_bool b⟩
  |int b=>obtain⟨t,rfl⟩:=hy;cases h;exact⟨RcAt.none_int b t,RcNeAt.none_int b t⟩
  |str b=>obtain⟨t,rfl⟩:=hy;cases h;exact⟨RcAt.none_str b t,RcNeAt.none_str b t⟩
  |tup b=>obtain⟨a,its,vs,rfl,p,_⟩:=hy;cases h;exact⟨RcAt.none_tuple p hu,RcNeAt.none_tuple p hu⟩
  |lst b=>obtain⟨a,its,vs,rfl,p,_⟩:=hy;cases h;exact⟨RcAt.none_list p hu,RcNeAt.none_list p hu⟩
 |bl a=>
  cases hx;cases y with
  |non=>cases hy;cases h;exact⟨RcAt.bool_none a,RcNeAt.bool_none a⟩
  |bl b=>cases hy;cases h;exact⟨RcAt.bool_bool a b,RcNeAt.bool_bool a b⟩
  |int b=>obtain⟨t,rfl⟩:=hy;cases h;exact⟨RcAt.bool_int a b t,RcNeAt.bool_int a b t⟩
  |str b=>obtain⟨t,rfl⟩:=hy;cases h;exact⟨RcAt.bool_str a b t,RcNeAt.bool_str a b t⟩
  |tup b=>obtain⟨_,its,vs,rfl,p,_⟩:=hy;cases h;exact⟨RcAt.bool_tuple a p hu,RcNeAt.bool_tuple a p hu⟩
  |lst b=>obtain⟨_,its,vs,rfl,p,_⟩:=hy;cases h;exact⟨RcAt.bool_list a p hu,RcNeAt.bool_list a p hu⟩
 |int a=>
  obtain⟨t',rfl⟩:=hx;cases y with
  |non=>cases hy;cases h;exact⟨RcAt.int_none a t',RcNeAt.int_none a t'⟩
  |bl b=>cases hy;cases h;exact⟨RcAt.int_bool a t' b,RcNeAt.int_bool a t' b⟩
  |int b=>obtain⟨t,rfl⟩:=hy;cases h;exact⟨RcAt.int_int a t' b t,RcNeAt.int_int a t' b t⟩
  |str b=>obtain⟨t,rfl⟩:=hy;cases h;exact⟨RcAt.int_str a t' b t,RcNeAt.int_str a t' b t⟩
  |tup b=>obtain⟨_,its,vs,rfl,p,_⟩:=hy;cases h;exact⟨RcAt.int_tuple a t' p hu,RcNeAt.int_tuple a t' p hu⟩
  |lst b=>obtain⟨_,its,vs,rfl,p,_⟩:=hy;cases h;exact⟨RcAt.int_list a t' p hu,RcNeAt.int_list a t' p hu⟩
 |str a=>
  obtain⟨t',rfl⟩:=hx;cases y with
  |non=>cases hy;cases h;exact⟨RcAt.str_none a t',RcNeAt.str_none a t'⟩
  |bl b=>cases hy;cases h;exact⟨RcAt.str_bool a t' b,RcNeAt.str_bool a t' b⟩
  |int b=>obtain⟨t,rfl⟩:=hy;cases h;exact⟨RcAt.str_int a t' b t,RcNeAt.str_int a t' b t⟩
  |str b=>obtain⟨t,rfl⟩:=hy;cases h;exact⟨RcAt.str_str a t' b t,RcNeAt.str_str a t' b t⟩
  |tup b=>obtain⟨_,its,vs,rfl,p,_⟩:=hy;cases h;exact⟨RcAt.str_tuple a t' p hu,RcNeAt.str_tuple a t' p hu⟩
  |lst b=>obtain⟨_,its,vs,rfl,p,_⟩:=hy;cases h;exact⟨RcAt.str_list a t' p hu,RcNeAt.str_list a t' p hu⟩
 |tup a=>
  obtain⟨a1,its1,vs1,rfl,p1,q1,r1⟩:=hx;cases y with
  |non=>cases hy;cases h;exact⟨RcAt.tuple_none p1 hu,RcNeAt.tuple_none p1 hu⟩
  |bl b=>cases hy;cases h;exact⟨RcAt.tuple_bool b p1 hu,RcNeAt.tuple_bool b p1 hu⟩
  |int b=>obtain⟨t,rfl⟩:=hy;cases h;exact⟨RcAt.tuple_int b t p1 hu,RcNeAt.tuple_int b t p1 hu⟩
  |str b=>obtain⟨t,rfl⟩:=hy;cases h;exact⟨RcAt.tuple_str b t p1 hu,RcNeAt.tuple_str b t p1 hu⟩
  |tup b=>
   obtain⟨a2,its2,vs2,rfl,p2,q2,r2⟩:=hy;replace h:(allO (List.zipWith f a b)).map (· &&a.length==b.length)=some k:=h;obtain⟨k1,e1,e2⟩:=Z2.mp h;have hz:=a7z' F r1 q1 r2 q2 e1;have l1:=r1.length;have l2:=r2.length;have l3:=q1.length;have l4:=q2.length
   have e3:k=((List.range (min its1.toArray.size its2.toArray.size)).all (eJ (List.zipWith f a b))&&its1.toArray.size==its2.toArray.size):=by rw[←e2,a7A' e1 _ (by rw[Zi,Zi,←l3,←l4,←l1,←l2]),Zi,Zi,←l3,←l4,←l1,←l2]
   rw[e3];exact⟨RcAt.tuples p1 p2 hu hz,RcNeAt.tuples p1 p2 hu hz⟩
  |lst b=>obtain⟨a2,its2,vs2,rfl,p2,_⟩:=hy;cases h;exact⟨RcAt.tuple_list p1 p2 hu,RcNeAt.tuple_list p1 p2 hu⟩
 |lst a=>
  obtain⟨a1,its1,vs1,rfl,p1,q1,r1⟩:=hx;cases y with
  |non=>cases hy;cases h;exact⟨RcAt.list_none p1 hu,RcNeAt.list_none p1 hu⟩
  |bl b=>cases hy;cases h;exact⟨RcAt.list_bool b p1 hu,RcNeAt.list_bool b p1 hu⟩
  |int b=>obtain⟨t,rfl⟩:=hy;cases h;exact⟨RcAt.list_int b t p1 hu,RcNeAt.list_int b t p1 hu⟩
  |str b=>obtain⟨t,rfl⟩:=hy;cases h;exact⟨RcAt.list_str b t p1 hu,RcNeAt.list_str b t p1 hu⟩
  |tup b=>obtain⟨a2,its2,vs2,rfl,p2,_⟩:=hy;cases h;exact⟨RcAt.list_tuple p1 p2 hu,RcNeAt.list_tuple p1 p2 hu⟩
  |lst b=>
   obtain⟨a2,its2,vs2,rfl,p2,q2,r2⟩:=hy;have l1:=r1.length;have l2:=r2.length;have l3:=q1.length;have l4:=q2.length
   replace h:(if a.length=b.length then allO (List.zipWith f a b)else some false)=some k:=h;split at h
   ·rename_i hl;have hz:=a7z' F r1 q1 r2 q2 h
    have e3:k=(List.range its1.toArray.size).all (eJ (List.zipWith f a b)):=by rw[a7A' h _ (by rw[Zi,←l3,←l1];omega)]
    rw[e3];have hs:its1.toArray.size=its2.toArray.size:=by rw[Zi,Zi];omega
    exact⟨RcAt.lists p1 p2 hs hu hz,RcNeAt.lists p1 p2 hs hu hz⟩
   ·rename_i hl;cases h;have hs:(its1.toArray.size !=its2.toArray.size)=true:=by rw[Zi,Zi];simp;omega
    exact⟨RcAt.lists_lengths p1 p2 hs hu,RcNeAt.lists_lengths p1 p2 hs hu⟩
theorem b0k'(I:Inv X pq σ H s)(sk:SOk X.K ⟨X.mg,F⟩ μ S H):∀(n:Nat) (d e:D) (v:V) (k:Bool),Rep X.K ⟨X.mg,F⟩ μ H d v→Rep X.K ⟨X.mg,F⟩ μ H e v→eqF S n d e=some k→k=true:=by
 intro n
 induction n with
 |zero=>intro d e v k _ _ h;cases h
 |succ n ih=>
  intro d e v k rd re h
  have lists:∀(ds es:List D) (vs:List V) (k:Bool),RepL X.K ⟨X.mg,F⟩ μ H ds vs→RepL X.K ⟨X.mg,F⟩ μ H es vs→allO (List.zipWith (eqF S n) ds es)=some k→k=true:=by
   intro ds
   induction ds with
   |nil=>intro es vs k _ _ h;cases h;rfl
   |cons d ds ihl=>
    intro es vs k r1 r2 h;obtain⟨v,ws,rfl,a1,b1⟩:=r1.uncons;cases es with
    |nil=>cases h;rfl
    |cons e es=>
     obtain⟨v',ws',e1,a2,b2⟩:=r2.uncons;cases e1;rw[List.zipWith_cons_cons]at h;unfold allO at h;split at h
     ·rename_i x y e1 e2;cases h;rw[ih d e v x a1 a2 e1,ihl es ws y b1 b2 e2];rfl
     ·cases h
  unfold eqF at h;cases e1:sh S d with
  |none=>rw[e1]at h;cases h
  |some x=>
   cases e2:sh S e with
   |none=>rw[e1,e2]at h;cases h
   |some y=>
    rw[e1,e2]at h;replace h:eqS (eqF S n) x y=some k:=h
    obtain⟨u,ru⟩:∃u,RelV v u:=by
     cases v with
     |non=>exact⟨_,rfl⟩
     |bl b=>exact⟨_,rfl⟩
     |int i=>exact⟨.int i 0,0,rfl⟩
     |str x=>exact⟨.str x 0,0,rfl⟩
     |byt x=>exact⟨.bytes x 0,0,rfl⟩
     |flt x=>exact⟨.float x 0,0,rfl⟩
     |ref a=>exact⟨_,rfl⟩
     |ty n=>exact⟨_,rfl⟩
    have s1:=shIs I sk rd ru e1;have s2:=shIs I sk re ru e2
    have len:∀{ds es:List D} {vs ws:List V} {us:Lv},RepL X.K ⟨X.mg,F⟩ μ H ds vs→Vals vs us→RepL X.K ⟨X.mg,F⟩ μ H es ws→Vals ws us→vs=ws∧ds.length=es.length:=λr1 q1 r2 q2=>by have:=q1.inj q2;subst this;exact⟨rfl,r1.length.trans r2.length.symm⟩
    cases x with
    |non=>
     cases s1;cases y with
     |non=>cases h;rfl
     |bl b=>cases s2
     |int b=>obtain⟨t,z⟩:=s2;cases z
     |str b=>obtain⟨t,z⟩:=s2;cases z
     |tup b=>obtain⟨_,_,_,z,_⟩:=s2;cases z
     |lst b=>obtain⟨_,_,_,z,_⟩:=s2;cases z
    |bl a=>
     cases s1;cases y with
     |non=>cases s2
     |bl b=>cases s2;cases h;simp
     |int b=>obtain⟨t,z⟩:=s2;cases z
     |str b=>obtain⟨t,z⟩:=s2;cases z
     |tup b=>obtain⟨_,_,_,z,_⟩:=s2;cases z
     |lst b=>obtain⟨_,_,_,z,_⟩:=s2;cases z
    |int a=>
     obtain⟨t',rfl⟩:=s1;cases y with
     |non=>cases s2
     |bl b=>cases s2
     |int b=>obtain⟨t,z⟩:=s2;cases z;cases h;simp
     |str b=>obtain⟨t,z⟩:=s2;cases z
     |tup b=>obtain⟨_,_,_,z,_⟩:=s2;cases z
     |lst b=>obtain⟨_,_,_,z,_⟩:=s2;cases z
    |str a=>
     obtain⟨t',rfl⟩:=s1;cases y with
     |non=>cases s2
     |bl b=>cases s2
     |int b=>obtain⟨t,z⟩:=s2;cases z
     |str b=>obtain⟨t,z⟩:=s2;cases z;cases h;simp
     |tup b=>obtain⟨_,_,_,z,_⟩:=s2;cases z
     |lst b=>obtain⟨_,_,_,z,_⟩:=s2;cases z
    |tup a=>
     obtain⟨a1,its1,vs1,rfl,p1,q1,r1⟩:=s1;cases y with
     |non=>cases s2
     |bl b=>cases s2
     |int b=>obtain⟨t,z⟩:=s2;cases z
     |str b=>obtain⟨t,z⟩:=s2;cases z
     |tup b=>
      obtain⟨a2,its2,vs2,z,p2,q2,r2⟩:=s2;cases z
      have hi:its1=its2:=by
       obtain⟨o,ho,_,n,hd⟩:=p1;obtain⟨o',ho',_,n',hd'⟩:=p2;rw[ho]at ho';cases ho';rw[hd]at hd';injection hd' with z _
       simpa using congrArg Array.toList z
      subst hi;obtain⟨rfl,hl⟩:=len r1 q1 r2 q2;replace h:(allO (List.zipWith (eqF S n) a b)).map (· &&a.length==b.length)=some k:=h;obtain⟨k1,e3,e4⟩:=Z2.mp h;rw[←e4,lists a b vs1 k1 r1 r2 e3,hl];simp
     |lst b=>obtain⟨a2,its2,vs2,z,p2,q2,r2⟩:=s2;cases z;obtain⟨o,ho,c,n,hd⟩:=p1;obtain⟨o',ho',c',n',hd'⟩:=p2;rw[ho]at ho';cases ho';rw[c]at c';exact absurd c' (by decide)
    |lst a=>
     obtain⟨a1,its1,vs1,rfl,p1,q1,r1⟩:=s1;cases y with
     |non=>cases s2
     |bl b=>cases s2
     |int b=>obtain⟨t,z⟩:=s2;cases z
     |str b=>obtain⟨t,z⟩:=s2;cases z
     |tup b=>obtain⟨a2,its2,vs2,z,p2,q2,r2⟩:=s2;cases z;obtain⟨o,ho,c,n,hd⟩:=p1;obtain⟨o',ho',c',n',hd'⟩:=p2;rw[ho]at ho';cases ho';rw[c]at c';exact absurd c' (by decide)
     |lst b=>
      obtain⟨a2,its2,vs2,z,p2,q2,r2⟩:=s2;cases z
      have hi:its1=its2:=by
       obtain⟨o,ho,_,n,hd⟩:=p1;obtain⟨o',ho',_,n',hd'⟩:=p2;rw[ho]at ho';cases ho';rw[hd]at hd';injection hd' with z _
       simpa using congrArg Array.toList z
      subst hi;obtain⟨rfl,hl⟩:=len r1 q1 r2 q2;replace h:(if a.length=b.length then allO (List.zipWith (eqF S n) a b)else some false)=some k:=h;rw[if_pos hl]at h;exact lists a b vs1 k r1 r2 h
theorem rcF(I:Inv X pq σ H s)(sk:SOk X.K ⟨X.mg,F⟩ μ S H):∀(n:Nat) (A:Around),A.units+n<cLine→∀d e v w u z k,Rep X.K ⟨X.mg,F⟩ μ H d v→RelV v u→Rep X.K ⟨X.mg,F⟩ μ H e w→RelV w z→eqF S n d e=some k→
  RcAt A s u z k∧RcNeAt A s u z (!k)∧EqAt A s u z k:=by
 intro n
 induction n with
 |zero=>intro A _ d e v w u z k _ _ _ _ h;cases h
 |succ n ih=>
  intro A hA d e v w u z k rd ru re rz h;have self:=λ(hv:v=w)=>b0k' I sk (n+1) d e v k rd (hv▸re) h;unfold eqF at h;cases e1:sh S d with
  |none=>rw[e1]at h;cases h
  |some x=>
   cases e2:sh S e with
   |none=>rw[e1,e2]at h;cases h
   |some y=>
    rw[e1,e2]at h;replace h:eqS (eqF S n) x y=some k:=h;have s1:=shIs I sk rd ru e1;have s2:=shIs I sk re rz e2;have hin:A.in1.units=A.units+1:=rfl;have F:Items A.in1 s (eqF S n) X.K ⟨X.mg,F⟩ μ H:=λd e v w u z k a b c d' h=>(ih A.in1 (by omega) d e v w u z k a b c d' h).2.2;obtain⟨c1,c2⟩:=rcS F (by omega) s1 s2 h;refine⟨c1,c2,?_⟩
    have refs:∀{l b:Addr},u=.ref l→z=.ref b→EqAt A s u z k:=λ{l b} eu ez=>by
     subst eu;subst ez;by_cases hl:l=b
     ·subst hl
      have hv:v=w:=by
       cases v<;>first| (cases ru;done)|skip
       all_goals first| (obtain⟨_,q⟩:=ru;cases q;done)|skip
       cases w<;>first| (cases rz;done)|skip
       all_goals first| (obtain⟨_,q⟩:=rz;cases q;done)|skip
       cases ru;cases rz;rfl
      rw[self hv];exact EqAt.same _
     ·exact .of_refs hl c1
    have hu:A.units<cLine:=by omega
    cases x with
    |non=>
     cases s1;cases y with
     |non=>cases s2;cases h;exact EqAt.same _
     |bl b=>cases s2;cases h;exact EqAt.none_bool b
     |int b=>obtain⟨t,rfl⟩:=s2;cases h;exact EqAt.none_int b t
     |str b=>obtain⟨t,rfl⟩:=s2;cases h;exact EqAt.none_str b t
     |tup b=>obtain⟨a,its,vs,rfl,p,_⟩:=s2;cases h;exact EqAt.none_tuple p hu
     |lst b=>obtain⟨a,its,vs,rfl,p,_⟩:=s2;cases h;exact EqAt.none_list p hu
    |bl a=>
     cases s1;cases y with
     |non=>cases s2;cases h;exact EqAt.bool_none a
     |bl b=>cases s2;cases h;exact EqAt.bool_bool a b
     |int b=>obtain⟨t,rfl⟩:=s2;cases h;exact EqAt.bool_int a b t
     |str b=>obtain⟨t,rfl⟩:=s2;cases h;exact EqAt.bool_str a b t
     |tup b=>obtain⟨_,its,vs,rfl,p,_⟩:=s2;cases h;exact EqAt.bool_tuple a p hu
     |lst b=>obtain⟨_,its,vs,rfl,p,_⟩:=s2;cases h;exact EqAt.bool_list a p hu
    |int a=>
     obtain⟨t',rfl⟩:=s1;cases y with
     |non=>cases s2;cases h;exact EqAt.int_none a t'
     |bl b=>cases s2;cases h;exact EqAt.int_bool a t' b
     |int b=>obtain⟨t,rfl⟩:=s2;cases h;exact EqAt.int_int a t' b t
     |str b=>obtain⟨t,rfl⟩:=s2;cases h;exact EqAt.int_str a t' b t
     |tup b=>obtain⟨_,its,vs,rfl,p,_⟩:=s2;cases h;exact EqAt.int_tuple a t' p hu
     |lst b=>obtain⟨_,its,vs,rfl,p,_⟩:=s2;cases h;exact EqAt.int_list a t' p hu
    |str a=>
     obtain⟨t',rfl⟩:=s1;cases y with
     |non=>cases s2;cases h;exact EqAt.str_none a t'
     |bl b=>cases s2;cases h;exact EqAt.str_bool a t' b
     |int b=>obtain⟨t,rfl⟩:=s2;cases h;exact EqAt.str_int a t' b t
     |str b=>obtain⟨t,rfl⟩:=s2;cases h;exact EqAt.str_str a t' b t
     |tup b=>obtain⟨_,its,vs,rfl,p,_⟩:=s2;cases h;exact EqAt.str_tuple a t' p hu
     |lst b=>obtain⟨_,its,vs,rfl,p,_⟩:=s2;cases h;exact EqAt.str_list a t' p hu
    |tup a=>
     obtain⟨a1,its1,vs1,rfl,p1,_⟩:=s1;cases y with
     |non=>cases s2;cases h;exact EqAt.tuple_none p1 hu
     |bl b=>cases s2;cases h;exact EqAt.tuple_bool b p1 hu
     |int b=>obtain⟨t,rfl⟩:=s2;cases h;exact EqAt.tuple_int b t p1 hu
     |str b=>obtain⟨t,rfl⟩:=s2;cases h;exact EqAt.tuple_str b t p1 hu
     |tup b=>obtain⟨_,its,vs,rfl,p,_⟩:=s2;exact refs rfl rfl
     |lst b=>obtain⟨_,its,vs,rfl,p,_⟩:=s2;exact refs rfl rfl
    |lst a=>
     obtain⟨a1,its1,vs1,rfl,p1,_⟩:=s1;cases y with
     |non=>cases s2;cases h;exact EqAt.list_none p1 hu
     |bl b=>cases s2;cases h;exact EqAt.list_bool b p1 hu
     |int b=>obtain⟨t,rfl⟩:=s2;cases h;exact EqAt.list_int b t p1 hu
     |str b=>obtain⟨t,rfl⟩:=s2;cases h;exact EqAt.list_str b t p1 hu
     |tup b=>obtain⟨_,its,vs,rfl,p,_⟩:=s2;exact refs rfl rfl
     |lst b=>obtain⟨_,its,vs,rfl,p,_⟩:=s2;exact refs rfl rfl
end
noncomputable def ltL(eq lt:D→D→Option Bool):List D→List D→Option Bool
 | [],[]=>some false
 | [],_::_=>some true
 |_::_,[]=>some false
 |a::as,b::bs=>match eq a b with
  |some true=>ltL eq lt as bs
  |some false=>lt a b
  |none=>none
noncomputable def ltF(S:Store):Nat→D→D→Option Bool
 |0,_,_=>none
 |n+1,.int a,.int b=>some (decide (a<b))
 |n+1,.tup a,.tup b=>ltL (eqF S n) (ltF S n) a b
 |_,_,_=>none
open PySem.SeqAt
def LtAt(A:Around)(s:Shared)(y x:Value)(b:Bool):Prop:=
 ∀(prog:Program) (w:World) (E:Vs) (Q:Vs),Q (.bool b) s→wpAny (model prog w) A (richCompare .Lt y x) Q E s
inductive LexAt (A:Around)(s:Shared):Lv→Lv→Bool→Prop where
 |nn:LexAt A s [] [] false
 |nc {w ws}:LexAt A s [] (w::ws) true
 |cn {v vs}:LexAt A s (v::vs) [] false
 |eq {v w vs ws k}:EqAt A s v w true→LexAt A s vs ws k→LexAt A s (v::vs) (w::ws) k
 |lt {v w vs ws k}:EqAt A s v w false→LtAt A s v w k→LexAt A s (v::vs) (w::ws) k
section
open PySem.AutoSeq1 (wpAny_loadPart')
open PySem.MeetsSeq PySem.MeetsSeq2 PySem.MeetsSeq3
theorem a7B'(l b:Addr)(items items2:Av)(n n2:Nat)(dd dd2:Option Addr)(sl sl2:Array (Ov))(k:Bool):
  Meets (Builtin.«tuple.__lt__» ⟨[.ref l,.ref b],[]⟩)
   (λA R s=>s.heap.get? l=some {cls:=.type "tuple",dict:=dd,data:=.seq items n,slots:=sl}∧s.heap.get? b=some {cls:=.type "tuple",dict:=dd2,data:=.seq items2 n2,slots:=sl2}∧
    LexAt A.in1 s items.toList items2.toList k∧R (.ok (.ret (.bool k))) s):=
 .of_wp λprog w A R s h=>by
  obtain⟨hp,g,d,tk,os⟩:=s;obtain⟨hl,hb,hx,h⟩:=h;have f2:=AutoSeq1.sub_tuple_tuple
  wp_walk using wpAny_loadPart' hl,wpAny_loadPart' hb,wpAny_forIn_list _ (λrest b s'=>b.1=none∧s'=⟨hp,g,d,tk,os⟩∧∃(vs ws:Lv),rest=vs.zip ws∧
   LexAt A.in1 ⟨hp,g,d,tk,os⟩ vs ws k∧vs.length+items2.size=ws.length+items.size∧R (.ok (.ret (.bool k))) ⟨hp,g,d,tk,os⟩) _
  case turn=>
   rintro⟨y,x⟩ rest b s' ⟨hb',rfl,vs,ws,hz,hvi,hlen,hR⟩;cases hvi with
   |nn=>rw[List.zip_nil_left]at hz;cases hz
   |nc=>rw[List.zip_nil_left]at hz;cases hz
   |cn=>rw[List.zip_nil_right]at hz;cases hz
   |eq he hr=>
    rw[ZT]at hz;injection hz with hyx hrest
    injection hyx with hy hx
    subst hy hx;simp only[Zy]at hlen;refine Za (he prog w _ _ ?_)
    wp_walk
    exact⟨rfl,rfl,_,_,hrest,hr,by omega,hR⟩
   |lt he hr=>
    rw[ZT]at hz;injection hz with hyx hrest
    injection hyx with hy hx
    subst hy hx;refine Za (he prog w _ _ ?_);have hri:=λ(E:Vs) (Q:Vs)=>hr prog w E Q
    wp_walk using hri
    exact⟨_,rfl,by simpa using hR⟩
  case fin=>
   rintro⟨b1,b2⟩ s' ⟨hb',rfl,vs,ws,hz,hvi,hlen,hR⟩;simp only at hb';subst hb'
   have hv:k=decide (items.size<items2.size):=by
    cases hvi with
    |nn=>simp only[List.length_nil]at hlen;exact(ZM (by omega)).symm
    |nc=>simp only[List.length_nil,Zy]at hlen;exact(ZI (by omega)).symm
    |cn=>simp only[List.length_nil,Zy]at hlen;exact(ZM (by omega)).symm
    |eq he hr=>rw[ZT]at hz;cases hz
    |lt he hr=>rw[ZT]at hz;cases hz
   rw[hv]at hR
   wp_walk
   exact⟨_,rfl,by simpa[Builtin.Tuple.tupleCompareSizes]using hR⟩
  case h=>exact⟨rfl,rfl,items.toList,items2.toList,rfl,hx,by simp;omega,h⟩
end
theorem LtAt.tuples{l b:Addr}{vs ws:Lv}{k:Bool}(hl:s.heap.IsTuple l vs.toArray)(hb:s.heap.IsTuple b ws.toArray)(hu:A.units<cLine)(hx:LexAt A.in1 s vs ws k):LtAt A s (.ref l) (.ref b) k:=λprog w E Q h=>by
 obtain⟨⟨cls,dd,data,sl⟩,ho,hc,n,hd⟩:=id hl;obtain⟨⟨cls2,dd2,data2,sl2⟩,ho2,hc2,n2,hd2⟩:=id hb;simp only at hc hd hc2 hd2;subst hc hd hc2 hd2
 exact richCompare_meets_room (op:=.Lt) ⟨_,ho,rfl⟩ ⟨_,ho2,rfl⟩ PySem.F.slot_tuple_lt PySem.F.entry_tuple_lt (PySem.F.args_tuple_lt_2 _ _) (a7B' l b vs.toArray ws.toArray n n2 dd dd2 sl sl2 k)
  ⟨ho,ho2,by simpa using hx,show Value.bool k≠Value.notImplemented∧Q (.bool k) s from⟨(λx=>nomatch x),h⟩⟩ hu
def LeAt(A:Around)(s:Shared)(y x:Value)(b:Bool):Prop:=
 ∀(prog:Program) (w:World) (E:Vs) (Q:Vs),Q (.bool b) s→wpAny (model prog w) A (richCompare .LtE y x) Q E s
inductive LexLe (A:Around)(s:Shared):Lv→Lv→Bool→Prop where
 |nl {ws}:LexLe A s [] ws true
 |cn {v vs}:LexLe A s (v::vs) [] false
 |eq {v w vs ws k}:EqAt A s v w true→LexLe A s vs ws k→LexLe A s (v::vs) (w::ws) k
 |le {v w vs ws k}:EqAt A s v w false→LeAt A s v w k→LexLe A s (v::vs) (w::ws) k
section
open PySem.AutoSeq1 (wpAny_loadPart')
open PySem.MeetsSeq PySem.MeetsSeq2 PySem.MeetsSeq3
theorem a7C'(l b:Addr)(xs ys:Av)(n n2:Nat)(dd dd2:Option Addr)(sl sl2:Array (Ov))(k:Bool):
  Meets (Builtin.«tuple.__le__» ⟨[.ref l,.ref b],[]⟩)
   (λA R s=>s.heap.get? l=some {cls:=.type "tuple",dict:=dd,data:=.seq xs n,slots:=sl}∧s.heap.get? b=some {cls:=.type "tuple",dict:=dd2,data:=.seq ys n2,slots:=sl2}∧
    LexLe A.in1 s xs.toList ys.toList k∧R (.ok (.ret (.bool k))) s):=
 .of_wp λprog w A R s h=>by
  obtain⟨hp,g,d,tk,os⟩:=s;obtain⟨hl,hb,hx,h⟩:=h;have f2:=AutoSeq1.sub_tuple_tuple
  wp_walk using wpAny_loadPart' hl,wpAny_loadPart' hb,wpAny_forIn_list _ (λrest b s'=>b.1=none∧s'=⟨hp,g,d,tk,os⟩∧∃(vs ws:Lv),rest=vs.zip ws∧
   LexLe A.in1 ⟨hp,g,d,tk,os⟩ vs ws k∧vs.length+ys.size=ws.length+xs.size∧R (.ok (.ret (.bool k))) ⟨hp,g,d,tk,os⟩) _
  case turn=>
   rintro⟨y,x⟩ rest b s' ⟨hb',rfl,vs,ws,hz,hvi,hlen,hR⟩;cases hvi with
   |nl=>rw[List.zip_nil_left]at hz;cases hz
   |cn=>rw[List.zip_nil_right]at hz;cases hz
   |eq he hr=>
    rw[ZT]at hz;injection hz with hyx hrest
    injection hyx with hy hx
    subst hy hx;simp only[Zy]at hlen;refine Za (he prog w _ _ ?_)
    wp_walk
    exact⟨rfl,rfl,_,_,hrest,hr,by omega,hR⟩
   |le he hr=>
    rw[ZT]at hz;injection hz with hyx hrest
    injection hyx with hy hx
    subst hy hx;refine Za (he prog w _ _ ?_);have hri:=λ(E:Vs) (Q:Vs)=>hr prog w E Q
    wp_walk using hri
    exact⟨_,rfl,by simpa using hR⟩
  case fin=>
   rintro⟨b1,b2⟩ s' ⟨hb',rfl,vs,ws,hz,hvi,hlen,hR⟩;simp only at hb';subst hb'
   have hv:k=decide (xs.size≤ys.size):=by
    cases hvi with
    |nl=>simp only[List.length_nil]at hlen;exact(ZI (by omega)).symm
    |cn=>simp only[List.length_nil,Zy]at hlen;exact(ZM (by omega)).symm
    |eq he hr=>rw[ZT]at hz;cases hz
    |le he hr=>rw[ZT]at hz;cases hz
   rw[hv]at hR
   wp_walk
   exact⟨_,rfl,by simpa[Builtin.Tuple.tupleCompareSizes]using hR⟩
  case h=>exact⟨rfl,rfl,xs.toList,ys.toList,rfl,hx,by simp;omega,h⟩
end
theorem a9p'{l b:Addr}{vs ws:Lv}{k:Bool}(hl:s.heap.IsTuple l vs.toArray)(hb:s.heap.IsTuple b ws.toArray)(hu:A.units<cLine)(hx:LexLe A.in1 s vs ws k):LeAt A s (.ref l) (.ref b) k:=λprog w E Q h=>by
 obtain⟨⟨cls,dd,data,sl⟩,ho,hc,n,hd⟩:=id hl;obtain⟨⟨cls2,dd2,data2,sl2⟩,ho2,hc2,n2,hd2⟩:=id hb;simp only at hc hd hc2 hd2;subst hc hd hc2 hd2
 exact richCompare_meets_room (op:=.LtE) ⟨_,ho,rfl⟩ ⟨_,ho2,rfl⟩ PySem.F.slot_tuple_le PySem.F.entry_tuple_le (PySem.F.args_tuple_le_2 _ _) (a7C' l b vs.toArray ws.toArray n n2 dd dd2 sl sl2 k)
  ⟨ho,ho2,by simpa using hx,show Value.bool k≠Value.notImplemented∧Q (.bool k) s from⟨(λx=>nomatch x),h⟩⟩ hu
noncomputable def leI:List D→List D→Option Bool
 | [],_=>some true
 |_::_,[]=>some false
 | .int a::as,.int b::bs=>if a=b then leI as bs else some (decide (a≤b))
 |_::_,_::_=>none
theorem leI_at{K:Fg}{mg:GS}{μ:La}{H:Hp}{A:Around}{s:Shared}:∀(ds es:List D) (vs ws:List V) (us zs:Lv) (k:Bool),RepL K mg μ H ds vs→Vals vs us→RepL K mg μ H es ws→Vals ws zs→leI ds es=some k→LexLe A s us zs k
 | [],es,vs,ws,us,zs,k,r1,q1,r2,q2,h=>by
  unfold RepL at r1;subst r1;have:=q1.zero;subst this
  cases h;exact .nl
 |d::ds,[],vs,ws,us,zs,k,r1,q1,r2,q2,h=>by
  obtain⟨v,vs,rfl,a1,b1⟩:=r1.uncons;unfold RepL at r2;subst r2;have:=q2.zero;subst this
  cases q1;have h':some false=some k:=by cases d<;>exact h
  cases h';exact .cn
 |d::ds,e::es,vs,ws,us,zs,k,r1,q1,r2,q2,h=>by
  obtain⟨v,vs,rfl,a1,b1⟩:=r1.uncons;obtain⟨w,ws,rfl,a2,b2⟩:=r2.uncons;cases d with
  |int a=>cases e with
   |int b=>
    have:=a0a' a1;have:=a0a' a2;subst v w
    cases q1 with
    |cons c1 d1=>cases q2 with
     |cons c2 d2=>
      obtain⟨t,rfl⟩:=c1;obtain⟨t',rfl⟩:=c2;have h':(if a=b then leI ds es else some (decide (a≤b)))=some k:=h;have he:=EqAt.int_int (A:=A) (s:=s) a t b t';by_cases hab:a=b
      ·rw[if_pos hab]at h';have e1:(a==b)=true:=by simpa using hab
       rw[e1]at he;exact .eq he (leI_at ds es vs ws _ _ k b1 d1 b2 d2 h')
      ·rw[if_neg hab]at h';have e1:(a==b)=false:=by simpa using hab
       rw[e1]at he;cases h';exact .le he λprog w E Q hq=>(PyProof.Rows.le_int hq:wpAny (model prog w) A (compareOp .LtE (.int _ t) (.int _ t')) Q E s)
   |_=>cases h
  |_=>
   have h':(none:Option Bool)=some k:=by cases e<;>exact h
   cases h'
theorem ltF_at(I:Inv X pq σ H s)(sk:SOk X.K ⟨X.mg,F⟩ μ S H):∀(n:Nat) (A:Around),A.units+n<cLine→∀d e v w u z k,Rep X.K ⟨X.mg,F⟩ μ H d v→RelV v u→Rep X.K ⟨X.mg,F⟩ μ H e w→RelV w z→ltF S n d e=some k→LtAt A s u z k:=by
 intro n
 induction n with
 |zero=>intro A _ d e v w u z k _ _ _ _ h;cases h
 |succ n ih=>
  intro A hA d e v w u z k rd ru re rz h;have hin:A.in1.units=A.units+1:=rfl
  have lex:∀(ds es:List D) (vs ws:List V) (us zs:Lv),RepL X.K ⟨X.mg,F⟩ μ H ds vs→Vals vs us→RepL X.K ⟨X.mg,F⟩ μ H es ws→Vals ws zs→ltL (eqF S n) (ltF S n) ds es=some k→LexAt A.in1 s us zs k:=by
   intro ds
   induction ds with
   |nil=>
    intro es vs ws us zs r1 q1 r2 q2 h;unfold RepL at r1;subst r1;have:=q1.zero;subst this
    cases es with
    |nil=>unfold RepL at r2;subst r2;have:=q2.zero;subst this;cases h;exact .nn
    |cons e es=>obtain⟨w,ws,rfl,_,_⟩:=r2.uncons;cases q2;cases h;exact .nc
   |cons d ds ihl=>
    intro es vs ws us zs r1 q1 r2 q2 h;obtain⟨v,vs,rfl,a1,b1⟩:=r1.uncons;cases q1 with
    |cons c1 d1=>
     cases es with
     |nil=>unfold RepL at r2;subst r2;have:=q2.zero;subst this;cases h;exact .cn
     |cons e es=>
      obtain⟨w,ws,rfl,a2,b2⟩:=r2.uncons;cases q2 with
      |cons c2 d2=>
       unfold ltL at h;split at h
       ·rename_i he;exact .eq (rcF I sk n A.in1 (by omega) d e v w _ _ true a1 c1 a2 c2 he).2.2 (ihl es vs ws _ _ b1 d1 b2 d2 h)
       ·rename_i he;exact .lt (rcF I sk n A.in1 (by omega) d e v w _ _ false a1 c1 a2 c2 he).2.2 (ih A.in1 (by omega) d e v w _ _ k a1 c1 a2 c2 h)
       ·cases h
  unfold ltF at h;split at h
  ·rename_i h0;cases h0
  ·have:=a0a' rd;have:=a0a' re;subst v w
   obtain⟨t,rfl⟩:=ru;obtain⟨t',rfl⟩:=rz;cases h;exact λprog w E Q hq=>(PyProof.Rows.lt_int hq:wpAny (model prog w) A (compareOp .Lt (.int _ t) (.int _ t')) Q E s)
  ·rename_i n' ds es heq;cases heq;obtain⟨a,vs,rfl,h1,r1⟩:=a0r' rd;obtain⟨b,ws,rfl,h2,r2⟩:=a0r' re;cases ru;cases rz;obtain⟨us,q1,p1,_⟩:=I.tuple h1;obtain⟨zs,q2,p2,_⟩:=I.tuple h2;exact LtAt.tuples p1 p2 (by omega) (lex ds es vs ws us zs r1 q1 r2 q2 h)
  ·cases h
def deep:Nat:=40
def isNon:D→Bool
 | .non=>true
 |_=>false
noncomputable def boolR(o:Option Bool)(S:Store):Res D:=match o with
 |some k=>.ok (.bl k) S
 |none=>.fail
noncomputable def anyO(l:List (Option Bool)):Option Bool:=(allO (l.map λo=>o.map not)).map not
noncomputable def inD(d e:D)(S:Store):Option Bool:=match seqOf S e with
 |some xs=>anyO (xs.map λy=>eqF S deep y d)
 |none=>none
noncomputable def leD(d e:D)(S:Store):Res D:=match d,e with
 | .int i,.int j=>.ok (.bl (decide (i≤j))) S
 | .tup a,.tup b=>boolR (leI a b) S
 |_,_=>.fail
noncomputable def gtD(d e:D)(S:Store):Res D:=match d,e with
 | .int i,.int j=>.ok (.bl (decide (j<i))) S
 |_,_=>.fail
noncomputable def geD(d e:D)(S:Store):Res D:=match d,e with
 | .int i,.int j=>.ok (.bl (decide (j≤i))) S
 |_,_=>.fail
noncomputable def isD(d e:D)(S:Store):Res D:=match e with
 | .non=>.ok (.bl (isNon d)) S
 |_=>.fail
noncomputable def b1j'(d e:D)(S:Store):Res D:=match e with
 | .non=>.ok (.bl (!isNon d)) S
 |_=>.fail
noncomputable def cmpD(op:CmpOp)(d e:D)(S:Store):Res D:=match op with
 | .Eq=>boolR (eqF S deep d e) S
 | .NotEq=>boolR ((eqF S deep d e).map not) S
 | .Lt=>boolR (ltF S deep d e) S
 | .LtE=>leD d e S
 | .Gt=>gtD d e S
 | .GtE=>geD d e S
 | .In=>boolR (inD d e S) S
 | .NotIn=>boolR ((inD d e S).map not) S
 | .Is=>isD d e S
 | .IsNot=>b1j' d e S
theorem b0l'{mg:GS}(r:Rep K mg μ H d v):decide (v=.non)=isNon d:=by
 cases d with
 |non=>cases a3g' r;rfl
 |bl b=>cases a4H' r;rfl
 |int b=>cases a0a' r;rfl
 |str b=>cases a2E' r;rfl
 |tup b=>obtain⟨a,vs,rfl,_⟩:=a0r' r;rfl
 |lst b=>unfold Rep at r;obtain⟨a,vs,rfl,_⟩:=r;rfl
 |ref b=>unfold Rep at r;obtain⟨a,rfl,_⟩:=r;rfl
 |scr b=>unfold Rep at r;obtain⟨a,vs,rfl,_⟩:=r;rfl
 |fn b=>unfold Rep at r;obtain⟨a,rfl,_⟩:=r;rfl
 |dct=>unfold Rep at r;obtain⟨a,rfl,_⟩:=r;rfl
 |dks b=>unfold Rep at r;obtain⟨a,_,rfl,_⟩:=r;rfl
 |ty n=>unfold Rep at r;cases r;rfl
theorem a0X'{mg:GS}{Q:VK}{o:Option Bool}(w:Want K mg μ H Q (boolR o S))(sk:SOk K mg μ S H):∃k,o=some k∧Q (.bl k) H:=by
 cases o with
 |none=>exact w.elim
 |some k=>exact⟨k,rfl,w.now sk repBl⟩
theorem a9q'{l:List (Option Bool)}{k:Bool}(h:anyO l=some k):(∀o∈l,o.isSome=true)∧k=l.any (λo=>o==some true):=by
 unfold anyO at h;obtain⟨k1,e1,e2⟩:=Z2.mp h;subst e2;clear h
 induction l generalizing k1 with
 |nil=>cases e1;exact⟨by simp,rfl⟩
 |cons o r ih=>
  rw[ZE]at e1;unfold allO at e1;split at e1
  ·rename_i b c e3 e4;cases e1;obtain⟨h1,h2⟩:=ih c e4;obtain⟨b',rfl,e5⟩:=Z2.mp e3;subst e5;refine⟨λo ho=>?_,?_⟩
   ·rcases Zo.mp ho with rfl|ho
    ·rfl
    ·exact h1 o ho
   ·rw[List.any_cons,←h2];cases b'<;>cases c<;>rfl
  ·cases e1
theorem in_at(I:Inv X pq σ H s)(sk:SOk X.K ⟨X.mg,F⟩ μ S H)(hu:A.units+64<cLine){e:D}{w:V}{z:Value}{k:Bool}(rd:Rep X.K ⟨X.mg,F⟩ μ H d v)(ru:RelV v u)(re:Rep X.K ⟨X.mg,F⟩ μ H e w)(rz:RelV w z)
  (h:inD d e S=some k):∃(a:Addr) (its:Lv) (f:Value→Bool),z=.ref a∧(s.heap.IsList a its.toArray∨s.heap.IsTuple a its.toArray)∧(∀y∈its.toArray,EqAt A.in1 s y u (f y))∧its.toArray.any f=k:=by
 unfold inD at h;split at h
 ·rename_i xs e1;obtain⟨a,vs,rfl,hq,r⟩:=a3N' sk re e1;cases rz
  obtain⟨its,q,hp⟩:∃its,Vals vs its∧(s.heap.IsList a its.toArray∨s.heap.IsTuple a its.toArray):=by
   rcases hq with hq|hq
   ·obtain⟨its,q,p,_⟩:=I.list hq;exact⟨its,q,.inl p.isList⟩
   ·obtain⟨its,q,p,_⟩:=I.tuple hq;exact⟨its,q,.inr p⟩
  have hin:A.in1.units=A.units+1:=rfl;have hd:deep=40:=rfl;obtain⟨h1,h2⟩:=a9q' h
  classical
  have at_:∀(j:Nat) (x:D) (y:Value),xs[j]?=some x→its[j]?=some y→∀b,eqF S deep x d=some b→EqAt A.in1 s y u b:=λj x y hx hy b hb=>by obtain⟨v',h3,h4⟩:=r.get hx;obtain⟨y',h5,h6⟩:=q.get h3;rw[hy]at h5;cases h5;exact(rcF I sk deep A.in1 (by omega) x d v' v _ u b h4 h6 rd ru hb).2.2
  have len:xs.length=its.length:=r.length.trans q.length;refine⟨a,its,λy=>decide (∃(j:Nat) (x:D),its[j]?=some y∧xs[j]?=some x∧eqF S deep x d=some true),rfl,hp,λy hy=>?_,?_⟩
  ·obtain⟨j,hj,ej⟩:=ZQ.mp (show y∈its by simpa using hy);have hy':its[j]?=some y:=by rw[Zm hj,ej]
   have hx':xs[j]?=some (xs[j]'(by omega)):=Zm _;by_cases hc:∃(j:Nat) (x:D),its[j]?=some y∧xs[j]?=some x∧eqF S deep x d=some true
   ·obtain⟨j',x',c1,c2,c3⟩:=id hc;show EqAt A.in1 s y u (decide (∃(j:Nat) (x:D),its[j]?=some y∧xs[j]?=some x∧eqF S deep x d=some true));rw[ZI hc];exact at_ j' x' y c2 c1 true c3
   ·show EqAt A.in1 s y u (decide (∃(j:Nat) (x:D),its[j]?=some y∧xs[j]?=some x∧eqF S deep x d=some true));rw[ZM hc];obtain⟨b,hb⟩:=Option.isSome_iff_exists.mp (h1 (eqF S deep (xs[j]'(by omega)) d) (Zq.mpr ⟨_,Zv hx',rfl⟩));cases b with
    |false=>exact at_ j _ y hx' hy' false hb
    |true=>exact absurd ⟨j,_,hy',hx',hb⟩ hc
  ·rw[h2];apply Bool.eq_iff_iff.mpr;rw[List.any_toArray,List.any_eq_true,List.any_eq_true];constructor
   ·rintro⟨y,hy,hd⟩;obtain⟨j,x,c1,c2,c3⟩:=of_decide_eq_true hd;exact⟨some true,Zq.mpr ⟨x,Zv c2,c3⟩,rfl⟩
   ·rintro⟨o,ho,hd⟩;obtain⟨x,hx,rfl⟩:=Zq.mp ho;obtain⟨j,hj,ej⟩:=ZQ.mp hx;have hx':xs[j]?=some x:=by rw[Zm hj,ej]
    have hy':its[j]?=some (its[j]'(by omega)):=Zm _;exact⟨_,Zv hy',ZI ⟨j,x,hy',hx',by simpa using hd⟩⟩
 ·cases h
theorem cmp_D(op:CmpOp)(hu:X.A.units+64<cLine):OpR X (compareOp op) (rD X.K X.mg (cmpD op)):=by
 intro pq s σ H x y v u Q I rx ry h;obtain⟨F,μ,S,d,e,sk,rd,re,w⟩:=h;have hd:deep=40:=rfl;have fin:∀{k:Bool},Q (.bl k) H→EP X pq σ Q (.bool k) s:=λ{k} q=>⟨.bl k,H,I,rfl,q⟩;cases op with
 |Eq=>obtain⟨k,e1,q⟩:=a0X' (o:=eqF S deep d e) w sk;exact(rcF I sk deep X.A (by omega) d e x y v u k rd rx re ry e1).1 X.prog X.w _ _ (fin q)
 |NotEq=>obtain⟨k,e1,q⟩:=a0X' (o:=(eqF S deep d e).map not) w sk;obtain⟨k',e2,rfl⟩:=Z2.mp e1;exact(rcF I sk deep X.A (by omega) d e x y v u k' rd rx re ry e2).2.1 X.prog X.w _ _ (fin q)
 |Lt=>obtain⟨k,e1,q⟩:=a0X' (o:=ltF S deep d e) w sk;exact ltF_at I sk deep X.A (by omega) d e x y v u k rd rx re ry e1 X.prog X.w _ _ (fin q)
 |LtE=>
  replace w:Want X.K ⟨X.mg,F⟩ μ H Q (leD d e S):=w;unfold leD at w;split at w
  ·have:=a0a' rd;have:=a0a' re;subst x y
   exact op_le pq s σ H _ _ v u Q I rx ry ⟨_,_,rfl,rfl,w.now sk repBl⟩
  ·rename_i as bs;obtain⟨k,e1,q⟩:=a0X' (o:=leI as bs) w sk;obtain⟨a,vs,rfl,h1,r1⟩:=a0r' rd;obtain⟨b,ws,rfl,h2,r2⟩:=a0r' re;cases rx;cases ry;obtain⟨us,q1,p1,_⟩:=I.tuple h1;obtain⟨zs,q2,p2,_⟩:=I.tuple h2;exact a9p' p1 p2 (by omega) (leI_at as bs vs ws us zs k r1 q1 r2 q2 e1) X.prog X.w _ _ (fin q)
  ·exact w.elim
 |Gt=>
  replace w:Want X.K ⟨X.mg,F⟩ μ H Q (gtD d e S):=w;unfold gtD at w;split at w
  ·have:=a0a' rd;have:=a0a' re;subst x y
   exact op_gt pq s σ H _ _ v u Q I rx ry ⟨_,_,rfl,rfl,w.now sk repBl⟩
  ·exact w.elim
 |GtE=>
  replace w:Want X.K ⟨X.mg,F⟩ μ H Q (geD d e S):=w;unfold geD at w;split at w
  ·have:=a0a' rd;have:=a0a' re;subst x y
   exact op_ge pq s σ H _ _ v u Q I rx ry ⟨_,_,rfl,rfl,w.now sk repBl⟩
  ·exact w.elim
 |In=>
  obtain⟨k,e1,q⟩:=a0X' (o:=inD d e S) w sk;obtain⟨a,its,f,rfl,hp,hf,rfl⟩:=in_at I sk (A:=X.A) hu rd rx re ry e1;rcases hp with hp|hp
  ·exact in_listAt f hp hf (fin q)
  ·exact in_tupleAt f hp hf (fin q)
 |NotIn=>
  obtain⟨k,e1,q⟩:=a0X' (o:=(inD d e S).map not) w sk;obtain⟨k',e2,rfl⟩:=Z2.mp e1;obtain⟨a,its,f,rfl,hp,hf,rfl⟩:=in_at I sk (A:=X.A) hu rd rx re ry e2;rcases hp with hp|hp
  ·exact notIn_listAt f hp hf (fin q)
  ·exact notIn_tupleAt f hp hf (fin q)
 |Is=>
  replace w:Want X.K ⟨X.mg,F⟩ μ H Q (isD d e S):=w;unfold isD at w;split at w
  ·cases a3g' re;exact op_isN pq s σ H _ _ v u Q I rx ry ⟨rfl,by rw[b0l' rd];exact w.now sk repBl⟩
  ·exact w.elim
 |IsNot=>
  replace w:Want X.K ⟨X.mg,F⟩ μ H Q (b1j' d e S):=w;unfold b1j' at w;split at w
  ·cases a3g' re;exact op_notN pq s σ H _ _ v u Q I rx ry ⟨rfl,by rw[b0l' rd];exact w.now sk repBl⟩
  ·exact w.elim
end Py
namespace Py
def rC(K:Fg)(mg:Mg)(g:List D→Store→Res D):List V→Hp→VK→Prop:=λxs H Q=>∃F μ S ds,SOk K ⟨mg,F⟩ μ S H∧RepL K ⟨mg,F⟩ μ H ds xs∧Want K ⟨mg,F⟩ μ H Q (g ds S)
theorem RepL.one{mg:GS}{vs:List V}(r:RepL K mg μ H [d] vs):∃v,vs=[v]∧Rep K mg μ H d v:=by obtain⟨v,ws,rfl,h,t⟩:=r.uncons;unfold RepL at t;subst t;exact⟨v,rfl,h⟩
theorem RepL.two{mg:GS}{e:D}{vs:List V}(r:RepL K mg μ H [d,e] vs):∃v w,vs=[v,w]∧Rep K mg μ H d v∧Rep K mg μ H e w:=by obtain⟨v,ws,rfl,h,t⟩:=r.uncons;obtain⟨w,rfl,h2⟩:=t.one;exact⟨v,w,rfl,h,h2⟩
theorem atI_rep{mg:GS}{vs:List V}{i:Int}(r:RepL K mg μ H ds vs)(h:atI ds i=some d):∃v,atI vs i=some v∧Rep K mg μ H d v:=by
 unfold atI at h⊢;rw[←r.length];cases e:ixN ds.length i with
 |none=>rw[e]at h;cases h
 |some j=>rw[e]at h;exact r.get h
noncomputable def idxD(d e:D)(S:Store):Res D:=match seqOf S d,e with
 |some xs,.int i=>match atI xs i with
  |some y=>.ok y S
  |none=>.fail
 |_,_=>.fail
theorem ix_D:IxR X (rD X.K X.mg idxD):=by
 intro value slice pq s σ H x y v u Q I rx ry h hsub;obtain⟨F,μ,S,d,e,sk,rd,re,w⟩:=h;unfold idxD at w;split at w
 ·rename_i xs i e1;split at w
  ·rename_i y' e2;obtain⟨a,vs,rfl,hq,r⟩:=a3N' sk rd e1;cases a0a' re;obtain⟨z,h1,h2⟩:=atI_rep r e2;rcases hq with hq|hq
   ·exact ix_list value slice pq s σ H _ _ v u Q I rx ry ⟨a,vs,i,z,rfl,rfl,hq,h1,w.now sk h2⟩ hsub
   ·exact ix_tup value slice pq s σ H _ _ v u Q I rx ry ⟨a,vs,i,z,rfl,rfl,hq,h1,w.now sk h2⟩ hsub
  ·exact w.elim
 ·exact w.elim
noncomputable def lenD(ds:List D)(S:Store):Res D:=match ds with
 | [.str x]=>if x.length≤big then .ok (.int x.length) S else .fail
 | [d]=>match seqOf S d with
  |some xs=>.ok (.int xs.length) S
  |none=>.fail
 |_=>.fail
theorem len_D:CallR X (.builtin "len") (rC X.K X.mg lenD):=by
 intro pq s σ H xs us Q I r h;obtain⟨F,μ,S,ds,sk,rd,w⟩:=h;have hb:=a7y';unfold lenD at w;split at w
 ·split at w
  ·obtain⟨v,rfl,hv⟩:=rd.one;cases a2E' hv;exact a5o' pq s σ H _ us Q I r ⟨_,rfl,by omega,w.now sk a0L'⟩
  ·exact w.elim
 ·split at w
  ·rename_i xs' e;obtain⟨v,rfl,hv⟩:=rd.one;obtain⟨a,vs,rfl,hq,r2⟩:=a3N' sk hv e;refine a5n' pq s σ H _ us Q I r ⟨a,vs,rfl,hq,?_⟩;rw[←r2.length];exact w.now sk a0L'
  ·exact w.elim
 ·exact w.elim
noncomputable def a3H'(ds:List D)(S:Store):Res D:=match ds with
 | [.tup xs]=>.ok (.tup xs) S
 | [d]=>match seqOf S d with
  |some xs=>.ok (.tup xs) S
  |none=>.fail
 |_=>.fail
theorem a7D'{mg:GS}(s:SOk K mg μ S H)(r:Rep K mg μ H d v)(e:seqOf S d=some xs)(hd:∀ys,d≠.tup ys):∃a vs,v=.ref a∧SqL K H a vs∧RepL K mg μ H xs vs:=by
 cases d with
 |lst ys=>obtain⟨a,vs,e1,h,q⟩:=a0O' s r (show a2Q' S (.lst ys)=some xs from e);exact⟨a,vs,e1,.of h,q⟩
 |ref n=>obtain⟨a,vs,e1,h,q⟩:=a0O' s r (show a2Q' S (.ref n)=some xs from e);exact⟨a,vs,e1,.of h,q⟩
 |tup ys=>exact absurd rfl (hd ys)
 |scr ys=>unfold seqOf at e;cases e;unfold Rep at r;obtain⟨a,vs,e,h,q⟩:=r;exact⟨a,vs,e,h.sq,q⟩
 |_=>cases e
theorem tuple_D:CallR X (.type "tuple") (rC X.K X.mg a3H'):=by
 intro pq s σ H xs us Q I r h;obtain⟨F,μ,S,ds,sk,rd,w⟩:=h;unfold a3H' at w;split at w
 ·obtain⟨v,rfl,hv⟩:=rd.one;obtain⟨a,vs,rfl,hq,r2⟩:=a0r' hv;exact a2D' pq s σ H _ us Q I r ⟨a,vs,rfl,.inr ⟨hq,w.now sk hv⟩⟩
 ·rename_i d hd;split at w
  ·rename_i xs' e;obtain⟨v,rfl,hv⟩:=rd.one;obtain⟨a,vs,rfl,hq,r2⟩:=a7D' sk hv e (λys z=>hd ys (by rw[z]));exact a2D' pq s σ H _ us Q I r ⟨a,vs,rfl,.inl ⟨hq,λp hp=>w.tup sk r2 p hp⟩⟩
  ·exact w.elim
 ·exact w.elim
noncomputable def intD(ds:List D)(S:Store):Res D:=match ds with
 | [.int i]=>.ok (.int i) S
 | [.bl b]=>.ok (.int (if b then 1 else 0)) S
 |_=>.fail
theorem int_D:CallR X (.type "int") (rC X.K X.mg intD):=by
 intro pq s σ H xs us Q I r h;obtain⟨F,μ,S,ds,sk,rd,w⟩:=h;unfold intD at w;split at w
 ·obtain⟨v,rfl,hv⟩:=rd.one;cases a0a' hv;exact a5X' pq s σ H _ us Q I r (.inl ⟨_,rfl,w.now sk a0L'⟩)
 ·obtain⟨v,rfl,hv⟩:=rd.one;cases a4H' hv;exact a5X' pq s σ H _ us Q I r (.inr ⟨_,rfl,w.now sk a0L'⟩)
 ·exact w.elim
noncomputable def minD(ds:List D)(S:Store):Res D:=match ds with
 | [.int i,.int j]=>.ok (.int (if j<i then j else i)) S
 |_=>.fail
noncomputable def maxD(ds:List D)(S:Store):Res D:=match ds with
 | [.int i,.int j]=>.ok (.int (if j>i then j else i)) S
 |_=>.fail
theorem min_D(hc:X.calm=true):CallR X (.builtin "min") (rC X.K X.mg minD):=by
 intro pq s σ H xs us Q I r h;obtain⟨F,μ,S,ds,sk,rd,w⟩:=h;unfold minD at w;split at w
 ·obtain⟨v,w',rfl,hv,hw⟩:=rd.two;cases a0a' hv;cases a0a' hw;exact a9j' hc pq s σ H _ us Q I r ⟨_,_,rfl,w.now sk a0L'⟩
 ·exact w.elim
theorem max_D(hc:X.calm=true):CallR X (.builtin "max") (rC X.K X.mg maxD):=by
 intro pq s σ H xs us Q I r h;obtain⟨F,μ,S,ds,sk,rd,w⟩:=h;unfold maxD at w;split at w
 ·obtain⟨v,w',rfl,hv,hw⟩:=rd.two;cases a0a' hv;cases a0a' hw;exact a9i' hc pq s σ H _ us Q I r ⟨_,_,rfl,w.now sk a0L'⟩
 ·exact w.elim
noncomputable def truD(S:Store):D→Option Bool
 | .non=>some false
 | .bl b=>some b
 | .int i=>some (i !=0)
 | .str x=>if x.length≤big then some ((x.length:Int) !=0)else none
 |d=>(seqOf S d).map λxs=> !xs.isEmpty
theorem tru_D{mg:GS}{k:Bool}(sk:SOk K mg μ S H)(r:Rep K mg μ H d v)(e:truD S d=some k):TruV K v H k:=by
 have hb:=a7y'
 have seq:∀(xs:List D),seqOf S d=some xs→k= !xs.isEmpty→TruV K v H k:=λxs e1 e2=>by
  obtain⟨a,vs,rfl,hq,q⟩:=a3N' sk r e1;have hl:=q.length;have e3:xs.isEmpty=vs.isEmpty:=by cases xs<;>cases vs<;>simp at hl⊢
  rw[e3]at e2;rcases hq with hq|hq
  ·exact .inl ⟨vs,hq,e2⟩
  ·exact .inr (.inl ⟨vs,hq,e2⟩)
 have sq2:(seqOf S d).map (λxs=> !xs.isEmpty)=some k→TruV K v H k:=λh=>by obtain⟨xs,e1,e2⟩:=Z2.mp h;exact seq xs e1 e2.symm
 cases d with
 |non=>cases a3g' r;cases e;rfl
 |bl b=>cases a4H' r;cases e;rfl
 |int b=>cases a0a' r;cases e;rfl
 |str b=>
  cases a2E' r;replace e:(if b.length≤big then some ((b.length:Int) !=0)else none)=some k:=e;split at e
  ·cases e;exact⟨by omega,rfl⟩
  ·cases e
 |tup b=>exact sq2 e
 |lst b=>exact sq2 e
 |ref b=>exact sq2 e
 |scr b=>exact sq2 e
 |fn b=>exact sq2 e
 |dct=>exact sq2 e
 |dks b=>exact sq2 e
 |ty b=>exact sq2 e
noncomputable def cutL(xs:List D)(lo hi:Option Int):List D:=(xs.drop (HT.sIx xs.length 0 lo)).take (HT.sIx xs.length xs.length hi-HT.sIx xs.length 0 lo)
theorem a7E'{mg:GS}{vs:List V}(r:RepL K mg μ H ds vs):RepL K mg μ H (cutL ds lo hi) (cutV vs lo hi):=by unfold cutL cutV;rw[r.length];exact(r.drop _).take _
noncomputable def slD(d:D)(lo hi:Option Int)(S:Store):Res D:=match d with
 | .tup xs=>.ok (.tup (cutL xs lo hi)) S
 |d=>match seqOf S d with
  |some xs=>.ok (.lst (cutL xs lo hi)) S
  |none=>.fail
def rSl(K:Fg)(mg:Mg):V→Option Int→Option Int→Hp→VK→Prop:=λx lo hi H Q=>∃F μ S d,SOk K ⟨mg,F⟩ μ S H∧Rep K ⟨mg,F⟩ μ H d x∧Want K ⟨mg,F⟩ μ H Q (slD d lo hi S)
theorem a1V'{t:Addr}(ht:IsTup s.heap t items)(hs:s.heap.IsSliceOf sl vl vu .none)(pl:IsPart vl lo)(pu:IsPart vu hi)
  (hw:HT.sIx items.size 0 lo=0∧HT.sIx items.size items.size hi=items.size) (h:Q (.ref t) s):wpAny (model prog w) A (getItem (.ref t) (.ref sl)) Q E s:=by
 obtain⟨os,hos,hcs,hds⟩:=id hs;have hTs:s.TypeIs (.ref sl) "slice":=⟨os,hos,hcs⟩;unfold getItem
 try with_reducible refine ZY ?_
 first|refine Za (Ze ?_)|skip
 refine Za (wpAny_sequenceKey ht.typeIs (by decide) ?_)
 refine Za (ZP (name:=Str.ofString "__getitem__") ht.typeIs PyProof.Rows.slot_tuple_getitem
  (ZH PyProof.Rows.slot_tuple_getitem ht.typeIs entry_tuple_getitem ?_ (args_tuple_getitem _ _)))
 show wpAny _ _ (Builtin.Tuple.tupleItemsOf (.ref t)>>=_) _ _ s;refine Za (tupleItemsOf_ ht ?_);refine Za (wpAny_typeOf hTs ?_);rw[if_pos (by decide)];refine Za (HT.a1q' hs pl pu ?_);have hyes:((((HT.sIx items.size 0 lo:Nat):Int)==0&&(1:Int)==1&&(HT.sIx items.size items.size hi-HT.sIx items.size 0 lo)==items.size)=true):=by rw[hw.1,hw.2];simp
 show wpAny _ _ (if(((HT.sIx items.size 0 lo:Nat):Int)==0&&(1:Int)==1&&(HT.sIx items.size items.size hi-HT.sIx items.size 0 lo)==items.size)=true then _ else _) _ _ s;rw[if_pos hyes];refine Za (m:=Builtin.Tuple.tupleIsExact (.ref t)) ?_;unfold Builtin.Tuple.tupleIsExact;refine Za (wpAny_typeOf ht.typeIs (Ze ?_));rw[if_pos (by decide)];exact Za (wpAny_rule (Ze ⟨_,rfl,Ze h⟩))
theorem sl_D:SlR X (rSl X.K X.mg):=by
 intro pq s σ H x v vl vu lo hi sl Q I rx hs pl pu h;obtain⟨F,μ,S,d,sk,rd,w⟩:=h;unfold slD at w;split at w
 ·rename_i xs;obtain⟨a,vs,rfl,hq,r⟩:=a0r' rd;have hl:=r.length;by_cases hc:HT.sIx vs.length 0 lo=0∧HT.sIx vs.length vs.length hi=vs.length
  ·cases rx;obtain⟨its,rv,ht,hz⟩:=I.tuple hq;have hlen:its.toArray.size=vs.length:=by rw[Zi];exact rv.length.symm
   refine⟨"tuple",_,PyProof.Rows.slot_tuple_getitem.lookup,ht.typeIs,?_⟩;refine a1V' ht hs pl pu (by rw[hlen];exact hc) ⟨.ref a,H,I,rfl,?_⟩;have e:cutL xs lo hi=xs:=by unfold cutL;rw[hl,hc.1,hc.2];simp[←hl]
   rw[e]at w;exact w.now sk rd
  ·exact sl_tup pq s σ H _ v vl vu lo hi sl Q I rx hs pl pu ⟨a,vs,rfl,hq,hc,λp hp=>w.tup sk (a7E' r) p hp⟩
 ·rename_i d hd;split at w
  ·rename_i xs e;obtain⟨a,vs,rfl,hq,r⟩:=a7D' sk rd e (λys z=>hd ys z);exact sl_list pq s σ H _ v vl vu lo hi sl Q I rx hs pl pu ⟨a,vs,rfl,hq,λp hp=>w.lst sk (a7E' r) p hp⟩
  ·exact w.elim
noncomputable def tyName(S:Store):D→Option String
 | .non=>some "NoneType"
 | .bl _=>some "bool"
 | .int _=>some "int"
 | .str _=>some "str"
 | .tup _=>some "tuple"
 | .lst _=>some "list"
 | .ref n=>(S[n]?).map λ_=>"list"
 | .scr _=>some "list"
 | .dct=>some "dict"
 |_=>none
noncomputable def subTy(t c:String):Option Bool:=
 if ["NoneType","bool","int","str","tuple","list","dict"].contains t&&["bool","int","str","tuple","list","dict"].contains c then some (t==c||(t=="bool"&&c=="int"))else none
theorem kit_sub{t c:String}{b:Bool}(h:subTy t c=some b):PySem.W.kitOne K (.type t) (.type c)=some b:=by
 unfold subTy at h;split at h
 ·rename_i hc;rw[Zt]at hc;simp at hc;cases h;obtain⟨h1,h2⟩:=hc;rcases h1 with rfl|rfl|rfl|rfl|rfl|rfl|rfl<;>rcases h2 with rfl|rfl|rfl|rfl|rfl|rfl<;>first|rfl|decide+kernel
 ·cases h
noncomputable def a1k'(ds:List D)(S:Store):Res D:=match ds with
 | [d,.ty c]=>match tyName S d with
  |some t=>boolR (subTy t c) S
  |none=>.fail
 |_=>.fail
theorem b1k':CallR X (.builtin "isinstance") (rC X.K X.mg a1k'):=by
 intro pq s σ H xs us Q I r h;obtain⟨F,μ,S,ds,sk,rd,w⟩:=h;unfold a1k' at w;split at w
 ·rename_i d c;split at w
  ·rename_i t et;obtain⟨b,eb,q⟩:=a0X' w sk;obtain⟨v,z,rfl,hv,hz⟩:=rd.two;have hz':z=.ty c:=by unfold Rep at hz;exact hz
   subst hz';obtain⟨u,y,rfl,ru,ry⟩:=r.two;cases ry;have e:=kit_sub (K:=X.K) eb;have fin:∀tk,EP X pq σ Q (.bool b) {s with toks:=tk}:=λtk=>⟨.bl b,H,I.tok _,rfl,q⟩
   have lst:∀a vs,v=.ref a→SqL X.K H a vs→t="list"→wpAny (model X.prog X.w) X.A (call (.builtin "isinstance") [u,.type c]) (EP X pq σ Q) X.xe s:=λa vs ev hq et=>by subst ev;subst et;cases ru;obtain⟨its,rv,pl,_⟩:=I.list hq;obtain⟨o,h1,h2,_⟩:=pl.isList;exact PySem.W.kia_one PySem.W.kitx_list I.kIn ⟨o,h1,h2⟩ e (λz=>nomatch z) fin
   cases d with
   |non=>cases a3g' hv;cases ru;cases et;exact PySem.W.kia_one PySem.W.kitx_none I.kIn True.intro e (λz=>nomatch z) fin
   |bl b=>cases a4H' hv;cases ru;cases et;exact PySem.W.kia_one PySem.W.kitx_bool I.kIn True.intro e (λz=>nomatch z) fin
   |int b=>cases a0a' hv;obtain⟨t,rfl⟩:=ru;cases et;exact PySem.W.kia_one PySem.W.kitx_int I.kIn True.intro e (λz=>nomatch z) fin
   |str b=>cases a2E' hv;obtain⟨t,rfl⟩:=ru;cases et;exact PySem.W.kia_one PySem.W.kitx_str I.kIn True.intro e (λz=>nomatch z) fin
   |tup b=>obtain⟨a,vs,rfl,hq,_⟩:=a0r' hv;cases ru;cases et;obtain⟨its,rv,p,_⟩:=I.tuple hq;obtain⟨o,h1,h2,_⟩:=p;exact PySem.W.kia_one PySem.W.kitx_tuple I.kIn ⟨o,h1,h2⟩ e (λz=>nomatch z) fin
   |lst b=>obtain⟨a,vs,rfl,hq,_⟩:=a0O' sk hv rfl;cases et;exact lst a vs rfl (.of hq) rfl
   |ref n=>replace et:(S[n]?).map (λ_=>"list")=some t:=et;obtain⟨xs,e1,e2⟩:=Z2.mp et;obtain⟨a,vs,rfl,hq,_⟩:=a0O' sk hv e1;exact lst a vs rfl (.of hq) e2.symm
   |scr b=>unfold Rep at hv;obtain⟨a,vs,rfl,hq,_⟩:=hv;cases et;exact lst a vs rfl hq.sq rfl
   |dct=>unfold Rep at hv;obtain⟨a,rfl,ea⟩:=hv;cases ru;cases et;obtain⟨_,_,vs,_,p⟩:=(show ObjOk X.prog X.w H s.heap a (.dK [])from I.hok a _ ea);obtain⟨o,es,ep,h1,h2,_⟩:=p;exact PySem.W.kia_one PySem.W.kitx_dict I.kIn ⟨o,h1,h2.1⟩ e (λz=>nomatch z) fin
   |fn b=>cases et
   |ty b=>cases et
   |dks b=>cases et
  ·exact w.elim
 ·exact w.elim
def asB:D→Option Bool
 | .bl b=>some b
 |_=>none
noncomputable def allD(ds:List D)(S:Store):Res D:=match ds with
 | [d]=>match seqOf S d with
  |some xs=>boolR (allO (xs.map asB)) S
  |none=>.fail
 |_=>.fail
theorem a7F'{mg:GS}{vs:List V}(r:RepL K mg μ H xs vs)(q:Vals vs its)(h:∀(j:Nat) o,(xs.map asB)[j]?=some o→o=some (eJ (xs.map asB) j)):
  ∀(i:Nat) v,its.toArray[i]?=some v→v=.bool (eJ (xs.map asB) i):=λi v hv=>by
 have l1:=r.length;have l2:=q.length
 have hv':its[i]?=some v:=by simpa using hv
 have hi:i<its.length:=(Zh.mp hv').1;have hx:xs[i]?=some (xs[i]'(by omega)):=Zm _;obtain⟨w,h1,h2⟩:=r.get hx;obtain⟨u,h3,h4⟩:=q.get h1;rw[hv']at h3;cases h3;have h5:=h i (asB (xs[i]'(by omega))) (by rw[ZB,hx];rfl);revert h2 h5;generalize xs[i]'(by omega)=d;intro h2 h5;cases d with
 |bl b=>
  cases a4H' h2;have:b=eJ (xs.map asB) i:=by simpa[asB]using h5
  rw[←this];exact h4
 |_=>cases h5
theorem allany(hc:X.calm=true)(I:Inv X pq σ H s)(sk:SOk X.K ⟨X.mg,F⟩ μ S H)(rd:Rep X.K ⟨X.mg,F⟩ μ H d v)(ru:RelV v u)(e:seqOf S d=some xs)
  (h:∀(j:Nat) o,(xs.map asB)[j]?=some o→o=some (eJ (xs.map asB) j)) (b:Bool→Bool) {Q:VK} {fb:Nat→Bool} (q:Q (.bl (fb xs.length)) H):
  wpAny (model X.prog X.w) X.A.in1 (pyIter u) (λit s₂=>∃I fp wr n P St,it=.ref I∧Walks X.prog X.w X.A.in1 I fp wr n P St∧St 0 s₂.heap∧TruthOf X.prog X.w X.A.in1 P (eJ (xs.map asB))∧
   ∀h' tk,(∀b o,b∉wr→s₂.heap.get? b=some o→h'.get? b=some o)→EP X pq σ Q (.bool (fb n)) {s₂ with heap:=h',toks:=tk}) X.xe s:=by
 obtain⟨a,vs,rfl,hq,r⟩:=a3N' sk rd e;cases ru;have hh:X.A.in1.handled=none:=I.ok.hd hc;rcases hq with hq|hq
 ·obtain⟨its,rv,p,hz⟩:=I.list hq;have ba:=a7F' r rv h;refine wpAny_pyIter_list p.isList ?_;have hne:a≠s.heap.objs.size:=by obtain⟨o,ho,_⟩:=p.isList;exact Zw (Zn ho)
  refine⟨_,_,_,_,_,_,rfl,Walks.list hh s.heap.objs.size a hne its.toArray,⟨⟨_,Zl _ rfl,rfl,rfl⟩,Heap.IsList.push p.isList _⟩,?_,λh' tk kp=>?_⟩
  ·intro i v s' Q' E' hv hq';rw[ba i v hv];exact wpAny_truthy_bool hq'
  ·have hl:its.toArray.size=xs.length:=by rw[Zi,←rv.length,←r.length]
   rw[hl];refine⟨.bl _,H,I.kept (h':=h') (t':=tk) λb o ho=>kp b o ?_ (Zc _ ho),rfl,q⟩;intro z;have z':b=s.heap.objs.size:=by simpa using z
   exact absurd (Zn ho) (by rw[z'];exact Z1 _)
 ·obtain⟨its,rv,p,hz⟩:=I.tuple hq;have ba:=a7F' r rv h;refine wpAny_pyIter_tuple (show s.heap.IsTuple a its.toArray from p) ?_;have hne:a≠s.heap.objs.size:=by obtain⟨o,ho,_⟩:=p;exact Zw (Zn ho)
  refine⟨_,_,_,_,_,_,rfl,Walks.tuple hh s.heap.objs.size a hne its.toArray,⟨⟨_,Zl _ rfl,rfl,rfl⟩,by obtain⟨o,ho,r⟩:=p;exact⟨o,Zc _ ho,r⟩⟩,?_,λh' tk kp=>?_⟩
  ·intro i v s' Q' E' hv hq';rw[ba i v hv];exact wpAny_truthy_bool hq'
  ·have hl:its.toArray.size=xs.length:=by rw[Zi,←rv.length,←r.length]
   rw[hl];refine⟨.bl _,H,I.kept (h':=h') (t':=tk) λb o ho=>kp b o ?_ (Zc _ ho),rfl,q⟩;intro z;have z':b=s.heap.objs.size:=by simpa using z
   exact absurd (Zn ho) (by rw[z'];exact Z1 _)
theorem all_D(hc:X.calm=true):CallR X (.builtin "all") (rC X.K X.mg allD):=by
 intro pq s σ H xs us Q I r h;obtain⟨F,μ,S,ds,sk,rd,w⟩:=h;unfold allD at w;split at w
 ·split at w
  ·rename_i d ys e;obtain⟨k,e1,q⟩:=a0X' w sk;obtain⟨v,rfl,hv⟩:=rd.one;obtain⟨u,rfl,ru⟩:=r.one;obtain⟨h1,h2⟩:=a2X' _ _ e1;have hw:=allany hc I sk hv ru e h1 id (Q:=Q) (fb:=λn=>(List.range n).all (eJ (ys.map asB))) (by rw[Zj]at h2;rw[←h2];exact q);exact call_all_walk (wpAny_mono hw (λit s₂ ⟨I0,fp,wr,n,P,Sx,a1,a2,a3,a4,a5⟩=>⟨I0,fp,wr,n,P,Sx,_,a1,a2,a3,a4,a5⟩) λ_ _ z=>z)
  ·exact w.elim
 ·exact w.elim
def rM(K:Fg)(mg:Mg)(g:D→List D→Store→Res D):V→List V→Hp→VK→Prop:=λx xs H Q=>∃F μ S d ds,SOk K ⟨mg,F⟩ μ S H∧Rep K ⟨mg,F⟩ μ H d x∧RepL K ⟨mg,F⟩ μ H ds xs∧Want K ⟨mg,F⟩ μ H Q (g d ds S)
theorem b0m'{mg:GS}(s:SOk K mg μ S H)(r:Rep K mg μ H (.ref n) v)(e:S[n]?=some xs):∃a vs,v=.ref a∧μ[n]?=some a∧H a=some (.lst vs)∧RepL K mg μ H xs vs:=by unfold Rep at r;obtain⟨a,rfl,h⟩:=r;obtain⟨vs,h1,q⟩:=s.at_ n a xs h e;exact⟨a,vs,rfl,h,h1,q⟩
noncomputable def a3O'(d:D)(ds:List D)(S:Store):Res D:=match d,ds with
 | .ref n,[y]=>match S[n]? with
  |some xs=>if xs.length<big then .ok .non (S.set n (xs++[y]))else .fail
  |none=>.fail
 |_,_=>.fail
theorem b1l':MtR X "list.append" (rM X.K X.mg a3O'):=by
 intro pq s σ H x xs v us Q I rx rs h;obtain⟨F,μ,S,d,ds,sk,rd,rds,w⟩:=h;have hb:=a7y';unfold a3O' at w;split at w
 ·split at w
  ·rename_i n y ys e;split at w
   ·obtain⟨a,vs,rfl,hn,ha,r⟩:=b0m' sk rd e;obtain⟨z,rfl,hz⟩:=rds.one;have hl:=r.length;exact a6d' pq s σ H _ _ v us Q I rx rs ⟨a,vs,z,rfl,rfl,ha,by omega,w.wrote sk hn ha (r.append (.cons hz .nil)) a9o'⟩
   ·exact w.elim
  ·exact w.elim
 ·exact w.elim
noncomputable def clOf(env:Env):List (Str×NameKind)→List (Str×Addr)→List (Str×Addr)
 | [],cs=>cs
 | (n,k)::r,cs=>clOf env r (if k== .free then(match env.cells.lookup n with|some c=>(n,c)::cs|none=>cs)else cs)
theorem a4I'(h:∀x∈scope.names,x.2=.free→∃c,env.cells.lookup x.1=some c):closureFor scope env=pure (clOf env scope.names []):=by
 unfold closureFor
 have key:∀(l:List (Str×NameKind)) (cs:List (Str×Addr)),(∀x∈l,x.2=.free→∃c,env.cells.lookup x.1=some c)→
   (forIn l cs λx r=>(if(x.2==NameKind.free)=true then do let c ←cellOf env x.1;pure (ForInStep.yield ((x.1,c)::r))else pure (ForInStep.yield r):Sem _))=pure (clOf env l cs):=by
  intro l
  induction l with
  |nil=>intro cs _;rfl
  |cons x l ih=>
   intro cs hl;obtain⟨n,k⟩:=x;rw[List.forIn_cons];unfold clOf;by_cases hk:k=.free
   ·subst hk;obtain⟨c,hc⟩:=hl (n,.free) (by simp) rfl;have hc':cellOf env n=pure c:=by unfold cellOf;rw[hc]
    simp only[beq_self_eq_true,if_true,hc',hc];simp only[pure_bind];exact ih _ λy hy=>hl y (Zb _ hy)
   ·have hb:(k==NameKind.free)=false:=by simpa using hk
    simp only[hb,Zr,Z0,pure_bind];exact ih _ λy hy=>hl y (Zb _ hy)
 have:=key scope.names [] h
 first
  | (rw[←this];rfl)
  | (simp only[bind_pure];exact this)
  | (show(do let r ←_;pure r)=_;rw[bind_pure];exact this)
theorem a5p'{env:Env}:∀(l:List (Str×NameKind)) (cs:List (Str×Addr)),(∀p∈cs,env.cells.lookup p.1=some p.2)→∀p∈clOf env l cs,env.cells.lookup p.1=some p.2
 | [],cs,h,p,hp=>h p hp
 | (n,k)::r,cs,h,p,hp=>by
  unfold clOf at hp;refine a5p' r _ (λq hq=>?_) p hp;split at hq
  ·split at hq
   ·rename_i c hc;rcases Zo.mp hq with rfl|hq
    ·exact hc
    ·exact h q hq
   ·exact h q hq
  ·exact h q hq
theorem a7G'{env:Env}:∀(l:List (Str×NameKind)) (cs:List (Str×Addr)),∀p∈cs,p∈clOf env l cs
 | [],cs,p,hp=>hp
 | (n,k)::r,cs,p,hp=>by
  unfold clOf;refine a7G' r _ p ?_;split
  ·split
   ·exact Zb _ hp
   ·exact hp
  ·exact hp
theorem a7H'{env:Env}{x:Str}{c:Addr}(hc:env.cells.lookup x=some c):∀(l:List (Str×NameKind)) (cs:List (Str×Addr)),(x,NameKind.free)∈l→(x,c)∈clOf env l cs
 | [],cs,h=>by cases h
 | (n,k)::r,cs,h=>by
  unfold clOf;rcases Zo.mp h with e|h
  ·cases e;refine a7G' r _ _ ?_;simp only[beq_self_eq_true,if_true,hc];exact Zd
  ·exact a7H' hc r _ h
theorem a2F'{α:Type}{x:Str}{c:α}:∀{l:List (Str×α)},(x,c)∈l→∃d,l.lookup x=some d
 | [],h=>by cases h
 | (n,d)::r,h=>by
  rw[List.lookup_cons];cases e:x==n with
  |true=>exact⟨d,rfl⟩
  |false=>
   rcases Zo.mp h with e2|h
   ·cases e2;simp at e
   ·exact a2F' h
theorem a1W'{env:Env}:∀{names:List (Str×NameKind)} {x:Str} {k:NameKind},(names.map λ(n,k)=>if(k==NameKind.free&&env.scope.kind== .function&&env.kindOf n==some .cell)then(n,NameKind.cell)else(n,k)).lookup x=some k→
  ∃k',names.lookup x=some k'∧(k=k'∨(k'=.free∧k=.cell))
 | [],_,_,h=>by simp at h
 | (n,k0)::r,x,k,h=>by
  have ih:= @a1W' env r x k;rw[ZE]at h;rw[List.lookup_cons];by_cases hc:(k0==NameKind.free&&env.scope.kind== .function&&env.kindOf n==some .cell)=true
  ·simp only[hc,if_true,List.lookup_cons]at h;cases e:x==n with
   |true=>rw[e]at h;cases h;refine⟨k0,rfl,.inr ⟨?_,rfl⟩⟩;rw[Zt,Zt]at hc;exact eq_of_beq hc.1.1
   |false=>rw[e]at h;exact ih h
  ·simp only[hc,Zr,Z0,List.lookup_cons]at h;cases e:x==n with
   |true=>rw[e]at h;cases h;exact⟨k0,rfl,.inl rfl⟩
   |false=>rw[e]at h;exact ih h
theorem a0Y'{env:Env}:∀{names:List (Str×NameKind)} {x:Str},names.lookup x=some .free→
  let m:=(names.map λ(n,k)=>if(k==NameKind.free&&env.scope.kind== .function&&env.kindOf n==some .cell)then(n,NameKind.cell)else(n,k))
  m.lookup x=some .cell∨m.lookup x=some .free
 | [],_,h=>by simp at h
 | (n,k0)::r,x,h=>by
  have ih:= @a0Y' env r x;rw[List.lookup_cons]at h;dsimp only;rw[ZE];by_cases hc:(k0==NameKind.free&&env.scope.kind== .function&&env.kindOf n==some .cell)=true
  ·simp only[hc,if_true,List.lookup_cons];cases e:x==n with
   |true=>exact .inl rfl
   |false=>rw[e]at h;exact ih h
  ·simp only[hc,Zr,Z0,List.lookup_cons];cases e:x==n with
   |true=>rw[e]at h;cases h;exact .inr rfl
   |false=>rw[e]at h;exact ih h
theorem a1X':∀(names:List (Str×NameKind)) (n:Nat) (a b:List (Str×Addr)),cellsFrom n names (a++b)=cellsFrom n names a++b
 | [],_,_,_=>rfl
 | (x,k)::r,n,a,b=>by
  show(if(k==NameKind.cell)=true then cellsFrom (n+1) r ((x,n)::(a++b))else cellsFrom n r (a++b))=(if(k==NameKind.cell)=true then cellsFrom (n+1) r ((x,n)::a)else cellsFrom n r a)++b;split
  ·exact a1X' r (n+1) ((x,n)::a) b
  ·exact a1X' r n a b
theorem a4f'{x:Str}{c:Addr}:∀(names:List (Str×NameKind)) (n:Nat) (a:List (Str×Addr)),(x,c)∈cellsFrom n names a→(x,c)∈a∨(x,NameKind.cell)∈names
 | [],_,_,h=>.inl h
 | (y,k)::r,n,a,h=>by
  replace h:(x,c)∈(if(k==NameKind.cell)=true then cellsFrom (n+1) r ((y,n)::a)else cellsFrom n r a):=h;split at h
  ·rename_i hk;rcases a4f' r (n+1) _ h with h|h
   ·rcases Zo.mp h with h|h
    ·injection h with h _
     subst h;have:k=.cell:=by simpa using hk
     subst this;exact .inr Zd
    ·exact .inl h
   ·exact .inr (Zb _ h)
  ·rcases a4f' r n _ h with h|h
   ·exact .inl h
   ·exact .inr (Zb _ h)
theorem a5q'{M:Model}{A:Around}{E:Vs}:∀(names:List (Str×NameKind)) (cs:List (Str×Addr)) (s:Shared) (Q:List (Str×Addr)→Shared→Prop),Q (cellsFrom s.heap.objs.size names cs) {s with heap:=pushCells s.heap names}→
  wpAny M A (forIn names cs λx r=>match x with
   | (name,kind)=>if(kind==NameKind.cell)=true then do
     let c ←alloc {cls:=Value.type "cell",data:=Data.cell none}
     pure (ForInStep.yield ((name,c)::r))
    else pure (ForInStep.yield r)) Q E s
 | [],cs,s,Q,h=>by rw[List.forIn_nil];exact Ze h
 | (x,k)::r,cs,s,Q,h=>by
  rw[List.forIn_cons];have h:Q (if(k==NameKind.cell)=true then cellsFrom (s.heap.objs.size+1) r ((x,s.heap.objs.size)::cs)else cellsFrom s.heap.objs.size r cs) {s with heap:=if(k==NameKind.cell)=true then pushCells (s.heap.push {cls:=.type "cell",data:=.cell none}) r else pushCells s.heap r}:=h;cases hk:(k==NameKind.cell)with
  |true=>rw[hk,if_pos rfl,if_pos rfl]at h;refine Za ?_;show wpAny M A (if(k==NameKind.cell)=true then _ else _) _ _ _;rw[hk,if_pos rfl];refine Za (wpAny_alloc (Ze ?_));refine a5q' r _ {s with heap:=s.heap.push {cls:=.type "cell",data:=.cell none}} Q ?_;show Q (cellsFrom (s.heap.push {cls:=.type "cell",data:=.cell none}).objs.size r _) _;rw[Heap.size_push];exact h
  |false=>rw[hk,if_neg (by decide),if_neg (by decide)]at h;refine Za ?_;show wpAny M A (if(k==NameKind.cell)=true then _ else _) _ _ _;rw[hk,if_neg (by decide)];refine Ze ?_;exact a5q' r _ s Q h
theorem a9r'{M:Model}{A:Around}{E:Vs}{g:Addr}{cl:List (Str×Addr)}{q:Str}{out:Env}{bl:Addr}{Q:Env→Shared→Prop}
  (h:Q ⟨scope,s.heap.objs.size,g,cellsFrom (s.heap.objs.size+1) scope.names cl,q,none,out.code,out.frame,out.builtins⟩ {s with heap:=pushCells (s.heap.push {cls:=.type "dict",data:=.dict #[]}) scope.names}):
  wpAny M A (newFunctionEnv scope g cl [] q none .none (some out) bl) Q E s:=by
 unfold newFunctionEnv;refine Za (wpAny_alloc (Za (a5q' scope.names cl _ _ ?_)));show wpAny M A (forIn ([]:List (Str×Value)) PUnit.unit _>>=λ_=>pure _) _ _ _;rw[List.forIn_nil];refine Za (Ze (Ze ?_));have e:(s.heap.push {cls:=Value.type (if(some out).isSome=true then "dict" else "frame"),data:=Data.dict #[]}).objs.size=s.heap.objs.size+1:=Heap.size_push ..;show Q ⟨scope,s.heap.objs.size,g,cellsFrom (s.heap.push {cls:=Value.type (if(some out).isSome=true then "dict" else "frame"),data:=Data.dict #[]}).objs.size scope.names cl,q,none,out.code,out.frame,out.builtins⟩ _;rw[e];exact h
noncomputable def cxC(X:Cx)(scope:Scope)(N:Ls)(C:Addr)(s0:Shared)(H0:Hp)(fp:La):Cx:=
 {X with N:=N,s₀:=s0,H₀:=H0,env:=compEnvC scope (cellsFrom (C+1) scope.names (clOf X.env scope.names [])) C X.env,outer:=X.stack,stack:=X.stack,ex:=fp,fn:=λx=>scope.names.lookup x==some .cell,pn:=[],xe:=λ_ _=>False}
structure CScope (X:Cx)(scope:Scope):Prop where
 kind:scope.kind=.function
 cel:∀y∈scope.names,y.2=.cell→scope.names.lookup y.1=some .cell
 loc:∀y∈scope.names,y.2=.local→scope.names.lookup y.1=some .local
 free:∀y∈scope.names,y.2=.free→X.env.kindOf y.1=some .cell∨X.env.kindOf y.1=some .free
theorem fs_of(I:Inv X pq σ H s){b:Addr}(h1:b≠X.env.locals)(h2:b∉X.fs):b∉frs X.stack:=λz=>(Zo.mp (I.stkSub b z)).elim h1 h2
theorem a0I'{x:Str}{c:Addr}(h:(cellsFrom n scope.names (clOf X.env scope.names [])).lookup x=some c):(cellsFrom n scope.names []).lookup x=some c∨((cellsFrom n scope.names []).lookup x=none∧(clOf X.env scope.names []).lookup x=some c):=by
 have e:=a1X' scope.names n [] (clOf X.env scope.names []);rw[List.nil_append]at e;rw[e,List.lookup_append]at h;cases z:(cellsFrom n scope.names []).lookup x with
 |some d=>rw[z]at h;exact .inl h
 |none=>rw[z]at h;exact .inr ⟨rfl,h⟩
theorem a9s'{x:Str}{c:Addr}(h:(cellsFrom n scope.names []).lookup x=some c):(cellsFrom n scope.names (clOf X.env scope.names [])).lookup x=some c:=by have e:=a1X' scope.names n [] (clOf X.env scope.names []);rw[List.nil_append]at e;rw[e,List.lookup_append,h];rfl
theorem a7I'{x:Str}{c:Addr}(h:(cellsFrom n scope.names []).lookup x=none)(h2:(clOf X.env scope.names []).lookup x=some c):(cellsFrom n scope.names (clOf X.env scope.names [])).lookup x=some c:=by have e:=a1X' scope.names n [] (clOf X.env scope.names []);rw[List.nil_append]at e;rw[e,List.lookup_append,h];exact h2
theorem b1m'{m:Mg}{tk:Nat}(hc:X.calm=true)(I:Inv X pq σ H s)(sc:CScope X scope)(hf:∀b∈fp,FpOk X pq H b)(hfo:∀b∈fp,∃o,s.heap.get? b=some o)
  (hn:h1.Ns s.heap.objs.size m) (old:∀b o,s.heap.get? b=some o→h1.get? b=some o) (hcl:CellsOk h1 (s.heap.objs.size+1) (cellsFrom (s.heap.objs.size+1) scope.names [])) (hl:σ'.length=N.length)
  (hσ:∀(i:Nat) (v:V) (x:Str),N[i]?=some x→σ'[i]?=some (some v)→scope.names.lookup x=some .free∧∃j:Nat,X.N[j]?=some x∧σ[j]?=some (some v)):
  Inv (cxC X scope N s.heap.objs.size s H fp) (X.pn++pq) σ' H {s with heap:=h1,toks:=tk}:=by
 have lt:∀{b:Addr} {o:Obj},s.heap.get? b=some o→b≠s.heap.objs.size:=λe=>Zw (Zn e);have cl1:∀x c,(clOf X.env scope.names []).lookup x=some c→X.env.cells.lookup x=some c:=λx c h=>a5p' scope.names [] (λ_ z=>nomatch z) (x,c) (ZA h);have cellLt:∀x c,X.env.cells.lookup x=some c→c<s.heap.objs.size:=λx c h=>by obtain⟨v,q⟩:=I.cell x c h;exact q.lt
 have ownC:∀x c,(cellsFrom (s.heap.objs.size+1) scope.names []).lookup x=some c→h1.IsCell c none∧s.heap.objs.size+1≤c:=λx c h=>hcl.empty x c (ZA h)
 have ownK:∀x c,(cellsFrom (s.heap.objs.size+1) scope.names []).lookup x=some c→scope.names.lookup x=some .cell:=λx c h=>by
  rcases a4f' scope.names _ _ (ZA h)with z|z
  ·cases z
  ·exact sc.cel _ z rfl
 have has:∀x,scope.names.lookup x=some .free→(cellsFrom (s.heap.objs.size+1) scope.names []).lookup x=none∧∃c,(clOf X.env scope.names []).lookup x=some c:=λx h=>by
  refine⟨?_,?_⟩
  ·cases z:(cellsFrom (s.heap.objs.size+1) scope.names []).lookup x with
   |none=>rfl
   |some c=>have:=ownK x c z;rw[h]at this;cases this
  ·have hm:=ZA h;obtain⟨c,hcc⟩:=I.ok.has x (sc.free _ hm rfl);exact a2F' (a7H' hcc scope.names [] hm)
 have kindC:∀x,((cxC X scope N s.heap.objs.size s H fp).env.kindOf x=some .cell∨(cxC X scope N s.heap.objs.size s H fp).env.kindOf x=some .free)→scope.names.lookup x=some .free∨scope.names.lookup x=some .cell:=λx h=>by
  have go:∀k,(k=NameKind.cell∨k=.free)→(relabel scope X.env).names.lookup x=some k→scope.names.lookup x=some .free∨scope.names.lookup x=some .cell:=λk hk h=>by
   obtain⟨k',h1,h2⟩:=a1W' h;rcases h2 with rfl| ⟨rfl,_⟩
   ·rcases hk with rfl|rfl
    ·exact .inr h1
    ·exact .inl h1
   ·exact .inl h1
  rcases h with h|h
  ·exact go _ (.inl rfl) h
  ·exact go _ (.inr rfl) h
 have apart:∀x y c,(cellsFrom (s.heap.objs.size+1) scope.names []).lookup x=some c→(cellsFrom (s.heap.objs.size+1) scope.names []).lookup y=some c→x=y:=λx y c h1 h2=>by
  have m1:=ZA h1;have m2:=ZA h2;have ap:=hcl.apart;generalize cellsFrom (s.heap.objs.size+1) scope.names []=l at m1 m2 ap
  induction l with
  |nil=>cases m1
  |cons p l ih=>
   obtain⟨a1,a2⟩:=ZW.mp ap;rcases Zo.mp m1 with rfl|n1
   ·rcases Zo.mp m2 with z|n2
    ·injection z with z _;exact z.symm
    ·exact(a1 (y,c) n2 rfl).elim
   ·rcases Zo.mp m2 with rfl|n2
    ·exact(a1 (x,c) n1 rfl).elim
    ·exact ih n1 n2 a2
 refine⟨⟨I.ok.mod,?_,I.ok.glob,I.ok.blt,Zk _,λx y c h1 h2=>?_,λx h=>?_,λx c h h2=>?_,I.ok.hd,I.ok.frames,.inl rfl,λb hb=>?_,I.bs,ZS I.ok.bsz I.sz,λb o e hb=>?_,λb hb=>?_,I.stack,I.stkFree⟩,
  rfl,I.bare,Un.kept old,⟨m,hn,λi x v e1 e2 e3=>?_⟩,λx c h=>?_,I.hok.fresh (Zk _),λx c h=>?_,λp hp=>?_,I.hok.kept old,hl⟩
 ·show(relabel scope X.env).kind=.function;unfold relabel;exact sc.kind
 ·rcases a0I' h1 with z| ⟨_,z⟩<;>rcases a0I' h2 with y'| ⟨_,y'⟩
  ·exact apart x y c z y'
  ·exact absurd (cellLt _ _ (cl1 _ _ y')) (Nat.not_lt.mpr (Nat.le_of_succ_le (ownC _ _ z).2))
  ·exact absurd (cellLt _ _ (cl1 _ _ z)) (Nat.not_lt.mpr (Nat.le_of_succ_le (ownC _ _ y').2))
  ·exact I.ok.inj x y c (cl1 x c z) (cl1 y c y')
 ·rcases kindC x h with h|h
  ·obtain⟨z,c,hc2⟩:=has x h;exact⟨c,a7I' z hc2⟩
  ·have:=PySem.W.cellsFrom_some (x:=x) scope.names (s.heap.objs.size+1) [] (.inl h);obtain⟨c,hc2⟩:=Option.isSome_iff_exists.mp this;exact⟨c,a9s' hc2⟩
 ·have hk:scope.names.lookup x=some .cell:=by simpa[cxC]using h
  rcases a0I' h2 with z| ⟨z,_⟩
  ·exact Nat.le_of_succ_le (ownC _ _ z).2
  ·have:=PySem.W.cellsFrom_some (x:=x) scope.names (s.heap.objs.size+1) [] (.inl hk);rw[z]at this;cases this
 ·obtain⟨f0,f1,f2,f3,f4,f5⟩:=hf b hb;obtain⟨o,ho⟩:=hfo b hb;refine⟨lt ho,λx c h=>?_⟩;rcases a0I' h with z| ⟨_,z⟩
  ·exact λq=>absurd (Zn ho) (Nat.not_lt.mpr (q▸Nat.le_of_succ_le (ownC _ _ z).2))
  ·exact f4 x c (cl1 x c z)
 ·obtain⟨f0,f1,f2,f3,f4,f5⟩:=hf b hb;rcases f3 with f3|f3
  ·exact I.ok.noex b o e f3
  ·exact absurd (Zn (I.ok.bs b o e).1) (Nat.not_lt.mpr f3)
 ·obtain⟨f0,f1,f2,f3,f4,f5⟩:=hf b hb;exact fs_of I f1 f2
 ·obtain⟨g1,j,g2,g3⟩:=hσ i v x e1 e2;obtain⟨m0,_,l0⟩:=I.loc
  have hv:Vis X.env.scope x:=by
   rcases sc.free _ (ZA g1) rfl with q|q
   ·exact .inr (.inl q)
   ·exact .inr (.inr q)
  obtain⟨u,r,q⟩:=l0 j x v g2 g3 hv;refine⟨u,r,.inr ⟨a0Y' g1,?_⟩⟩;obtain⟨z,c,hcl⟩:=has x g1;have hcc:=cl1 x c hcl;refine⟨c,a7I' z hcl,?_⟩;have kx:=sc.free _ (ZA g1) rfl;rcases q with⟨q,_⟩| ⟨_,c',q1,q2⟩
  ·rcases kx with kx|kx
   ·rw[q]at kx;cases kx
   ·rw[q]at kx;cases kx
  ·rw[hcc]at q1;cases q1;obtain⟨o,ho,hd⟩:=q2;exact⟨o,old _ _ ho,hd⟩
 ·rcases a0I' h with z| ⟨_,z⟩
  ·exact⟨none,(ownC _ _ z).1⟩
  ·obtain⟨v,o,ho,hd⟩:=I.cell x c (cl1 x c z);exact⟨v,o,old _ _ ho,hd⟩
 ·rcases a0I' h with z| ⟨_,z⟩
  ·exact I.hok.fresh (Nat.le_of_succ_le (ownC _ _ z).2)
  ·exact I.freeC x c (cl1 x c z)
 ·have hp':p∈X.pn++pq:=by simpa[cxC]using hp
  obtain⟨e,n,ne,nf,d⟩:=I.pin p hp';exact⟨old _ _ e,n,lt e,fs_of I ne nf,d⟩
theorem b1n'(I:Inv X pq σ H s)(hf:∀b∈fp,FpOk X pq H b)(hC:C=s.heap.objs.size)(J:Inv (cxC X scope N C s H fp) pins' σ' H' s')(hs:Heap.SameBut C s'.heap h'):
  Inv X pq σ H' {s' with heap:=h'}:=by
 have ne:∀{b:Addr} {o:Obj},s.heap.get? b=some o→b≠C:=λe=>by rw[hC];exact Zw (Zn e)
 have B:Un (frs X.stack) fp H H' s.heap s'.heap:=J.base
 have u:Un (frs X.stack) fp H H' s.heap h':=
  ⟨λb o e n hb he=>(hs.2 b (ne e)).trans (B.keep b o e n hb he),λb o e n hb he=>by obtain⟨sl,q⟩:=B.slot b o e n hb he;exact⟨sl,(hs.2 b (ne e)).trans q⟩,B.free,
   λb o e he=>by obtain⟨o',q⟩:=B.there b o e he;exact⟨o',(hs.2 b (ne e)).trans q⟩,B.tups,B.frzs,B.tbls⟩
 have hfree:H' C=none:=J.free
 have hok:HOk X.prog X.w H' h':=λb ob e=>by
  refine(J.hok b ob e).stay (λc w' hc q=>(hs.2 c ?_).trans q) (λ_ q=>q) λ_ _ q=>q;rintro rfl;rcases hc with rfl|hc
  ·rw[hfree]at e;cases e
  ·rw[hfree]at hc;cases hc
 exact I.call' (s':={s' with heap:=h'}) (ch:=fp) J.os u hok J.bare λb hb=>by obtain⟨f0,f1,f2,f3,f4,f5⟩:=hf b hb;exact⟨f3,f1,f4,f5⟩
def PB(X:Cx)(body:Sem Unit)(t:L2.St→Hp→(L2.St→Hp→Prop)→Prop):Prop:=
 ∀(pq:Lp) (s:Shared) (σ:L2.St) (H:Hp) (Q:L2.St→Hp→Prop),Inv X pq σ H s→t σ H Q→wpAny (model X.prog X.w) X.A body (λ_ s'=>∃σ' H',Inv X pq σ' H' s'∧Q σ' H') X.xe s
theorem noteF{m:Sem α}{Q:α→Shared→Prop}(hx:X.xe=λ_ _=>False)(h:wpAny M A m Q X.xe s):wpAny M A m Q E s:=by rw[hx]at h;exact wpAny_mono h (λ_ _ q=>q) λ_ _ z=>z.elim
noncomputable def isLS:Expr→Bool
 | .ListComp .. =>true
 | .SetComp .. =>true
 |_=>false
theorem a6f'(h:isLS ce=true){d:Nat}{it acc:Value}:(model prog w).den (.compLoop ce d it acc env)=(compTurn ce d it acc env).onRaise (λx=>do noteFrame x env;theTreesLotGoes x)∧A.under (.compLoop ce d it acc env)=A∧(model prog w).den (.compStart ce d it acc env)=(compStart ce d it acc env).onRaise (λx=>do noteFrame x env;standAt theWindowsPlace)∧A.under (.compStart ce d it acc env)=A:=by cases ce<;>first|exact⟨rfl,rfl,rfl,rfl⟩|cases h
theorem a6g'{d:Nat}{acc:Value}{p:Pos}{body:Sem Unit}{g:TG}{tb:L2.St→Hp→(L2.St→Hp→Prop)→Prop}{R:Result→Shared→Prop}{Fin:L2.St→Hp→Prop}
  (hls:isLS ce=true) (hx:X.xe=λ_ _=>False) (hc:X.calm=true)
  (heq:compTurn ce d (.ref it) acc X.env=(standAt p>>=λ_=>pyNext (.ref it)>>=λr=>match r with
   |none=>pure (.done .next)
   |some v=>letOwnedTupleGo tg (.ref it) v>>=λ_=>assign tg X.env v>>=λ_=>body>>=λ_=>again (.compLoop ce d (.ref it) acc X.env)))
  (T:Turn X.prog X.w X.K tg J fp it tn) (hg:PG X tg g) (hb:PB X body tb) (I:Inv X pq σ H s) (st:tn 0 s.heap) (hf:∀b∈fp,FpOk X pq H b)
  (W:∃W:Nat→Nat→L2.St→Hp→Prop,(∃m,W 0 m σ H)∧∀i m σ H,W i m σ H→
   (J.stop i H∧Fin σ H)∨(J.go i H∧∃Nx:L2.St→Hp→Prop,(∀σ' H',Nx σ' H'→∃m',m'<m∧W (i+1) m' σ' H')∧∀x H',J.yld i H x H'→g x σ H' λσ2 H2=>tb σ2 H2 Nx))
  (hR:∀s' σ' H',Inv X pq σ' H' s'→(∀b∈fp,H' b=none)→Fin σ' H'→R (.ok .next) s'):codeAny (model X.prog X.w) X.A (.compLoop ce d (.ref it) acc X.env) R s:=by
 obtain⟨W,⟨m0,w0⟩,turn⟩:=W;have stat:∀{H':Hp},(∀b∈fp,H' b=none)→∀b∈fp,FpOk X pq H' b:=λhn b hb=>⟨hn b hb,(hf b hb).2⟩;refine codeAny_loop rfl (λn s'=>∃i σ' H',Inv X pq σ' H' s'∧tn i s'.heap∧(∀b∈fp,H' b=none)∧W i n σ' H') ?_ m0 ⟨0,σ,H,I,st,λb hb=>(hf b hb).1,w0⟩;rintro n s3 ⟨i,σ3,H3,I3,st3,fr3,w3⟩;rw[(a6f' (A:=X.A) hls).1,(a6f' (prog:=X.prog) (w:=X.w) hls).2.1];refine wpAny_noted ?_;rw[heq];refine Za (wpAny_standAt ?_);rcases turn i n σ3 H3 w3 with⟨stop,qn⟩| ⟨go,Nx,hN,step⟩
 ·refine Za (noteF hx (thn (T.done X rfl rfl rfl hc i pq s3 σ3 H3 X.xe I3 (stat fr3) st3 stop) λr s4 ⟨hr,I4⟩=>?_));subst hr;exact Ze (hR s4 σ3 H3 I4 fr3 qn)
 ·refine Za (noteF hx (thn (T.item X rfl rfl rfl hc i pq s3 σ3 H3 X.xe I3 (stat fr3) st3 go) λr s4 ⟨u,hr,h4⟩=>?_));subst hr;refine Za (noteF hx (thn h4 λ_ s5 ⟨x,H5,I5,r5,y5,st5,fr5⟩=>?_));have I5':=I5.pinned (stat fr5) (T.obj _ _ st5);refine Za (noteF hx (thn (hg _ s5 σ3 H5 x u _ I5' r5 (step x H5 y5)) λ_ s6 ⟨σ6,H6,I6,q6⟩=>?_));refine Za (noteF hx (thn (hb _ s6 σ6 H6 _ I6 q6) λ_ s7 ⟨σ7,H7,I7,n7⟩=>?_));refine Ze ?_;obtain⟨m',hm,w7⟩:=hN σ7 H7 n7;refine⟨rfl,m',hm,i+1,σ7,H7,I7.unpinned,T.keep _ _ _ st5 λb hb o e=>(I7.pin (b,o) (Zx _ (Zx _ (a1U' hb e)))).1,λb hb=>?_,w7⟩;obtain⟨o,e,d⟩:=T.obj _ _ st5 b hb;exact(I7.pin (b,o) (Zx _ (Zx _ (a1U' hb e)))).2.1
theorem a3h'{R:Result→Shared→Prop}{d:Nat}{it acc:Value}{t i:Expr}{fs:Lx}(hls:isLS ce=true)(hg:(clausesOf ce)[d]?=some ⟨t,i,fs,0⟩)
  (h0:codeAny (model prog w) A (.compLoop ce d it acc env) R s)
  (h:wpAny (model prog w) A (pyIter it) (λit' s'=>codeAny (model prog w) A (.compLoop ce d it' acc env) R s') (notedBy (model prog w) A env λx s'=>R (.error x) s') s):
  codeAny (model prog w) A (.compStart ce d it acc env) R s:=by
 refine codeAny_of_tree ?_;rw[(a6f' (A:=A) hls).2.2.1,(a6f' (prog:=prog) (w:=w) hls).2.2.2];refine wpAny_notedAt ?_;unfold compStart;rw[hg];show wpAny _ _ (ask>>=_) _ _ s;refine Za (wpAny_askSetting (wpAny_ite ?_));split
 ·first
   |exact Za (Ze (Ze (And.intro rfl h0)))
   |exact Ze (And.intro rfl h0)
 ·first
   |exact Za (wpAny_rule (Za (wpAny_standAt (Za (wpAny_mono h (λit' s' h'=>Ze (And.intro rfl h')) λ_ _ x=>x)))))
   | (refine Za (wpAny_rule ?_);show wpAny _ _ (standAt i.pos>>=_) _ _ s;exact Za (wpAny_standAt (Za (wpAny_mono h (λit' s' h'=>Ze (And.intro rfl h')) λ_ _ x=>x))))
abbrev TU:=L2.St→Hp→(L2.St→Hp→Prop)→Prop
noncomputable def a9t':List TT→(L2.St→Hp→(Bool→Hp→Prop)→Prop)
 | []=>λ_ H Q=>Q true H
 |t::r=>λσ H Q=>t σ H λb H1=>if b=true then a9t' r σ H1 Q else Q false H1
def PTs(X:Cx):Lx→List TT→Prop
 | [],[]=>True
 |e::es,t::ts=>PT X e t∧PTs X es ts
 |_,_=>False
theorem a3P'{M:Model}{A:Around}{E:Vs}{env:Env}{Q:Bool→Shared→Prop}{s:Shared}:∀(ifs:Lx),Q false s→
  wpAny M A (forIn ifs false λc r=>if r=true then do let ok ←isTrue c env (eval c env);pure (ForInStep.yield ok)else pure (ForInStep.yield r)) Q E s
 | [],h=>Ze h
 |c::r,h=>by rw[List.forIn_cons];simp only[Zr,Z0];exact Za (Ze (a3P' r h))
theorem a7J':∀(ifs:Lx) (ts:List TT),PTs X ifs ts→∀(pq:Lp) (s:Shared) (σ:L2.St) (H:Hp) (Q:Bool→Hp→Prop),Inv X pq σ H s→a9t' ts σ H Q→
  wpAny (model X.prog X.w) X.A (forIn ifs true λc r=>if r=true then do let ok ←isTrue c X.env (eval c X.env);pure (ForInStep.yield ok)else pure (ForInStep.yield r)) (TP X pq σ Q) X.xe s
 | [],[],_,pq,s,σ,H,Q,I,h=>Ze ⟨H,I,h⟩
 |e::es,t::ts,p,pq,s,σ,H,Q,I,h=>by
  rw[List.forIn_cons];simp only[if_true];refine Za (Za (thn (p.1 pq s σ H _ I h) λb s1 ⟨H1,I1,q1⟩=>Ze ?_));cases b with
  |true=>rw[if_pos rfl]at q1;exact a7J' es ts p.2 pq s1 σ H1 Q I1 q1
  |false=>rw[if_neg (by decide)]at q1;exact a3P' es ⟨H1,I1,q1⟩
 | [],_::_,p,_,_,_,_,_,_,_=>p.elim
 |_::_,[],p,_,_,_,_,_,_,_=>p.elim
noncomputable def tEmit(acc:Addr)(te:TE):TU:=λσ H Q=>te σ H λv H1=>∃ys,H1 acc=some (.lst ys)∧ys.length<sizeLine∧Q σ (upd H1 acc (.lst (ys++[v])))
noncomputable def tWhen(ts:List TT)(t:TU):TU:=λσ H Q=>a9t' ts σ H λb H1=>if b=true then t σ H1 Q else Q σ H1
noncomputable def tInner(wi:TI)(g:TG)(tb:TU):TU:=λσ H Q=>wi σ H λJ H1=>∃W:Nat→Nat→L2.St→Hp→Prop,(∃m,W 0 m σ H1)∧∀i m σ H,W i m σ H→
   (J.stop i H∧Q σ H)∨(J.go i H∧∃Nx:L2.St→Hp→Prop,(∀σ' H',Nx σ' H'→∃m',m'<m∧W (i+1) m' σ' H')∧∀x H',J.yld i H x H'→g x σ H' λσ2 H2=>tb σ2 H2 Nx)
def tComp(o0:Addr→HO)(cs:L2.St→L2.St)(wi:TI)(g:TG)(tb:Addr→TU):TE:=λσ H Q=>wi σ H λJ H1=>∀acc,H1 acc=none→
 ∃W:Nat→Nat→L2.St→Hp→Prop,(∃m,W 0 m (cs σ) (upd H1 acc (o0 acc)))∧∀i m σ H,W i m σ H→
   (J.stop i H∧Q (.ref acc) H)∨(J.go i H∧∃Nx:L2.St→Hp→Prop,(∀σ' H',Nx σ' H'→∃m',m'<m∧W (i+1) m' σ' H')∧∀x H',J.yld i H x H'→g x σ H' λσ2 H2=>tb acc σ2 H2 Nx)
def CsOk(X:Cx)(scope:Scope)(N:Ls)(cs:L2.St→L2.St):Prop:=∀σ:L2.St,σ.length=X.N.length→(cs σ).length=N.length∧
 ∀(i:Nat) (v:V) (x:Str),N[i]?=some x→(cs σ)[i]?=some (some v)→scope.names.lookup x=some .free∧∃j:Nat,X.N[j]?=some x∧σ[j]?=some (some v)
theorem a7K'(I:Inv X pq σ H s)(sc:CScope X scope):closureFor scope X.env=pure (clOf X.env scope.names []):=
 a4I' λx hx hk=>I.ok.has x.1 (sc.free x hx hk)
theorem a9u'(h3:Heap)(d:Obj)(names:List (Str×NameKind)):CellsOk (pushCells (h3.push d) names) (h3.objs.size+1) (cellsFrom (h3.objs.size+1) names []):=by have e:(h3.push d).objs.size=h3.objs.size+1:=Heap.size_push ..;have:=cellsFrom_ok names (h3.push d) (h3.objs.size+1) [] ⟨(λ_ _ h=>by cases h),.nil⟩ (by rw[e];exact Zk _);rw[e]at this;exact this
theorem a4g'{ob:Obj}{o0:Addr→HO}{mk:Sem Value}{scope:Scope}{N:Ls}{cs:L2.St→L2.St}{J:It}{g:TG}{tb:Addr→TU}{R:Value→Addr→Result→Shared→Prop}{Fin:V→Hp→Prop}
  {pq:Lp} {σ:L2.St} {H:Hp}  {it:Addr} {fp:La} {tn:Nat→Heap→Prop} {E:Vs} (hls:isLS ce=true) (hce:clausesOf ce=⟨tg,iter,ifs,0⟩::rest) (hmk:∀{s:Shared} {Q:Vs},Q (.ref s.heap.objs.size) {s with heap:=s.heap.push ob}→wpAny (model X.prog X.w) X.A mk Q E s) (hob:ObjOk X.prog X.w (upd H s.heap.objs.size (o0 s.heap.objs.size)) (s.heap.push ob) s.heap.objs.size (o0 s.heap.objs.size)) (hc:X.calm=true) (sc:CScope X scope) (hcs:CsOk X scope N cs) (I:Inv X pq σ H s) (T:Turn X.prog X.w X.K tg J fp it tn) (st:tn 0 s.heap) (hf:∀b∈fp,FpOk X pq H b)
  (body:Addr→Env→Sem Unit)
  (heq:∀(acc:Addr) (env:Env),compTurn ce 0 (.ref it) (.ref acc) env=(standAt iter.pos>>=λ_=>pyNext (.ref it)>>=λr=>match r with
   |none=>pure (.done .next)
   |some v=>letOwnedTupleGo tg (.ref it) v>>=λ_=>assign tg env v>>=λ_=>body acc env>>=λ_=>again (.compLoop ce 0 (.ref it) (.ref acc) env)))
  (hin:∀(C:Addr) (s0:Shared) (H0:Hp) (fp:La) (acc:Addr),PG (cxC X scope N C s0 H0 fp) tg g∧PB (cxC X scope N C s0 H0 fp) (body acc (cxC X scope N C s0 H0 fp).env) (tb acc))
  (W:∀acc,H acc=none→∃W:Nat→Nat→L2.St→Hp→Prop,(∃m,W 0 m (cs σ) (upd H acc (o0 acc)))∧∀i m σ H,W i m σ H→
   (J.stop i H∧Fin (.ref acc) H)∨(J.go i H∧∃Nx:L2.St→Hp→Prop,(∀σ' H',Nx σ' H'→∃m',m'<m∧W (i+1) m' σ' H')∧∀x H',J.yld i H x H'→g x σ H' λσ2 H2=>tb acc σ2 H2 Nx))
  (hR:∀(acc C:Addr) (s':Shared) (H':Hp) (m:Mg),s'.heap.Ns C m→C≠X.env.locals→(∀x c,X.env.cells.lookup x=some c→c≠C)→H' C=none→X.s₀.heap.objs.size≤C→(∀p∈X.pn++pq,p.1≠C)→(∀h',Heap.SameBut C s'.heap h'→Inv X pq σ H' {s' with heap:=h'})→Fin (.ref acc) H'→R (.ref acc) C (.ok .next) s'):
  wpAny (model X.prog X.w) X.A mk (λacc s₃=>wpAny (model X.prog X.w) X.A (newFunctionEnv scope X.env.globals (clOf X.env scope.names []) [] X.env.qual none .none (some X.env)) (λcenv s₄=>
   codeAny (model X.prog X.w) X.A (.compStart ce 0 (.ref it) acc {cenv with scope:=relabel scope X.env}) (R acc cenv.locals) s₄) E s₃) E s:=by
 refine hmk (a9r' ?_);have hfr:H s.heap.objs.size=none:=I.hok.fresh (Zk _);have I3:Inv X pq σ (upd H s.heap.objs.size (o0 s.heap.objs.size)) {s with heap:=s.heap.push ob,toks:=s.toks}:=I.laid (t':=s.toks) (λb o e=>Zc _ e) (Zk _) hob;have fpl:∀b∈fp,∃o,s.heap.get? b=some o:=λb hb=>by obtain⟨o,e,_⟩:=T.obj _ _ st b hb;exact⟨o,e⟩
 have hf3:∀b∈fp,FpOk X pq (upd H s.heap.objs.size (o0 s.heap.objs.size)) b:=λb hb=>by obtain⟨f0,f1⟩:=hf b hb;obtain⟨o,ho⟩:=fpl b hb;exact⟨by rw[a0p' (Zw (Zn ho))];exact f0,f1⟩
 have fpl3:∀b∈fp,∃o,(s.heap.push ob).get? b=some o:=λb hb=>by obtain⟨o,ho⟩:=fpl b hb;exact⟨o,Zc _ ho⟩
 obtain⟨k1,k2⟩:=hcs σ I.len;obtain⟨h₁,eh⟩:∃h₁,h₁=pushCells ((s.heap.push ob).push {cls:=.type "dict",data:=.dict #[]}) scope.names:=⟨_,rfl⟩;have old3:∀b o,(s.heap.push ob).get? b=some o→h₁.get? b=some o:=λb o e=>by rw[eh];exact pushCells_keeps _ _ _ _ (Zc _ e)
 have hns₁:h₁.Ns (s.heap.push ob).objs.size λ_=>none:=by rw[eh];exact⟨_,_,_,pushCells_keeps _ _ _ _ (Zl _ rfl),rfl,(λx h=>by simp at h),λ_=>rfl⟩
 have hcl:CellsOk h₁ ((s.heap.push ob).objs.size+1) (cellsFrom ((s.heap.push ob).objs.size+1) scope.names []):=by rw[eh];exact a9u' _ _ _
 rw[←eh];have J0:=b1m' (tk:=s.toks) (N:=N) (scope:=scope) (σ':=cs σ) hc I3 sc hf3 fpl3 hns₁ old3 hcl k1 k2;have old:∀b o,s.heap.get? b=some o→h₁.get? b=some o:=λb o e=>old3 b o (Zc _ e);have st1:tn 0 h₁:=T.keep _ _ _ st λb _ o e=>old b o e;have hlt:X.env.locals<(s.heap.push ob).objs.size:=I3.lt
 have loop:codeAny (model X.prog X.w) X.A (.compLoop ce 0 (.ref it) (.ref s.heap.objs.size) (cxC X scope N (s.heap.push ob).objs.size {s with heap:=s.heap.push ob,toks:=s.toks} (upd H s.heap.objs.size (o0 s.heap.objs.size)) fp).env)
   (R (.ref s.heap.objs.size) (s.heap.push ob).objs.size) {s with heap:=h₁,toks:=s.toks}:=by
  obtain⟨p1,p2⟩:=hin (s.heap.push ob).objs.size {s with heap:=s.heap.push ob,toks:=s.toks} (upd H s.heap.objs.size (o0 s.heap.objs.size)) fp s.heap.objs.size;refine a6g' (X:=cxC X scope N _ _ _ fp) (Fin:=λ_ H'=>Fin (.ref s.heap.objs.size) H') hls rfl hc (heq _ _) T p1 p2 J0 st1 (λb hb=>?_) ?_ ?_
  ·obtain⟨f0,f1,f2,f3,f4,f5⟩:=hf3 b hb;obtain⟨o,ho⟩:=fpl3 b hb;refine⟨f0,Zw (Zn ho),fs_of I3 f1 f2,.inl hb,λx c h=>?_,λp hp=>f5 p (by simpa[cxC]using hp)⟩;rcases a0I' h with z| ⟨_,z⟩
   ·exact λq=>absurd (Zn ho) (Nat.not_lt.mpr (q▸Nat.le_of_succ_le (hcl.empty x c (ZA z)).2))
   ·exact f4 x c (a5p' scope.names [] (λ_ z=>nomatch z) (x,c) (ZA z))
  ·exact W _ hfr
  ·intro s' σ' H' J1 _ fin;obtain⟨m,hm,_⟩:=id J1.loc;refine hR _ _ s' H' m hm (Nat.ne_of_gt hlt) (λx c h z=>?_) J1.free I3.sz (λp hp z=>?_) (λh' hs'=>?_) fin
   ·obtain⟨v,q⟩:=I3.cell x c h;exact absurd q.lt (by rw[z];exact Z1 _)
   ·exact absurd (Zn (I3.pin p hp).1) (by rw[z];exact Z1 _)
   ·exact b1n' I3 hf3 rfl J1 hs'
 exact a3h' hls (by rw[hce];rfl) loop (T.self _ 0 _ _ _ st1 loop)
theorem pe_comp{pos:Pos}{cs:L2.St→L2.St}{g:TG}{tb:Addr→TU}(hc:X.calm=true)(sc:CScope X scope)(hcs:CsOk X scope N cs)(hi:PI X tg iter wi)(body:Addr→Env→Sem Unit)
  (heq:∀(it acc:Addr) (env:Env),compTurn (.ListComp elt (⟨tg,iter,ifs,0⟩::rest) scope pos) 0 (.ref it) (.ref acc) env=(standAt iter.pos>>=λ_=>pyNext (.ref it)>>=λr=>match r with
   |none=>pure (.done .next)
   |some v=>letOwnedTupleGo tg (.ref it) v>>=λ_=>assign tg env v>>=λ_=>body acc env>>=λ_=>again (.compLoop (.ListComp elt (⟨tg,iter,ifs,0⟩::rest) scope pos) 0 (.ref it) (.ref acc) env)))
  (hin:∀(C:Addr) (s0:Shared) (H0:Hp) (fp:La) (acc:Addr),PG (cxC X scope N C s0 H0 fp) tg g∧PB (cxC X scope N C s0 H0 fp) (body acc (cxC X scope N C s0 H0 fp).env) (tb acc))
  (hs:∀x,foldedSetIterable iter X.env x=pure x:=by intro _;rfl):PE X (.ListComp elt (⟨tg,iter,ifs,0⟩::rest) scope pos) (tComp (λ_=>.lst []) cs wi g tb):=by
 intro pq s σ H Q I h;rw[eval_ListComp];refine wpAny_comprehension_free (use:=none) rfl hs (a7K' I sc) sc.kind sc.loc (wpAny_mono (hi pq s σ H _ I h) (λv s1 h1=>wpAny_mono h1 (λitv s2 h2=>?_) λ_ _ e=>e) λ_ _ e=>e);obtain⟨it,fp,tn,J,H2,e,I2,T,st2,f2,W⟩:=h2;subst e;refine a4g' (o0:=λ_=>.lst []) rfl rfl (λq=>ZD q) ⟨Nat.zero_le _,[],0,.nil,Zl _ rfl⟩ (R:=λacc C=>compPost (model X.prog X.w) X.A X.xe none (EP X pq σ Q) acc C) (Fin:=Q) hc sc hcs I2 T st2 f2 body (heq it) hin W ?_;intro acc C s' H' m hm _ _ _ _ _ hI fin;exact⟨m,hm,λh' hs'=>⟨.ref acc,H',hI h' hs',rfl,fin⟩⟩
theorem ps_comp{pos spos px:Pos}{cs:L2.St→L2.St}{g:TG}{tb:Addr→TU}{x:Str}{j:Nat}(hc:X.calm=true)(hN:X.N.Nodup)(hj:X.N[j]?=some x)(hx:X.env.scope.names.lookup x=some .local)
  (hsw:swapsWith (.ListComp elt (⟨tg,iter,ifs,0⟩::rest) scope pos) (some (.Name x px)) spos.line X.env=pure true)
  (sc:CScope X scope) (hcs:CsOk X scope N cs) (hi:PI X tg iter wi) (body:Addr→Env→Sem Unit)
  (heq:∀(it acc:Addr) (env:Env),compTurn (.ListComp elt (⟨tg,iter,ifs,0⟩::rest) scope pos) 0 (.ref it) (.ref acc) env=(standAt iter.pos>>=λ_=>pyNext (.ref it)>>=λr=>match r with
   |none=>pure (.done .next)
   |some v=>letOwnedTupleGo tg (.ref it) v>>=λ_=>assign tg env v>>=λ_=>body acc env>>=λ_=>again (.compLoop (.ListComp elt (⟨tg,iter,ifs,0⟩::rest) scope pos) 0 (.ref it) (.ref acc) env)))
  (hin:∀(C:Addr) (s0:Shared) (H0:Hp) (fp:La) (acc:Addr),PG (cxC X scope N C s0 H0 fp) tg g∧PB (cxC X scope N C s0 H0 fp) (body acc (cxC X scope N C s0 H0 fp).env) (tb acc))
  (hs:∀x,foldedSetIterable iter X.env x=pure x:=by intro _;rfl):PS X (.Assign [.Name x px] (.ListComp elt (⟨tg,iter,ifs,0⟩::rest) scope pos) spos) (tAsg (tComp (λ_=>.lst []) cs wi g tb) (gName j)):=by
 intro pq s σ H D I h;rw[exec_Assign_Name_used _ _ _ _ hsw];refine Za (wpAny_standAt (Za ?_));show wpAny _ X.A (do let _ ←comprehension (.ListComp elt (⟨tg,iter,ifs,0⟩::rest) scope pos) scope X.env _ (newList []) false (eval iter X.env) (some (assign (.Name x px) X.env))) _ _ s
 refine Za (wpAny_mono (wpAny_comprehension_free (use:=some (assign (.Name x px) X.env)) (Q:=λ_ s'=>SP X pq D .next s') rfl hs (a7K' I sc) sc.kind sc.loc
  (wpAny_mono (hi pq s σ H _ I h) (λv s1 h1=>wpAny_mono h1 (λitv s2 h2=>?_) λ_ _ e=>e) λ_ _ e=>e)) (λ_ s' hq=>Ze (Ze hq)) λ_ _ e=>e)
 obtain⟨it,fp,tn,J,H2,e,I2,T,st2,f2,W⟩:=h2;subst e;refine a4g' (o0:=λ_=>.lst []) rfl rfl (λq=>ZD q) ⟨Nat.zero_le _,[],0,.nil,Zl _ rfl⟩ (R:=λacc C=>compPost (model X.prog X.w) X.A X.xe (some (assign (.Name x px) X.env)) (λ_ s'=>SP X pq D .next s') acc C) (Fin:=λv H'=>gName j v σ H' D.nx) hc sc hcs I2 T st2 f2 body (heq it) hin W ?_;intro acc C s' H' m hm hCL hCc hC1 hC2 hC3 hI fin;show wpAny _ X.A (assign (.Name x px) X.env (.ref acc)) _ _ s'
 have I4:Inv X pq σ H' s':=by have:=hI s'.heap (.refl ..);simpa using this
 refine wpAny_assign_Name (a5W' I4 hN hj (.inl hx) (v:=.ref acc) rfl (λs'' I5 hch=>?_) (.inr hx));obtain⟨a,hsb,ha⟩:=hch
 have hCa:C≠a:=by
  rcases ha with rfl|ha
  ·exact hCL
  ·exact λz=>hCc x a ha z.symm
 refine⟨m,hm.sameBut hsb hCa,λh' hs'=>?_⟩;exact⟨_,H',I5.turned (h':=h') (t':=s''.toks) (it:=C) (λb o hb e=>(hs'.2 b hb).trans e) hC1 hCL (.inr hC2) hCc hC3,fin⟩
end Py
variable {tb:Addr→Py.TU}
namespace Py
noncomputable def intsD:List D→Option (Li)
 | []=>some []
 | .int i::r=>(intsD r).map (i:: ·)
 |_=>none
theorem a2Y':∀{xs:List D} {ns:Li},intsD xs=some ns→xs=ns.map D.int
 | [],ns,h=>by cases h;rfl
 |x::xs,ns,h=>by
  cases x with
  |int i=>
   unfold intsD at h;cases e:intsD xs with
   |none=>rw[e]at h;cases h
   |some ms=>rw[e]at h;cases h;rw[a2Y' e];rfl
  |_=>cases h
noncomputable def a3i'(ds:List D)(S:Store):Res D:=match ds with
 | [d]=>match a2Q' S d with
  |some xs=>match intsD xs with
   |some (n::ns)=>.ok (.int (ns.foldl max n)) S
   |_=>.fail
  |none=>(match d with
   | .tup xs=>(match intsD xs with
    |some (n::ns)=>.ok (.int (ns.foldl max n)) S
    |_=>.fail)
   |_=>.fail)
 |ds=>maxD ds S
theorem a6h'{lt:Int→Int→Bool}(hg:∀a b,g a b=if lt b a=true then b else a)(n:Int)(ns:Li):∀k,k≤ns.length→(n::ns).getD (argBest (λi j=>lt ((n::ns).getD i 0) ((n::ns).getD j 0)) k) 0=(ns.take k).foldl g n:=by
 intro k
 induction k with
 |zero=>intro _;rfl
 |succ k ih=>
  intro h;have hk:=ih (by omega);have e:ns.take (k+1)=ns.take k++[ns[k]]:=by rw[List.take_succ,Zm (by omega)];rfl
  have e2:(n::ns).getD (k+1) 0=ns[k]:=by simp[List.getD,Zm (show k<ns.length by omega)]
  rw[e,List.foldl_append,List.foldl_cons,List.foldl_nil,hg,←hk,argBest];rw[e2];split
  ·exact e2
  ·rfl
theorem a1F':∀{its:Lv},Vals (ns.map V.int) its→∀i v,its.toArray[i]?=some v→∃t,v=Value.int (ns.getD i 0) t:=λ{its} rv i v hv=>by
 have hl:=rv.length;simp only[Zj]at hl;have hv':its[i]?=some v:=by simpa using hv
 have hi:i<ns.length:=by rw[hl];exact(Zh.mp hv').1
 have e1:(ns.map V.int)[i]?=some (.int ns[i]):=by rw[ZB,Zm hi];rfl
 obtain⟨u,e2,ru⟩:=rv.get e1;rw[hv']at e2;cases e2;obtain⟨t,rfl⟩:=ru;exact⟨t,by simp[List.getD,Zm hi]⟩
theorem a4h'{mg:GS}:∀(ns:Li) (vs:List V),RepL K mg μ H (ns.map D.int) vs→vs=ns.map V.int:=by
 intro ns
 induction ns with
 |nil=>intro vs r;unfold RepL at r;exact r
 |cons n ns ih=>intro vs r;obtain⟨v,ws,rfl,r1,r2⟩:=r.uncons;cases a0a' r1;rw[ih ws r2];rfl
theorem max_any(hc:X.calm=true):CallR X (.builtin "max") (rC X.K X.mg a3i'):=by
 intro pq s σ H xs us Q I r h;obtain⟨F,μ,S,ds,sk,rl,w⟩:=h;unfold a3i' at w;split at w
 ·rename_i d;obtain⟨v,rfl,rd⟩:=rl.one;obtain⟨u,rfl,ru⟩:=vals1 r;split at w
  ·rename_i ys e;split at w
   ·rename_i n ns en;have hys:=a2Y' en;subst hys;obtain⟨a,vs,rfl,hq,rr⟩:=a0O' sk rd e;cases ru;have hv:=a4h' _ vs rr;subst hv;have hh:X.A.in1.handled=none:=I.ok.hd hc;obtain⟨its,rv,p,hz⟩:=I.list (.of hq);have hl:its.toArray.size=ns.length+1:=by rw[Zi,←rv.length,Zj];rfl
    refine call_max_walk (wpAny_pyIter_list p.isList ?_);have hlt:a<s.heap.objs.size:=by obtain⟨o,ho,_⟩:=p.isList;exact Zn ho
    have hne:a≠s.heap.objs.size:=Zw hlt;refine⟨_,_,_,_,_,_,λi j=>decide ((n::ns).getD i 0>(n::ns).getD j 0),rfl,Walks.list hh s.heap.objs.size a hne its.toArray,⟨⟨_,Zl _ rfl,rfl,rfl⟩,Heap.IsList.push p.isList _⟩,?_,by omega,?_,λv h' tk hP kp=>?_⟩
    ·intro b hb;have hz2:∀o,(s.heap.push o).objs.size=s.heap.objs.size+1:=λo=>by simp[Heap.push]
     have hb':b=s.heap.objs.size∨b=a:=by simpa using hb
     refine Nat.lt_of_lt_of_eq ?_ (hz2 _).symm;rcases hb' with h|h
     ·rw[h];exact Nat.lt_succ_self _
     ·rw[h];exact Nat.lt_succ_of_lt hlt
    ·intro i j vi vj s' Q' E' hi hj hq';obtain⟨t1,rfl⟩:=a1F' rv i vi hi;obtain⟨t2,rfl⟩:=a1F' rv j vj hj;exact(PyProof.Rows.gt_int hq':wpAny (model X.prog X.w) X.A.in1 (compareOp .Gt _ _) Q' E' s')
    ·obtain⟨t',rfl⟩:=a1F' rv _ v hP;rw[hl]at*;have:=a6h' (g:=max) (lt:=λa b=>decide (a>b)) (λa b=>by simp only[decide_eq_true_eq];omega) n ns ns.length (Zk _);rw[List.take_length]at this;rw[show ns.length+1-1=ns.length from rfl,this];refine⟨.int (ns.foldl max n),H,I.kept (h':=h') (t':=tk) λb o ho=>kp b o ?_ (Zc _ ho),⟨t',rfl⟩,w μ H _ .refl sk a0L'⟩;intro z;have z':b=s.heap.objs.size:=by simpa using z
     exact absurd (Zn ho) (by rw[z'];exact Z1 _)
   ·exact w.elim
  ·split at w
   ·split at w
    ·rename_i n ns en;have hys:=a2Y' en;subst hys;obtain⟨a,vs,rfl,hq,rr⟩:=a0r' rd;cases ru;have hv:=a4h' _ vs rr;subst hv;have hh:X.A.in1.handled=none:=I.ok.hd hc;obtain⟨its,rv,p,hz⟩:=I.tuple hq;have hl:its.toArray.size=ns.length+1:=by rw[Zi,←rv.length,Zj];rfl
     refine call_max_walk (wpAny_pyIter_tuple (show s.heap.IsTuple a its.toArray from p) ?_);have hlt:a<s.heap.objs.size:=by obtain⟨o,ho,_⟩:=p;exact Zn ho
     have hne:a≠s.heap.objs.size:=Zw hlt;refine⟨_,_,_,_,_,_,λi j=>decide ((n::ns).getD i 0>(n::ns).getD j 0),rfl,Walks.tuple hh s.heap.objs.size a hne its.toArray,⟨⟨_,Zl _ rfl,rfl,rfl⟩,Heap.IsTuple.push (show s.heap.IsTuple a its.toArray from p) _⟩,?_,by omega,?_,λv h' tk hP kp=>?_⟩
     ·intro b hb;have hz2:∀o,(s.heap.push o).objs.size=s.heap.objs.size+1:=λo=>by simp[Heap.push]
      have hb':b=s.heap.objs.size∨b=a:=by simpa using hb
      refine Nat.lt_of_lt_of_eq ?_ (hz2 _).symm;rcases hb' with h|h
      ·rw[h];exact Nat.lt_succ_self _
      ·rw[h];exact Nat.lt_succ_of_lt hlt
     ·intro i j vi vj s' Q' E' hi hj hq';obtain⟨t1,rfl⟩:=a1F' rv i vi hi;obtain⟨t2,rfl⟩:=a1F' rv j vj hj;exact(PyProof.Rows.gt_int hq':wpAny (model X.prog X.w) X.A.in1 (compareOp .Gt _ _) Q' E' s')
     ·obtain⟨t',rfl⟩:=a1F' rv _ v hP;rw[hl]at*;have:=a6h' (g:=max) (lt:=λa b=>decide (a>b)) (λa b=>by simp only[decide_eq_true_eq];omega) n ns ns.length (Zk _);rw[List.take_length]at this;rw[show ns.length+1-1=ns.length from rfl,this];refine⟨.int (ns.foldl max n),H,I.kept (h':=h') (t':=tk) λb o ho=>kp b o ?_ (Zc _ ho),⟨t',rfl⟩,w μ H _ .refl sk a0L'⟩;intro z;have z':b=s.heap.objs.size:=by simpa using z
      exact absurd (Zn ho) (by rw[z'];exact Z1 _)
    ·exact w.elim
   ·exact w.elim
 ·exact max_D hc pq s σ H xs us Q I r ⟨F,μ,S,_,sk,rl,w⟩
theorem a7L':∀{ns:Li} {its:Lv},Vals (ns.map V.int) its→PyProof.Rows.IntsAre its ns
 | [],its,r=>by cases r;exact .nil
 |n::ns,its,r=>by
  cases r with
  |cons p q=>obtain⟨t,rfl⟩:=p;exact .cons _ _ (a7L' q)
def a4i'(ds:List D)(S:Store):Res D:=minD ds S
theorem b1o'(hc:X.calm=true)(hu:1=1):CallR X (.builtin "min") (rC X.K X.mg a4i'):=min_D hc
mutual
noncomputable def toPy:D→Option PyData
 | .non=>some .none
 | .bl b=>some (.bool b)
 | .int i=>some (.int i)
 | .str x=>some (.str x)
 | .tup ds=>(toPyL ds).map .tuple
 | .lst ds=>(toPyL ds).map .list
 |_=>none
noncomputable def toPyL:List D→Option (List PyData)
 | []=>some []
 |d::ds=>match toPy d,toPyL ds with
  |some p,some ps=>some (p::ps)
  |_,_=>none
end
mutual
theorem b1p'(I:Inv X pq σ H s):∀(d:D) (v:V) (u:Value) (p:PyData),Rep X.K ⟨X.mg,F⟩ μ H d v→RelV v u→toPy d=some p→p.hasDict=false∧∃as,Reads s.heap u p as
 | .non,v,u,p,r,q,h=>by cases a3g' r;have q:u=.none:=q;subst q;cases h;exact⟨rfl,_,.none⟩
 | .bl b,v,u,p,r,q,h=>by cases a4H' r;have q:u=.bool b:=q;subst q;cases h;exact⟨rfl,_,.bool b⟩
 | .int i,v,u,p,r,q,h=>by cases a0a' r;obtain⟨t,rfl⟩:=q;cases h;exact⟨rfl,_,.int i t⟩
 | .str x,v,u,p,r,q,h=>by cases a2E' r;obtain⟨t,rfl⟩:=q;cases h;exact⟨rfl,_,.str x t⟩
 | .tup ds,v,u,p,r,q,h=>by
  obtain⟨a,vs,rfl,ha,rr⟩:=a0r' r;have q:u=.ref a:=q;subst q;obtain⟨its,rv,⟨o,h1,h2,n,h3⟩,_⟩:=I.tuple ha;have h:(toPyL ds).map PyData.tuple=some p:=h;cases e:toPyL ds with
  |none=>rw[e]at h;cases h
  |some ps=>rw[e]at h;cases h;obtain⟨k1,as,k2⟩:=a4j' I ds vs its ps rr rv e;exact⟨k1,as,.tuple h1 h2 h3 (by simpa using k2)⟩
 | .lst ds,v,u,p,r,q,h=>by
  unfold Rep at r;obtain⟨a,vs,rfl,ha,_,rr⟩:=r;have q:u=.ref a:=q;subst q;obtain⟨its,rv,pl,_⟩:=I.list (.of ha);obtain⟨o,h1,h2,n,h3⟩:=pl.isList;have h:(toPyL ds).map PyData.list=some p:=h;cases e:toPyL ds with
  |none=>rw[e]at h;cases h
  |some ps=>rw[e]at h;cases h;obtain⟨k1,as,k2⟩:=a4j' I ds vs its ps rr rv e;exact⟨k1,_,.list h1 h2 h3 (by simpa using k2)⟩
 | .ref _,v,u,p,r,q,h=>by cases h
 | .scr _,v,u,p,r,q,h=>by cases h
 | .fn _,v,u,p,r,q,h=>by cases h
 | .dct,v,u,p,r,q,h=>by cases h
 | .dks _,v,u,p,r,q,h=>by cases h
 | .ty _,v,u,p,r,q,h=>by cases h
theorem a4j'(I:Inv X pq σ H s):∀(ds:List D) (vs:List V) (us:Lv) (ps:List PyData),RepL X.K ⟨X.mg,F⟩ μ H ds vs→Vals vs us→toPyL ds=some ps→PyData.hasDictAll ps=false∧∃as,ReadsAll s.heap us ps as
 | [],vs,us,ps,r,q,h=>by unfold RepL at r;subst r;cases q.zero;cases h;exact⟨rfl,_,.nil⟩
 |d::ds,vs,us,ps,r,q,h=>by
  obtain⟨w,ws,rfl,r1,r2⟩:=r.uncons;obtain⟨u,us',rfl,q1,q2⟩:=q.un;unfold toPyL at h;split at h
  ·rename_i p ps' e1 e2;cases h;obtain⟨k1,as,k2⟩:=b1p' I d w u p r1 q1 e1;obtain⟨k3,bs,k4⟩:=a4j' I ds ws us' ps' r2 q2 e2;exact⟨by show(PyData.hasDict p||PyData.hasDictAll ps')=false;rw[k1,k3];rfl,_,.cons k2 k4⟩
  ·cases h
end
open PySem.SeqAt PySem.MeetsSeq PySem.MeetsSeq2 PySem.MeetsSeq3
open PySem.AutoSeq1 (wpAny_loadPart')
noncomputable def a7M'(d:D)(ds:List D)(S:Store):Res D:=match d,ds with
 | .ref n,[.int k]=>match S[n]? with
  |some xs=>match intsD xs with
   |some ns=>if k∈ns then .ok (.int (ns.idxOf k:Nat)) S else .fail
   |none=>.fail
  |none=>.fail
 |_,_=>.fail
theorem b1q'{prog:Program}{w:World}{A:Around}{E:Vs}{l:Addr}{vs:Lv}{k:Int}{t:Tok}(hl:s.heap.IsList l vs.toArray)(hi:IntsAre vs ns)(hz:ns.length≤sizeLine)(hk:k∈ns)
  (h:Q (.int (ns.idxOf k:Nat) s.toks) {s with toks:=s.toks+1}):wpAny (model prog w) A (call (.builtin "list.index") [.ref l,.int k t]) Q E s:=by
 obtain⟨⟨cls,dd,data,sl⟩,ho,hc,n,hd⟩:=id hl;simp only at hc hd;subst hc hd;have hlen:=hi.length;have hj:ns.idxOf k<ns.length:=List.idxOf_lt_length_iff.mpr hk;rw[sizeLine_eq]at hz
 refine call_meets PySem.F.slot_list_index ⟨_,ho,rfl⟩ PySem.F.entry_list_index (PySem.F.args_list_index_2 _ _)
  (list_indexAt l vs.toArray n dd sl (.int k t) (isInt k) (ns.idxOf k) (by simpa[hlen]using hj) (by omega) ?_ ?_) ⟨ho,λy hy=>(eq_isInt k t hi y (by simpa using hy)).at _ _,h⟩
 ·show isInt k vs[ns.idxOf k]=true;rw[isInt_at k hi _ (by omega) hj];simpa using List.getElem_idxOf hj
 ·intro j hjs hlt;show isInt k vs[j]=false;rw[isInt_at k hi j (by simpa using hjs) (by omega)];exact ne_of_lt_idxOf hlt _
theorem index_D:MtR X "list.index" (rM X.K X.mg a7M'):=by
 intro pq s σ H x xs v us Q I rx rs h;obtain⟨F,μ,S,d,ds,sk,rd,rds,w⟩:=h;unfold a7M' at w;split at w
 ·rename_i n k;split at w
  ·rename_i ys e;split at w
   ·rename_i ns en;split at w
    ·rename_i hk;have hys:=a2Y' en;subst hys;obtain⟨a,vs,rfl,hn,ha,r⟩:=b0m' sk rd e;have hv:=a4h' _ vs r;subst hv;obtain⟨z,rfl,hz⟩:=rds.one;cases a0a' hz;cases rx;obtain⟨u,rfl,ru⟩:=rs.one;obtain⟨t,rfl⟩:=ru;obtain⟨its,rv,p,hz⟩:=I.list (.of ha);exact b1q' p.isList (a7L' rv) (by simpa using hz) hk ⟨.int (ns.idxOf k:Nat),H,I.kept (t':=s.toks+1) λb o e=>e,⟨_,rfl⟩,w μ H _ .refl sk a0L'⟩
    ·exact w.elim
   ·exact w.elim
  ·exact w.elim
 ·exact w.elim
end Py
namespace Py
section
open PySem.AutoSeq1 (wpAny_loadPart')
open PySem.MeetsSeq PySem.MeetsSeq2 PySem.MeetsSeq3
open PySem.AutoSeq1
end
inductive KTy where
 |int|seq (t:KTy)
 deriving DecidableEq
inductive Blt where
 |len|tuple|list (box:Bool)|int|min|max|isinst|all|any|sum|repr|abs|str|sorted (box:Bool) (t:KTy)
 deriving DecidableEq
inductive Mth where
 |append|extend|pop|count|insert|index
 deriving DecidableEq
inductive CT where
 |var (i:Nat)
 |tup (ts:List CT)
inductive FP where
 |s (x:Str)|v (i:Nat)|g (y:Str)
 deriving DecidableEq
inductive CE where
 |var (i:Nat)
 |lit (d:D)
 |glob (x:Str)
 |ty (n:String)
 |bin (op:Operator) (a b:CE)
 |binB (a b:CE)
 |catB (a b:CE)
 |neg (a:CE)
 |cmp (op:CmpOp) (a b:CE)
 |chain (op op':CmpOp) (a b c:CE)
 |chain3 (op op' op'':CmpOp) (a b c d:CE)
 |band (a b:CE)
 |bor (a b:CE)
 |bnot (a:CE)
 |ite (c a b:CE)
 |tup (es:List CE)
 |lst (box:Bool) (es:List CE)
 |idx (a b:CE)
 |sl (a:CE) (lo hi:List CE)
 |call (f:Str) (es:List CE)
 |blt (b:Blt) (es:List CE)
 |meth (m:Mth) (o:CE) (es:List CE)
 |tix (o:CE) (es:List CE)
 |sel (fs:Ls) (i:CE) (es:List CE)
 |fst (ps:List FP)
 |lenset (a:CE)
 |sumL (a:CE)
 |sset (a:CE)
 |rng (tup box:Bool) (es:List CE)
 |comp (box:Bool) (N:Ls) (fr:List (Option Nat)) (tg:CT) (it:CE) (ifs:List CE) (body:CE)
 |emit (e:CE)
 |ssc (N:Ls) (fr:List (Option Nat)) (tg:CT) (it:CE) (ifs:List CE) (body:CE)
 |emitK (e:CE)
 |sortd (a:CE)
 |inner (tg:CT) (it:CE) (ifs:List CE) (body:CE)
 |seq (e:CE)
 |range (es:List CE)
 |zip (es:List CE)
 |down (es:List CE)
 |dct
 |rev (a b:CE)
 |odd (a b c:CE)
 |rv0 (a b c:CE)
 |enum (es:List CE)
 |revl (es:List CE)
 |by2 (es:List CE)
inductive CS where
 |asg (i:Nat) (e:CE)
 |asgT (t:CT) (e:CE)
 |par (is:List Nat) (es:List CE)
 |aug (i:Nat) (e:CE)
 |set (o i v:CE)
 |set2 (o i o' i' v:CE)
 |expr (e:CE)
 |ret (e:CE)
 |retN
 |pass
 |brk
 |cont
 |ite (c:CE) (a b:List CS)
 |for_ (t:CT) (it:CE) (body:List CS)
 |while_ (n:Nat) (c:CE) (body:List CS)
 |never
 |raise_ (x:Str) (es:List CE)
 |tryK (i:Nat) (body:List CS) (f:Str) (ys ws:Ls)
 |dloop (i:Nat) (t:CT) (it:CE) (ps:List (Option CE×CE))
abbrev Rho:=List (Option D)
abbrev FT:=Str→Option (List D→Store→Res D)
noncomputable def Res.bind{α β:Type}(r:Res α)(f:α→Store→Res β):Res β:=match r with
 | .ok a S=>f a S
 | .err x S=>.err x S
 | .fail=>.fail
noncomputable def Res.noErr{α:Type}:Res α→Res α
 | .ok a S=>.ok a S
 |_=>.fail
noncomputable def onBl{α:Type}(d:D)(f:Bool→Res α):Res α:=match d with
 | .bl k=>f k
 |_=>.fail
noncomputable def asgVs:List CT→List D→Rho→Option Rho
 | [],ds,ρ=>if ds.isEmpty=true then some ρ else none
 |t::ts,ds,ρ=>match t,ds with
  | .var i,d::ds=>asgVs ts ds (ρ.set i (some d))
  |_,_=>none
noncomputable def asgCT:CT→D→Rho→Option Rho
 | .var i,d,ρ=>some (ρ.set i (some d))
 | .tup ts,d,ρ=>match d with
  | .tup ds=>asgVs ts ds ρ
  |_=>none
noncomputable def a4k':List CT→List Nat
 | []=>[]
 |t::ts=>match t with
  | .var i=>i::a4k' ts
  | .tup _=>a4k' ts
def slots:CT→List Nat
 | .var i=>[i]
 | .tup ts=>a4k' ts
noncomputable def isNew:Rho→List Nat→Bool
 |ρ,is=>is.all λi=>match ρ[i]? with
  |some none=>true
  |_=>false
noncomputable def a0z'(t:CT)(d:D)(ρ:Rho):Option Rho:=if isNew ρ (slots t)=true then asgCT t d ρ else none
inductive Its where
 |items (xs:List D)|live (f:Nat) (get:Store→Nat→Option (Option D))
noncomputable def compD(step:D→List D→Store→Res (List D)):List D→List D→Store→Res (List D)
 | [],acc,S=>.ok acc S
 |x::xs,acc,S=>(step x acc S).bind λacc' S'=>compD step xs acc' S'
noncomputable def compB(step:D→List D→Store→Res (List D))(get:Store→Nat→Option (Option D)):Nat→Nat→List D→Store→Res (List D)
 |0,_,_,_=>.fail
 |f+1,i,acc,S=>match get S i with
  |none=>.fail
  |some none=>.ok acc S
  |some (some x)=>(step x acc S).bind λacc' S'=>compB step get f (i+1) acc' S'
noncomputable def compI(step:D→List D→Store→Res (List D))(its:Its)(acc:List D)(S:Store):Res (List D):=match its with
 | .items xs=>compD step xs acc S
 | .live f get=>compB step get f 0 acc S
noncomputable def a9v'(n:Nat):Store→Nat→Option (Option D):=λS i=>(S[n]?).map λxs=>xs[i]?
noncomputable def a3Q'(S:Store):D→Option Its
 | .tup xs=>some (.items xs)
 | .lst xs=>some (.items xs)
 | .scr xs=>some (.items xs)
 | .ref n=>some (.live (((S[n]?).getD []).length+1) (a9v' n))
 |_=>none
noncomputable def a7N':D→Option (List D)
 | .tup xs=>some xs
 | .lst xs=>some xs
 | .scr xs=>some xs
 |_=>none
noncomputable def a9w'(d e:D):Store→Nat→Option (Option D):=λS i=>match seqOf S d,seqOf S e with
 |some xs,some ys=>some (match xs[i]?,ys[i]? with
  |some x,some y=>some (.tup [x,y])
  |_,_=>none)
 |_,_=>none
def isLst:D→Bool
 | .tup _=>false
 |_=>true
noncomputable def zipOf(S:Store)(d e:D):Option Its:=match a7N' d,a7N' e with
  |some xs,some ys=>some (.items (List.zipWith (λx y=>.tup [x,y]) xs ys))
  |_,_=>match seqOf S d,seqOf S e with
   |some xs,some ys=>some (.live (min xs.length ys.length+1) (a9w' d e))
   |_,_=>none
noncomputable def a2R'(lo:Int):Nat→List D
 |0=>[]
 |n+1=>.int lo::a2R' (lo+1) n
noncomputable def toOpt:List D→Option (Option Int)
 | []=>some none
 | [.int i]=>some (some i)
 |_=>none
noncomputable def optL(ds:List D)(S:Store):Res (Option Int):=match toOpt ds with
 |some o=>.ok o S
 |none=>.fail
noncomputable def hasTy:KTy→D→Bool
 | .int,.int _=>true
 | .seq t,.tup xs=>xs.all (hasTy t)
 |_,_=>false
noncomputable def lexB(f:D→D→Bool):List D→List D→Bool
 | [],[]=>false
 | [],_::_=>true
 |_::_,[]=>false
 |x::xs,y::ys=>if f x y=true then true else if f y x=true then false else lexB f xs ys
noncomputable def ltK:KTy→D→D→Bool
 | .int,.int i,.int j=>decide (i<j)
 | .seq t,.tup xs,.tup ys=>lexB (ltK t) xs ys
 |_,_,_=>false
noncomputable def insB(f:D→D→Bool)(x:D):List D→List D
 | []=>[x]
 |y::ys=>if f x y=true then x::y::ys else y::insB f x ys
noncomputable def a3j'(f:D→D→Bool)(xs:List D):List D:=xs.foldl (λacc x=>insB f x acc) []
def noStr:KTy→Bool
 | .int=>true
 | .seq t=>noStr t
def isNil:D→Bool
 | .tup []=>true
 |_=>false
noncomputable def a1r':KTy→List D→Bool
 | .int,_=>true
 | .seq t,xs=>noStr t&&(xs.all λd=> !isNil d)
noncomputable def a4J'(box:Bool)(t:KTy)(ds:List D)(S:Store):Res D:=match ds with
 | [d]=>match seqOf S d with
  |some xs=>if xs.all (hasTy t)=true∧xs.length<64∧a1r' t xs=true then(if box=true then .ok (.ref S.length) (S++[a3j' (ltK t) xs])else .ok (.lst (a3j' (ltK t) xs)) S)else .fail
  |none=>.fail
 |_=>.fail
def asInt:D→Option Int
 | .int i=>some i
 |_=>none
def asTup:D→Li
 | .tup ds=>ds.filterMap asInt
 |_=>[]
noncomputable def dedT(ks:List (Li)):List (Li):=ks.foldl (λacc k=>if acc.contains k=true then acc else acc++[k]) []
noncomputable def sortT(ks:List (Li)):List D:=a3j' (ltK (.seq .int)) ((dedT ks).map λk=>D.tup (k.map D.int))
noncomputable def a7O'(d:D)(S:Store):Res D:=match d with
 | .dks ks=>if ks.length<64∧(ks.all λk=> !k.isEmpty)=true then .ok (.lst (sortT ks)) S else .fail
 |_=>.fail
def depth:KTy→Nat
 | .int=>1
 | .seq t=>depth t+1
noncomputable def bltB:Blt→Bool
 | .sorted _ t=>decide (depth t≤40)
 | .sum=>false
 | .any=>false
 | .list _=>false
 | .repr=>false
 | .abs=>false
 | .str=>false
 |_=>true
noncomputable def bltD:Blt→List D→Store→Res D
 | .len=>lenD| .tuple=>a3H'| .list _=>λ_ _=>.fail | .int=>intD| .min=>a4i'| .max=>a3i'| .isinst=>a1k'| .all=>allD| .any=>λ_ _=>.fail | .sum=>λ_ _=>.fail | .repr=>λ_ _=>.fail | .abs=>λ_ _=>.fail | .str=>λ_ _=>.fail
 | .sorted b t=>a4J' b t
noncomputable def methD:Mth→D→List D→Store→Res D
 | .append=>a3O'| .extend=>λ_ _ _=>.fail | .pop=>λ_ _ _=>.fail | .count=>λ_ _ _=>.fail | .insert=>λ_ _ _=>.fail | .index=>a7M'
section
variable (Φ:FT)(Γ:Str→Option D)
mutual
noncomputable def den:CE→Rho→Store→Res D
 | .var i,ρ,S=>match ρ[i]? with
  |some (some d)=>.ok d S
  |_=>.fail
 | .dct,ρ,S=>.ok .dct S
 | .lit d,ρ,S=>.ok d S
 | .glob x,ρ,S=>match Γ x with
  |some d=>.ok d S
  |none=>.fail
 | .ty n,ρ,S=>.ok (.ty n) S
 | .bin op a b,ρ,S=>(den a ρ S).bind λd S1=>(den b ρ S1).bind λe S2=>(opD op d e S2).noErr
 | .binB _ _,_,_=>.fail
 | .catB _ _,_,_=>.fail
 | .neg a,ρ,S=>(den a ρ S).bind λd S1=>match d with
  | .int i=>.ok (.int (-i)) S1
  |_=>.fail
 | .cmp op a b,ρ,S=>(den a ρ S).bind λd S1=>(den b ρ S1).bind λe S2=>(cmpD op d e S2).noErr
 | .chain3 _ _ _ _ _ _ _,_,_=>.fail
 | .chain op op' a b c,ρ,S=>(den a ρ S).bind λd S1=>(den b ρ S1).bind λe S2=>(cmpD op d e S2).noErr.bind λk S3=>onBl k λk=>if k=true then(den c ρ S3).bind λf S4=>(cmpD op' e f S4).noErr else .ok (.bl false) S3
 | .band a b,ρ,S=>(den a ρ S).bind λd S1=>onBl d λk=>if k=true then den b ρ S1 else .ok (.bl false) S1
 | .bor a b,ρ,S=>(den a ρ S).bind λd S1=>onBl d λk=>if k=true then .ok (.bl true) S1 else den b ρ S1
 | .bnot a,ρ,S=>(den a ρ S).bind λd S1=>match truD S1 d with
  |some k=>.ok (.bl (!k)) S1
  |none=>.fail
 | .ite c a b,ρ,S=>(denT c ρ S).bind λk S1=>if k=true then den a ρ S1 else den b ρ S1
 | .tup es,ρ,S=>(denL es ρ S).bind λds S1=>.ok (.tup ds) S1
 | .lst box es,ρ,S=>(denL es ρ S).bind λds S1=>if box=true then .ok (.ref S1.length) (S1++[ds])else .ok (.lst ds) S1
 | .rev _ _,_,_=>.fail
 | .rv0 _ _ _,_,_=>.fail
 | .odd _ _ _,_,_=>.fail
 | .idx a b,ρ,S=>(den a ρ S).bind λd S1=>(den b ρ S1).bind λe S2=>(idxD d e S2).noErr
 | .sl a lo hi,ρ,S=>(den a ρ S).bind λd S1=>((denL lo ρ S1).bind optL).bind λl S2=>((denL hi ρ S2).bind optL).bind λh S3=>(slD d l h S3).noErr
 | .call f es,ρ,S=>match Φ f with
  |some φ=>(denL es ρ S).bind λds S1=>φ ds S1
  |none=>.fail
 | .blt b es,ρ,S=>(denL es ρ S).bind λds S1=>(bltD b ds S1).noErr
 | .meth m o es,ρ,S=>(den o ρ S).bind λd S1=>match d with
  | .ref n=>(denL es ρ S1).bind λds S2=>(methD m (.ref n) ds S2).noErr
  |_=>.fail
 | .fst _,_,_=>.fail
 | .sel _ _ _,_,_=>.fail
 | .tix _ _,_,_=>.fail
 | .lenset _,_,_=>.fail
 | .sumL _,_,_=>.fail
 | .sset _,_,_=>.fail
 | .sortd a,ρ,S=>(den a ρ S).bind λd S1=>(a7O' d S1).noErr
 | .rng _ _ _,_,_=>.fail
 | .comp box N fr tg it ifs body,ρ,S=>(denI it ρ S).bind λits S1=>
   (compI (λx acc S2=>match a0z' tg x (fr.map λj=>j.bind λj=>(ρ[j]?).join)with
    |some ρ'=>(denTs ifs ρ' S2).bind λk S3=>if k=true then denB body ρ' acc S3 else .ok acc S3
    |none=>.fail) its [] S1).noErr.bind λys S5=>if box=true then .ok (.ref S5.length) (S5++[ys])else .ok (.lst ys) S5
 | .ssc N fr tg it ifs body,ρ,S=>(denI it ρ S).bind λits S1=>
   (compI (λx acc S2=>match a0z' tg x (fr.map λj=>j.bind λj=>(ρ[j]?).join)with
    |some ρ'=>(denTs ifs ρ' S2).bind λk S3=>if k=true then denB body ρ' acc S3 else .ok acc S3
    |none=>.fail) its [] S1).noErr.bind λys S5=>.ok (.lst (sortT (ys.map asTup))) S5
 | .emit _,_,_=>.fail
 | .emitK _,_,_=>.fail
 | .inner _ _ _ _,_,_=>.fail
 | .seq _,_,_=>.fail
 | .range _,_,_=>.fail
 | .zip _,_,_=>.fail
 | .down _,_,_=>.fail
 | .enum _,_,_=>.fail
 | .revl _,_,_=>.fail
 | .by2 _,_,_=>.fail
noncomputable def denT:CE→Rho→Store→Res Bool
 | .band a b,ρ,S=>(denT a ρ S).bind λk S1=>if k=true then denT b ρ S1 else .ok false S1
 | .bor a b,ρ,S=>(denT a ρ S).bind λk S1=>if k=true then .ok true S1 else denT b ρ S1
 | .bnot a,ρ,S=>(denT a ρ S).bind λk S1=>.ok (!k) S1
 | .cmp op a b,ρ,S=>(den a ρ S).bind λd S1=>(den b ρ S1).bind λe S2=>(cmpD op d e S2).noErr.bind λk S3=>onBl k λk=>.ok k S3
 | .chain3 _ _ _ _ _ _ _,_,_=>.fail
 | .chain op op' a b c,ρ,S=>(den a ρ S).bind λd S1=>(den b ρ S1).bind λe S2=>(cmpD op d e S2).noErr.bind λk S3=>onBl k λk=>if k=true then(den c ρ S3).bind λf S4=>(cmpD op' e f S4).noErr.bind λk S5=>onBl k λk=>.ok k S5 else .ok false S3
 | .var i,ρ,S=>match ρ[i]? with
  |some (some d)=>match truD S d with
   |some k=>.ok k S
   |none=>.fail
  |_=>.fail
 | .call f es,ρ,S=>match Φ f with
  |some φ=>(denL es ρ S).bind λds S1=>(φ ds S1).bind λd S2=>match truD S2 d with
   |some k=>.ok k S2
   |none=>.fail
  |none=>.fail
 | .blt b es,ρ,S=>(denL es ρ S).bind λds S1=>(bltD b ds S1).noErr.bind λd S2=>match truD S2 d with
   |some k=>.ok k S2
   |none=>.fail
 | .lit d,ρ,S=>match truD S d with
   |some k=>.ok k S
   |none=>.fail
 |_,_,_=>.fail
noncomputable def denL:List CE→Rho→Store→Res (List D)
 | [],_,S=>.ok [] S
 |e::es,ρ,S=>(den e ρ S).bind λd S1=>(denL es ρ S1).bind λds S2=>.ok (d::ds) S2
noncomputable def denTs:List CE→Rho→Store→Res Bool
 | [],_,S=>.ok true S
 |e::es,ρ,S=>(denT e ρ S).bind λk S1=>if k=true then denTs es ρ S1 else .ok false S1
noncomputable def denI:CE→Rho→Store→Res Its
 | .seq e,ρ,S=>(den e ρ S).bind λd S1=>match a3Q' S1 d with
  |some xs=>.ok xs S1
  |none=>.fail
 | .range es,ρ,S=>(denL es ρ S).bind λds S1=>match ds with
  | [.int j]=>if-(2^62)≤j∧j<2^62 then .ok (.items (a2R' 0 j.toNat)) S1 else .fail
  | [.int i,.int j]=>if-(2^62)≤i∧i<2^62∧-(2^62)≤j∧j<2^62 then .ok (.items (a2R' i (j-i).toNat)) S1 else .fail
  |_=>.fail
 | .enum _,_,_=>.fail
 | .by2 _,_,_=>.fail
 | .revl _,_,_=>.fail
 | .down _,_,_=>.fail
 | .zip es,ρ,S=>(denL es ρ S).bind λds S2=>match ds with
  | [d,e]=>(match zipOf S2 d e with
   |some its=>.ok its S2
   |none=>.fail)
  |_=>.fail
 |_,_,_=>.fail
noncomputable def denB:CE→Rho→List D→Store→Res (List D)
 | .emit e,ρ,acc,S=>(den e ρ S).bind λy S1=>if acc.length<big then .ok (acc++[y]) S1 else .fail
 | .emitK e,ρ,acc,S=>(den e ρ S).bind λy S1=>if acc.length<63∧hasTy (.seq .int) y=true∧isNil y=false then .ok (acc++[y]) S1 else .fail
 | .inner tg it ifs body,ρ,acc,S=>(denI it ρ S).bind λits S1=>
   compI (λx acc S2=>match a0z' tg x ρ with
    |some ρ'=>(denTs ifs ρ' S2).bind λk S3=>if k=true then denB body ρ' acc S3 else .ok acc S3
    |none=>.fail) its acc S1
 |_,_,_,_=>.fail
end
inductive Fl where
 |next(ρ:Rho)|ret (d:D)|brk (ρ:Rho)|cont (ρ:Rho)
noncomputable def forD(step:D→Rho→Store→Res Fl):List D→Rho→Store→Res Fl
 | [],ρ,S=>.ok (.next ρ) S
 |x::xs,ρ,S=>(step x ρ S).bind λf S'=>match f with
  | .next ρ'=>forD step xs ρ' S'
  | .cont ρ'=>forD step xs ρ' S'
  | .brk ρ'=>.ok (.next ρ') S'
  | .ret d=>.ok (.ret d) S'
noncomputable def forB(step:D→Rho→Store→Res Fl)(get:Store→Nat→Option (Option D)):Nat→Nat→Rho→Store→Res Fl
 |0,_,_,_=>.fail
 |f+1,i,ρ,S=>match get S i with
  |none=>.fail
  |some none=>.ok (.next ρ) S
  |some (some x)=>(step x ρ S).bind λfl S'=>match fl with
    | .next ρ'=>forB step get f (i+1) ρ' S'
    | .cont ρ'=>forB step get f (i+1) ρ' S'
    | .brk ρ'=>.ok (.next ρ') S'
    | .ret d=>.ok (.ret d) S'
noncomputable def forI(step:D→Rho→Store→Res Fl)(its:Its)(ρ:Rho)(S:Store):Res Fl:=match its with
 | .items xs=>forD step xs ρ S
 | .live f get=>forB step get f 0 ρ S
noncomputable def addK(ks:List (Li))(k:Li):List (Li):=if k∈ks then ks else ks++[k]
noncomputable def putsD:List (Option CE×CE)→Rho→List (Li)→Store→Res (List (Li))
 | [],_,ks,S=>.ok ks S
 | (c,k)::ps,ρ,ks,S=>(match c with
  |some c=>(denT Φ Γ c ρ S).noErr
  |none=>.ok true S).bind λb S1=>if b=true then(den Φ Γ k ρ S1).noErr.bind λy S2=>(if hasTy (.seq .int) y=true∧ks.length<63 then putsD ps ρ (addK ks (asTup y)) S2 else .fail)else putsD ps ρ ks S1
noncomputable def a2S'(step:D→Rho→List (Li)→Store→Res (Rho×List (Li))):List D→Rho→List (Li)→Store→Res (Rho×List (Li))
 | [],ρ,ks,S=>.ok (ρ,ks) S
 |x::xs,ρ,ks,S=>(step x ρ ks S).bind λr S'=>a2S' step xs r.1 r.2 S'
noncomputable def dstep(t:CT)(ps:List (Option CE×CE)):D→Rho→List (Li)→Store→Res (Rho×List (Li)):=λx ρ ks S=>match asgCT t x ρ with
 |some ρ'=>(putsD Φ Γ ps ρ' ks S).bind λks' S'=>.ok (ρ',ks') S'
 |none=>.fail
mutual
noncomputable def denS:CS→Rho→Store→Res Fl
 | .asg i e,ρ,S=>(den Φ Γ e ρ S).bind λd S1=>.ok (.next (ρ.set i (some d))) S1
 | .asgT t e,ρ,S=>(den Φ Γ e ρ S).bind λd S1=>match asgCT t d ρ with
  |some ρ'=>.ok (.next ρ') S1
  |none=>.fail
 | .par _ _,_,_=>.fail
 | .aug _ _,_,_=>.fail
 | .set _ _ _,_,_=>.fail
 | .set2 _ _ _ _ _,_,_=>.fail
 | .expr e,ρ,S=>(den Φ Γ e ρ S).bind λ_ S1=>.ok (.next ρ) S1
 | .ret e,ρ,S=>(den Φ Γ e ρ S).bind λd S1=>.ok (.ret d) S1
 | .retN,_,S=>.ok (.ret .non) S
 | .pass,ρ,S=>.ok (.next ρ) S
 | .brk,ρ,S=>.ok (.brk ρ) S
 | .cont,ρ,S=>.ok (.cont ρ) S
 | .ite c a b,ρ,S=>(denT Φ Γ c ρ S).bind λk S1=>if k=true then denSs a ρ S1 else denSs b ρ S1
 | .for_ t it body,ρ,S=>(denI Φ Γ it ρ S).bind λxs S1=>forI (λx ρ S=>match asgCT t x ρ with
   |some ρ'=>denSs body ρ' S
   |none=>.fail) xs ρ S1
 | .while_ _ _ _,_,_=>.fail
 | .never,_,_=>.fail
 | .dloop i t it ps,ρ,S=>(denI Φ Γ it (ρ.set i none) S).noErr.bind λits S1=>(match its with
  | .items xs=>(a2S' (dstep Φ Γ t ps) xs (ρ.set i none) [] S1).bind λr S2=>.ok (.next (r.1.set i (some (.dks r.2)))) S2
  |_=>.fail)
 | .raise_ x es,ρ,S=>(denL Φ Γ es ρ S).bind λds S1=>if ds.length≤1000 then .err ⟨x,[]⟩ S1 else .fail
 | .tryK _ _ _ _ _,_,_=>.fail
noncomputable def denSs:List CS→Rho→Store→Res Fl
 | [],ρ,S=>.ok (.next ρ) S
 |c::cs,ρ,S=>(denS c ρ S).bind λf S1=>match f with
  | .next ρ'=>denSs cs ρ' S1
  |f=>.ok f S1
end
end
end Py
variable {body:List Py.CS}{ρ ρ' r0:Py.Rho}{Φ:Py.FT}
namespace Py
def ExcIs(mg:Mg)(x:Exc)(cls:Value)(dict:Option Addr)(H:Hp):Prop:=mg x.cls=some cls∧x.fs=[]
def exOf(mg:Mg)(E:XK)(x:Exc)(H:Hp):Prop:=∀cls dict,ExcIs mg x cls dict H→E cls dict H
def WantG{α β:Type}(K:Fg)(mg:GS)(E:XK)(Rel:La→Hp→α→β→Prop)(μ:La)(H:Hp)(Q:β→Hp→Prop):Res α→Prop
 | .ok a S'=>∀μ' H' b,Ext μ H μ' H'→SOk K mg μ' S' H'→Rel μ' H' a b→Q b H'
 | .err x S'=>∀μ' H',Ext μ H μ' H'→SOk K mg μ' S' H'→exOf mg.mg E x H'
 | .fail=>False
section
variable {mg:GS}{E:XK}
theorem a1l'{Q:VK}{r:Res D}(w:WantG K mg E (Rep K mg) μ H Q r.noErr):Want K mg μ H Q r:=by cases r<;>first|exact w|exact w.elim
theorem WantG.ext{Rel:La→Hp→α→β→Prop}{Q:β→Hp→Prop}{r:Res α}(x:Ext μ H μ' H')(w:WantG K mg E Rel μ H Q r):WantG K mg E Rel μ' H' Q r:=by
 cases r with
 |ok d S'=>exact λμ2 H2 v x2 s2 r2=>w μ2 H2 v (x.trans x2) s2 r2
 |err y S'=>exact λμ2 H2 x2 s2=>w μ2 H2 (x.trans x2) s2
 |fail=>exact w
theorem WantG.bind{γ δ:Type}{Rel:La→Hp→α→β→Prop}{Rel':La→Hp→γ→δ→Prop}{Q:δ→Hp→Prop}{r:Res α}{f:α→Store→Res γ}(w:WantG K mg E Rel' μ H Q (r.bind f)):
  WantG K mg E Rel μ H (λb H'=>∃μ' S' a,Ext μ H μ' H'∧SOk K mg μ' S' H'∧Rel μ' H' a b∧WantG K mg E Rel' μ' H' Q (f a S')) r:=by
 cases r with
 |ok a S'=>exact λμ2 H2 b x s r=>⟨μ2,S',a,x,s,r,WantG.ext x (show WantG K mg E Rel' μ H Q (f a S')from w)⟩
 |err y S'=>exact w
 |fail=>exact w
theorem WantG.mono{Rel:La→Hp→α→β→Prop}{Q Q':β→Hp→Prop}{r:Res α}(w:WantG K mg E Rel μ H Q r)(h:∀b H',Q b H'→Q' b H'):WantG K mg E Rel μ H Q' r:=by
 cases r with
 |ok a S'=>exact λμ2 H2 b x s r=>h b H2 (w μ2 H2 b x s r)
 |err y S'=>exact w
 |fail=>exact w
def EnvR(K:Fg)(mg:GS)(μ:La)(H:Hp)(ρ:Rho)(σ:L2.St):Prop:=
 ρ.length=σ.length∧∀(i:Nat) (d:D),ρ[i]?=some (some d)→∃v,σ[i]?=some (some v)∧Rep K mg μ H d v
theorem EnvR.mono(x:Ext μ H μ' H')(h:EnvR K mg μ H ρ σ):EnvR K mg μ' H' ρ σ:=
 ⟨h.1,λi d e=>let⟨v,a,b⟩:=h.2 i d e;⟨v,a,Rep.mono x _ _ b⟩⟩
theorem EnvR.set{i:Nat}(h:EnvR K mg μ H ρ σ)(r:Rep K mg μ H d v):EnvR K mg μ H (ρ.set i (some d)) (σ.set i (some v)):=by
 refine⟨by simp[h.1],λj e he=>?_⟩;by_cases hj:j=i
 ·subst hj;have hl:j<ρ.length:=by have:=(Zh.mp he).1;simpa using this
  rw[List.getElem?_set_self hl]at he;cases he;exact⟨v,List.getElem?_set_self (by rw[←h.1];exact hl),r⟩
 ·rw[ZR (Ne.symm hj)]at he⊢;exact h.2 j e he
end
section
variable (K:Fg)(mg:Mg)(E:XK)(Φ:FT)(Γ:Str→Option D)
def tE(c:CE):TE:=λσ H Q=>∃F μ ρ S,SOk K ⟨mg,F⟩ μ S H∧EnvR K ⟨mg,F⟩ μ H ρ σ∧WantG K ⟨mg,F⟩ E (Rep K ⟨mg,F⟩) μ H Q (den Φ Γ c ρ S)
def tT(c:CE):TT:=λσ H Q=>∃F μ ρ S,SOk K ⟨mg,F⟩ μ S H∧EnvR K ⟨mg,F⟩ μ H ρ σ∧WantG K ⟨mg,F⟩ E (λ_ _ a b=>a=b) μ H Q (denT Φ Γ c ρ S)
def tL(cs:List CE):TA:=λσ H Q=>∃F μ ρ S,SOk K ⟨mg,F⟩ μ S H∧EnvR K ⟨mg,F⟩ μ H ρ σ∧WantG K ⟨mg,F⟩ E (RepL K ⟨mg,F⟩) μ H Q (denL Φ Γ cs ρ S)
end
theorem weakE{t t':TE}(h:PE X e t)(w:∀σ H Q,t' σ H Q→t σ H Q):PE X e t':=λpq s σ H Q I q=>h pq s σ H Q I (w σ H Q q)
theorem weakT{t t':TT}(h:PT X e t)(w:∀σ H Q,t' σ H Q→t σ H Q):PT X e t':=λpq s σ H Q I q=>h pq s σ H Q I (w σ H Q q)
theorem weakA{e:Lx}{t t':TA}(h:PA X e t)(w:∀σ H Q,t' σ H Q→t σ H Q):PA X e t':=λpos pq s σ H Q I q=>h pos pq s σ H Q I (w σ H Q q)
noncomputable def visB(sc:List (Str×NameKind))(x:Str):Bool:=match sc.lookup x with
 |some .local=>true|some .cell=>true|some .free=>true
 |_=>false
noncomputable def gloB(sc:List (Str×NameKind))(x:Str):Bool:=sc.lookup x==some .globalImplicit&& !(x==("__debug__":Str))&& !(x==("__name__":Str))
noncomputable def a6K'(x:Str):Bool:= !(x==("__debug__":Str))&& !(x==("__classdict__":Str))
def a0H':Expr→Bool
 | .Starred _ _=>false
 |_=>true
noncomputable def litIs:D→Const→Bool
 | .non,.none=>true
 | .bl b,.bool c=>b==c
 | .int i,.int j=>i==j
 | .str x,.str y=>x==y
 |_,_=>false
noncomputable def a3k':Blt→Str
 | .len=>"len"| .tuple=>"tuple"| .list _=>"list"| .int=>"int"| .min=>"min"| .max=>"max"| .isinst=>"isinstance"| .all=>"all"| .any=>"any"| .sum=>"sum"| .repr=>"repr"| .abs=>"abs"| .str=>"str"| .sorted _ _=>"sorted"
noncomputable def bltIs:Blt→Value
 | .len=>.builtin "len"| .tuple=>.type "tuple"| .list _=>.type "list"| .int=>.type "int"| .min=>.builtin "min"| .max=>.builtin "max"| .isinst=>.builtin "isinstance"| .all=>.builtin "all"| .any=>.builtin "any"| .sum=>.builtin "sum"| .repr=>.builtin "repr"| .abs=>.builtin "abs"| .str=>.type "str"| .sorted _ _=>.builtin "sorted"
theorem b1r'(b:Blt):bootBuiltins (a3k' b)=some (bltIs b):=by
 cases b with
 |list box=>show bootBuiltins (Str.ofString "list")=some (.type "list");decide+kernel
 |sorted box t=>show bootBuiltins (Str.ofString "sorted")=some (.builtin "sorted");decide+kernel
 |_=>decide+kernel
noncomputable def a3R':List String:=["int","bool","str","tuple","list","dict"]
theorem ty_boot{n:String}(h:a3R'.contains n=true):bootBuiltins (Str.ofString n)=some (.type n):=by simp[a3R']at h;rcases h with rfl|rfl|rfl|rfl|rfl|rfl<;>decide+kernel
abbrev Sc:=List (Str×NameKind)
noncomputable def relB(names sc:Sc):Sc:=names.map λ(n,k)=>if(k== .free&&sc.lookup n==some .cell)then(n,.cell)else(n,k)
noncomputable def ownB(names:Sc):Str→Bool:=λx=>names.lookup x==some .cell
noncomputable def scB(scope:Scope)(sc:Sc):Bool:=scope.kind== .function&&scope.names.all λ(n,k)=>(k !=.cell||scope.names.lookup n==some .cell)&&(k !=.local||scope.names.lookup n==some .local)&&(k !=.free||(sc.lookup n==some .cell||sc.lookup n==some .free))
noncomputable def frB(names:Sc)(N' N:Ls)(fr:List (Option Nat)):Bool:=fr.length==N'.length&&(List.range N'.length).all λi=>match fr[i]? with
 |some (some j)=>(match N'[i]? with
  |some x=>names.lookup x==some .free&&N[j]?==some x
  |none=>false)
 |_=>true
noncomputable def a5r':Ls→Bool
 | []=>true
 |x::r=> !r.contains x&&a5r' r
def a3l':Expr→Bool
 | .Slice _ _ _ _=>false
 |_=>true
theorem b1s'{b:Expr}(h:a3l' b=true):b0j' b:=by intro o i;cases b<;>first|rfl|cases h
noncomputable def a6i':Mth→Str
 | .append=>"append"| .extend=>"extend"| .pop=>"pop"| .count=>"count"| .insert=>"insert"| .index=>"index"
def isNm:Expr→Bool
 | .Name _ _=>true
 |_=>false
def isTup:Expr→Bool
 | .Tuple _ _ _=>true
 |_=>false
def a6L':Expr→Bool
 | .Set _ _ _=>false
 |_=>true
def dE:Expr:=.Name "" ⟨0,0,0,0⟩
def dG:Comprehension:=⟨dE,dE,[],0⟩
structure Nd where
 e0:Expr:=dE
 e1:Expr:=dE
 e2:Expr:=dE
 es:Lx:=[]
 lo:Option Expr:=none
 hi:Option Expr:=none
 gs:List Comprehension:=[]
 sc:Scope:=default
 k:Nat:=0
 pos:Pos:=⟨0,0,0,0⟩
noncomputable def vw:Expr→Nd
 | .BoolOp _ vs p=>{es:=vs,pos:=p}
 | .BinOp l _ r p=>{e0:=l,e1:=r,pos:=p}
 | .UnaryOp _ x p=>{e0:=x,pos:=p}
 | .IfExp t x y p=>{e0:=t,e1:=x,e2:=y,pos:=p}
 | .ListComp el gs sc p=>{e0:=el,gs:=gs,sc:=sc,pos:=p}
 | .SetComp el gs sc p=>{e0:=el,gs:=gs,sc:=sc,pos:=p}
 | .Compare l _ rs p=>{e0:=l,es:=rs,pos:=p}
 | .Call f xs ks p=>{e0:=f,es:=xs,e1:=(ks.headD ⟨none,dE,⟨0,0,0,0⟩⟩).value,e2:=.Name "" (ks.headD ⟨none,dE,⟨0,0,0,0⟩⟩).pos,pos:=p}
 | .Constant _ k p=>{k:=k,pos:=p}
 | .Attribute v _ p=>{e0:=v,pos:=p}
 | .Subscript v s p=>{e0:=v,e1:=s,pos:=p}
 | .Name _ p=>{pos:=p}
 | .List es p=>{es:=es,pos:=p}
 | .Tuple es k p=>{es:=es,k:=k,pos:=p}
 | .Slice l u s p=>{lo:=l,hi:=u,e2:=s.getD dE,pos:=p}
 | .Dict _ _ p=>{pos:=p}
 | .JoinedStr vs p=>{es:=vs,pos:=p}
 | .FormattedValue v _ _ p=>{e0:=v,pos:=p}
 |_=>{}
def x0(e:Expr):Expr:=(vw e).es.headD dE
noncomputable def b0n':D→Const
 | .bl b=>.bool b
 | .int i=>.int i
 | .str x=>.str x
 |_=>.none
def a9x':CT→Bool
 | .tup _=>true
 |_=>false
def b1t':CE→Bool
 | .band _ _=>true
 |_=>false
def isBor:CE→Bool
 | .bor _ _=>true
 |_=>false
def isCmp:CE→Bool
 | .comp .. =>true
 |_=>false
mutual
noncomputable def emT:CT→Ls→Expr→Expr
 | .var i,N,e=>.Name (N.getD i "") (vw e).pos
 | .tup ts,N,e=>.Tuple (emTL ts N (vw e).es) (vw e).k (vw e).pos
noncomputable def emTL:List CT→Ls→Lx→Lx
 | [],_,_=>[]
 |t::ts,N,es=>emT t N (es.headD dE)::emTL ts N es.tail
end
mutual
noncomputable def sdT(cell:Str→Bool)(N:Ls)(sc:Sc):CT→Bool
 | .var i=>N[i]?==some (N.getD i "")&&(sc.lookup (N.getD i "")==some .local||(cell (N.getD i "")&&sc.lookup (N.getD i "")==some .cell))
 | .tup ts=>sdTL cell N sc ts
noncomputable def sdTL(cell:Str→Bool)(N:Ls)(sc:Sc):List CT→Bool
 | []=>true
 |t::ts=>sdT cell N sc t&&sdTL cell N sc ts
end
mutual
noncomputable def emE:CE→Ls→Expr→Expr
 | .var i,N,e=>.Name (N.getD i "") (vw e).pos
 | .dct,_,e=>.Dict [] [] (vw e).pos
 | .rv0 _ _ _,_,e=>e
 | .odd _ _ _,_,e=>e
 | .rev _ _,_,e=>e
 | .lit d,_,e=>.Constant (b0n' d) (vw e).k (vw e).pos
 | .glob y,_,e=>.Name y (vw e).pos
 | .ty n,_,e=>.Name (Str.ofString n) (vw e).pos
 | .bin op a b,N,e=>.BinOp (emE a N (vw e).e0) op (emE b N (vw e).e1) (vw e).pos
 | .binB _ _,_,e=>e
 | .catB _ _,_,e=>e
 | .neg a,N,e=>.UnaryOp .USub (emE a N (vw e).e0) (vw e).pos
 | .cmp op a b,N,e=>.Compare (emE a N (vw e).e0) [op] [emE b N ((vw e).es.headD dE)] (vw e).pos
 | .chain3 _ _ _ _ _ _ _,_,e=>e
 | .chain op op' a b c,N,e=>.Compare (emE a N (vw e).e0) [op,op'] [emE b N ((vw e).es.headD dE),emE c N ((vw e).es.tail.headD dE)] (vw e).pos
 | .band a b,N,e=>.BoolOp .And (emE a N ((vw e).es.headD dE)::cond ((vw e).es.length==2) [emE b N ((vw e).es.tail.headD dE)] (vw (emE b N (.BoolOp .And (vw e).es.tail (vw e).pos))).es) (vw e).pos
 | .bor a b,N,e=>.BoolOp .Or (emE a N ((vw e).es.headD dE)::cond ((vw e).es.length==2) [emE b N ((vw e).es.tail.headD dE)] (vw (emE b N (.BoolOp .Or (vw e).es.tail (vw e).pos))).es) (vw e).pos
 | .bnot a,N,e=>.UnaryOp .Not (emE a N (vw e).e0) (vw e).pos
 | .ite c a b,N,e=>.IfExp (emE c N (vw e).e0) (emE a N (vw e).e1) (emE b N (vw e).e2) (vw e).pos
 | .tup es,N,e=>.Tuple (emL es N (vw e).es) (vw e).k (vw e).pos
 | .lst _ es,N,e=>.List (emL es N (vw e).es) (vw e).pos
 | .idx a b,N,e=>.Subscript (emE a N (vw e).e0) (emE b N (vw e).e1) (vw e).pos
 | .sl a lo hi,N,e=>.Subscript (emE a N (vw e).e0) (.Slice (emL lo N (vw (vw e).e1).lo.toList).head? (emL hi N (vw (vw e).e1).hi.toList).head? none (vw (vw e).e1).pos) (vw e).pos
 | .call f es,N,e=>.Call (.Name f (vw (vw e).e0).pos) (emL es N (vw e).es) [] (vw e).pos
 | .blt b es,N,e=>.Call (.Name (a3k' b) (vw (vw e).e0).pos) (emL es N (vw e).es) [] (vw e).pos
 | .fst _,_,e=>e
 | .sel _ _ _,_,e=>e
 | .tix _ _,_,e=>e
 | .meth m o es,N,e=>.Call (.Attribute (emE o N (vw (vw e).e0).e0) (a6i' m) (vw (vw e).e0).pos) (emL es N (vw e).es) [] (vw e).pos
 | .lenset _,_,e=>e
 | .sset _,_,e=>e
 | .sumL _,_,e=>e
 | .rng _ _ _,_,e=>e
 | .comp _ N' _ tg it ifs body,N,e=>.ListComp (emBe body N' (vw e).e0) (⟨emT tg N' ((vw e).gs.headD dG).target,emI it N ((vw e).gs.headD dG).iter,emL ifs N' ((vw e).gs.headD dG).ifs,0⟩::emBg body N' (vw e).gs.tail) (vw e).sc (vw e).pos
 | .ssc N' _ tg it ifs body,N,e=>.Call (.Name "sorted" (vw (vw e).e0).pos) [.SetComp (emBe body N' (vw (x0 e)).e0) (⟨emT tg N' ((vw (x0 e)).gs.headD dG).target,emI it N ((vw (x0 e)).gs.headD dG).iter,emL ifs N' ((vw (x0 e)).gs.headD dG).ifs,0⟩::emBg body N' (vw (x0 e)).gs.tail) (vw (x0 e)).sc (vw (x0 e)).pos] [] (vw e).pos
 | .emit _,_,e=>e
 | .emitK _,_,e=>e
 | .sortd a,N,e=>.Call (.Name "sorted" (vw (vw e).e0).pos) [emE a N (x0 e)] [] (vw e).pos
 | .inner _ _ _ _,_,e=>e
 | .seq _,_,e=>e
 | .range _,_,e=>e
 | .zip _,_,e=>e
 | .down _,_,e=>e
 | .enum _,_,e=>e
 | .revl _,_,e=>e
 | .by2 _,_,e=>e
noncomputable def emBe:CE→Ls→Expr→Expr
 | .emit a,N,e=>emE a N e
 | .emitK a,N,e=>emE a N e
 | .inner _ _ _ body,N,e=>emBe body N e
 |_,_,e=>e
noncomputable def emBg:CE→Ls→List Comprehension→List Comprehension
 | .inner tg it ifs body,N,gs=>⟨emT tg N (gs.headD dG).target,emI it N (gs.headD dG).iter,emL ifs N (gs.headD dG).ifs,0⟩::emBg body N gs.tail
 |_,_,_=>[]
noncomputable def emL:List CE→Ls→Lx→Lx
 | [],_,_=>[]
 |c::cs,N,es=>emE c N (es.headD dE)::emL cs N es.tail
noncomputable def emI:CE→Ls→Expr→Expr
 | .seq c,N,e=>emE c N e
 | .range es,N,e=>.Call (.Name "range" (vw (vw e).e0).pos) (emL es N (vw e).es) [] (vw e).pos
 | .enum _,_,e=>e
 | .by2 _,_,e=>e
 | .revl _,_,e=>e
 | .down _,_,e=>e
 | .zip es,N,e=>.Call (.Name "zip" (vw (vw e).e0).pos) (emL es N (vw e).es) [] (vw e).pos
 |_,_,e=>e
end
mutual
noncomputable def sdE:CE→Ls→Sc→Expr→Bool
 | .var i,N,sc,_=>N[i]?==some (N.getD i "")&&(visB sc (N.getD i "")&&a6K' (N.getD i ""))
 | .dct,_,_,_=>true
 | .rv0 _ _ _,_,_,_=>false
 | .odd _ _ _,_,_,_=>false
 | .rev _ _,_,_,_=>false
 | .lit d,_,_,_=>litIs d (b0n' d)
 | .glob y,_,sc,_=>gloB sc y
 | .ty n,_,sc,_=>gloB sc (Str.ofString n)&&a3R'.contains n
 | .bin _ a b,N,sc,e=>sdE a N sc (vw e).e0&&sdE b N sc (vw e).e1
 | .binB _ _,_,_,_=>false
 | .catB _ _,_,_,_=>false
 | .neg a,N,sc,e=>sdE a N sc (vw e).e0
 | .cmp op a b,N,sc,e=>sdE a N sc (vw e).e0&&(sdE b N sc ((vw e).es.headD dE)&& !behindInMarks op (emE b N ((vw e).es.headD dE)))
 | .chain3 _ _ _ _ _ _ _,_,_,_=>false
 | .chain _ op' a b c,N,sc,e=>sdE a N sc (vw e).e0&&(sdE b N sc ((vw e).es.headD dE)&&(sdE c N sc ((vw e).es.tail.headD dE)&& !behindInMarks op' (emE c N ((vw e).es.tail.headD dE))))
 | .band a b,N,sc,e=>sdE a N sc ((vw e).es.headD dE)&&cond ((vw e).es.length==2) (sdE b N sc ((vw e).es.tail.headD dE)) (b1t' b&&sdE b N sc (.BoolOp .And (vw e).es.tail (vw e).pos))
 | .bor a b,N,sc,e=>sdE a N sc ((vw e).es.headD dE)&&cond ((vw e).es.length==2) (sdE b N sc ((vw e).es.tail.headD dE)) (isBor b&&sdE b N sc (.BoolOp .Or (vw e).es.tail (vw e).pos))
 | .bnot a,N,sc,e=>sdE a N sc (vw e).e0
 | .ite c a b,N,sc,e=>sdE c N sc (vw e).e0&&(sdE a N sc (vw e).e1&&sdE b N sc (vw e).e2)
 | .tup es,N,sc,e=>sdL es N sc (vw e).es&&decide (es.length<1000)
 | .lst _ es,N,sc,e=>sdL es N sc (vw e).es&&decide (es.length<1000)
 | .idx a b,N,sc,e=>sdE a N sc (vw e).e0&&(sdE b N sc (vw e).e1&&a3l' (emE b N (vw e).e1))
 | .sl a lo hi,N,sc,e=>sdE a N sc (vw e).e0&&(sdL lo N sc (vw (vw e).e1).lo.toList&&(sdL hi N sc (vw (vw e).e1).hi.toList&&(decide (lo.length<2)&&decide (hi.length<2))))
 | .call f es,N,sc,e=>gloB sc f&&(sdL es N sc (vw e).es&& !es.isEmpty)
 | .blt b es,N,sc,e=>gloB sc (a3k' b)&&(sdL es N sc (vw e).es&&(!es.isEmpty&&bltB b))
 | .fst _,_,_,_=>false
 | .sel _ _ _,_,_,_=>false
 | .tix _ _,_,_,_=>false
 | .meth m o es,N,sc,e=>isNm (emE o N (vw (vw e).e0).e0)&&((vw (vw e).e0).pos.endLine==(vw e).pos.line&&(sdE o N sc (vw (vw e).e0).e0&&(sdL es N sc (vw e).es&&decide (es.length<20))))
 | .lenset _,_,_,_=>false
 | .sset _,_,_,_=>false
 | .sumL _,_,_,_=>false
 | .rng _ _ _,_,_,_=>false
 | .comp _ N' fr tg it ifs body,N,sc,e=>scB (vw e).sc sc&&(frB (vw e).sc.names N' N fr&&(a5r' N'&&(sdT (ownB (vw e).sc.names) N' (relB (vw e).sc.names sc) tg&&(sdI it N sc tg ((vw e).gs.headD dG).iter&&(a6L' (emI it N ((vw e).gs.headD dG).iter)&&(sdL ifs N' (relB (vw e).sc.names sc) ((vw e).gs.headD dG).ifs&&sdB body false (ownB (vw e).sc.names) N' (relB (vw e).sc.names sc) (vw e).gs.tail (vw e).e0))))))
 | .ssc N' fr tg it ifs body,N,sc,e=>gloB sc "sorted"&&(scB (vw (x0 e)).sc sc&&(frB (vw (x0 e)).sc.names N' N fr&&(a5r' N'&&(sdT (ownB (vw (x0 e)).sc.names) N' (relB (vw (x0 e)).sc.names sc) tg&&(sdI it N sc tg ((vw (x0 e)).gs.headD dG).iter&&(a6L' (emI it N ((vw (x0 e)).gs.headD dG).iter)&&(sdL ifs N' (relB (vw (x0 e)).sc.names sc) ((vw (x0 e)).gs.headD dG).ifs&&sdB body true (ownB (vw (x0 e)).sc.names) N' (relB (vw (x0 e)).sc.names sc) (vw (x0 e)).gs.tail (vw (x0 e)).e0)))))))
 | .emit _,_,_,_=>false
 | .emitK _,_,_,_=>false
 | .sortd a,N,sc,e=>gloB sc "sorted"&&(sdE a N sc (x0 e)&&a0H' (emE a N (x0 e)))
 | .inner _ _ _ _,_,_,_=>false
 | .seq _,_,_,_=>false
 | .range _,_,_,_=>false
 | .zip _,_,_,_=>false
 | .down _,_,_,_=>false
 | .enum _,_,_,_=>false
 | .revl _,_,_,_=>false
 | .by2 _,_,_,_=>false
noncomputable def sdB:CE→Bool→(Str→Bool)→Ls→Sc→List Comprehension→Expr→Bool
 | .emit a,kd,_,N,sc,_,e=> !kd&&sdE a N sc e
 | .emitK a,kd,_,N,sc,_,e=>kd&&sdE a N sc e
 | .inner tg it ifs body,kd,cell,N,sc,gs,e=>sdT cell N sc tg&&(sdI it N sc tg (gs.headD dG).iter&&(a6L' (emI it N (gs.headD dG).iter)&&(sdL ifs N sc (gs.headD dG).ifs&&sdB body kd cell N sc gs.tail e)))
 |_,_,_,_,_,_,_=>false
noncomputable def sdL:List CE→Ls→Sc→Lx→Bool
 | [],_,_,_=>true
 |c::cs,N,sc,es=>sdE c N sc (es.headD dE)&&(a0H' (emE c N (es.headD dE))&&sdL cs N sc es.tail)
noncomputable def sdI:CE→Ls→Sc→CT→Expr→Bool
 | .seq c,N,sc,_,e=>sdE c N sc e
 | .range es,N,sc,_,e=>gloB sc "range"&&(sdL es N sc (vw e).es&&(es.length==1||es.length==2))
 | .enum _,_,_,_,_=>false
 | .by2 _,_,_,_,_=>false
 | .revl _,_,_,_,_=>false
 | .down _,_,_,_,_=>false
 | .zip es,N,sc,t,e=>gloB sc "zip"&&(sdL es N sc (vw e).es&&(es.length==2&&a9x' t))
 |_,_,_,_,_=>false
end
theorem andB{a b:Bool}(h:(a&&b)=true):a=true∧b=true:=Bool.and_eq_true_iff.mp h
theorem decB{p:Prop} [Decidable p] (h:decide p=true):p:=of_decide_eq_true h
theorem notB{a:Bool}(h:(!a)=true):a=false:=by cases a;rfl;cases h
end Py
variable {sc:Py.Sc}
namespace Py
noncomputable def spOf(K:Fg)(mg:Mg)(n:Nat)(φ:List D→Store→Res D):Sp:=λvs H Q E=>vs.length=n∧∃F μ S ds,SOk K ⟨mg,F⟩ μ S H∧RepL K ⟨mg,F⟩ μ H ds vs∧WantG K ⟨mg,F⟩ E (Rep K ⟨mg,F⟩) μ H Q (φ ds S)
structure FOk (P:Program)(w:World)(K:Fg)(mg:Mg)(base:Heap)(CX:CXT)(k:Nat)(f:Str)(φ:List D→Store→Res D):Prop where
 ex:∃fa fd ps,mg f=some (.ref fa)∧PySem.W.keepIn K (.ref fa)=true∧Binds K fd ps []∧FnOk P w K mg base CX k fa fd ps (spOf K mg ps.length φ)∧∀ds S,φ ds S≠.fail→ds.length=ps.length
noncomputable def a1s':Ls:=["len","tuple","list","int","min","max","isinstance","all","any","sorted","bool","str","dict","range","zip","set","sum","reversed","repr","abs","enumerate"]
structure MOk (P:Program)(w:World)(K:Fg)(mg:Mg)(base:Heap)(CX:CXT)(Φ:FT)(Γ:Str→Option D)(k:Nat):Prop where
 fns:∀f φ,Φ f=some φ→FOk P w K mg base CX k f φ
 gl:∀x d,Γ x=some d→∃v u,mg x=some u∧RelV v u∧∀F μ H,Rep K ⟨mg,F⟩ μ H d v
 bl:∀x∈a1s',mg x=none
structure XOk (X:Cx)(cell:Str→Bool)(N:Ls)(sc:Sc)(CX:CXT)(E:XK)(Φ:FT)(Γ:Str→Option D)(k:Nat):Prop where
 n:X.N=N
 nd:N.Nodup
 sc:X.env.scope.names=sc
 kd:X.env.scope.kind=.function
 calm:X.calm=true
 room:Room k X.A
 fn:∀x,cell x=true→X.fn x=true
 mod:MOk X.prog X.w X.K X.mg X.base CX Φ Γ k
 pass:a9k' CX X E
 cx0:∀outer H s e s',CX outer H s E0 e s'→False
section
variable {E:XK}{l r:Expr}{pos:Pos}{a b c:CE}
theorem s_bin{op:Operator}(ha:PE X l (tE X.K X.mg E Φ Γ a))(hb:PE X r (tE X.K X.mg E Φ Γ b)):PE X (.BinOp l op r pos) (tE X.K X.mg E Φ Γ (.bin op a b)):=
 weakE (pe_op (op_D op) ha hb) λσ H Q zz=>ex43 zz λF μ ρ S sk en w=>
  ⟨F,μ,ρ,S,sk,en,(WantG.bind w).mono λv1 H1 zz=>ex34 zz λμ1 S1 d1 x1 s1 r1 w1=>⟨F,μ1,ρ,S1,s1,en.mono x1,(WantG.bind w1).mono λv2 H2 zz=>ex34 zz λμ2 S2 d2 x2 s2 r2 w2=>⟨F,μ2,S2,d1,d2,s2,Rep.mono x2 _ _ r1,r2,a1l' w2⟩⟩⟩
theorem s_cmp{op:CmpOp}(hu:X.A.units+64<cLine)(ha:PE X l (tE X.K X.mg E Φ Γ a))(hb:PE X r (tE X.K X.mg E Φ Γ b))(hm:behindInMarks op r=false):PE X (.Compare l [op] [r] pos) (tE X.K X.mg E Φ Γ (.cmp op a b)):=
 weakE (pe_cmpR (cmp_D op hu) ha hb hm) λσ H Q zz=>ex43 zz λF μ ρ S sk en w=>
  ⟨F,μ,ρ,S,sk,en,(WantG.bind w).mono λv1 H1 zz=>ex34 zz λμ1 S1 d1 x1 s1 r1 w1=>⟨F,μ1,ρ,S1,s1,en.mono x1,(WantG.bind w1).mono λv2 H2 zz=>ex34 zz λμ2 S2 d2 x2 s2 r2 w2=>⟨F,μ2,S2,d1,d2,s2,Rep.mono x2 _ _ r1,r2,a1l' w2⟩⟩⟩
theorem a3S'{mg:GS}{E:XK}{Rel:La→Hp→α→β→Prop}{Q:β→Hp→Prop}{f:Bool→Res α}
  (w:WantG K mg E Rel μ H Q (onBl d f)) (r:Rep K mg μ H d v):∃k,v=.bl k∧d=.bl k∧WantG K mg E Rel μ H Q (f k):=by
 cases d with
 |bl k=>exact⟨k,a4H' r,rfl,w⟩
 |_=>exact w.elim
theorem t_cmp{op:CmpOp}(hu:X.A.units+64<cLine)(ha:PE X l (tE X.K X.mg E Φ Γ a))(hb:PE X r (tE X.K X.mg E Φ Γ b))(hm:behindInMarks op r=false):PT X (.Compare l [op] [r] pos) (tT X.K X.mg E Φ Γ (.cmp op a b)):=
 weakT (pt_cmpR (cmp_D op hu) ha hb hm) λσ H Q zz=>ex43 zz λF μ ρ S sk en w=>
  ⟨F,μ,ρ,S,sk,en,(WantG.bind w).mono λv1 H1 zz=>ex34 zz λμ1 S1 d1 x1 s1 r1 w1=>⟨F,μ1,ρ,S1,s1,en.mono x1,(WantG.bind w1).mono λv2 H2 zz=>ex34 zz λμ2 S2 d2 x2 s2 r2 w2=>
   ⟨F,μ2,S2,d1,d2,s2,Rep.mono x2 _ _ r1,r2,a1l' ((WantG.bind w2).mono λv3 H3 zz=>ex34 zz λμ3 S3 d3 x3 s3 r3 w3=>by obtain⟨k,rfl,rfl,w4⟩:=a3S' w3 r3;exact⟨k,rfl,w4 μ3 H3 k .refl s3 rfl⟩)⟩⟩⟩
theorem s_chain{op:CmpOp}(hu:X.A.units+64<cLine)(ha:PE X l (tE X.K X.mg E Φ Γ a))(hb:PE X r (tE X.K X.mg E Φ Γ b))(hc:PE X r' (tE X.K X.mg E Φ Γ c))(hm:behindInMarks op' r'=false):PE X (.Compare l [op,op'] [r,r'] pos) (tE X.K X.mg E Φ Γ (.chain op op' a b c)):=
 weakE (b0X' (cmp_D op hu) (cmp_D op' hu) ha hb hc hm) λσ H Q zz=>ex43 zz λF μ ρ S sk en w=>
  ⟨F,μ,ρ,S,sk,en,(WantG.bind w).mono λv1 H1 zz=>ex34 zz λμ1 S1 d1 x1 s1 r1 w1=>⟨F,μ1,ρ,S1,s1,en.mono x1,(WantG.bind w1).mono λv2 H2 zz=>ex34 zz λμ2 S2 d2 x2 s2 r2 w2=>
   ⟨F,μ2,S2,d1,d2,s2,Rep.mono x2 _ _ r1,r2,a1l' ((WantG.bind w2).mono λv3 H3 zz=>ex34 zz λμ3 S3 d3 x3 s3 r3 w3=>by
    obtain⟨k,rfl,rfl,w4⟩:=a3S' w3 r3;refine⟨k,rfl,?_⟩;cases k with
    |true=>rw[if_pos rfl]at w4⊢;exact⟨F,μ3,ρ,S3,s3,(en.mono x1).mono (x2.trans x3),(WantG.bind w4).mono λv4 H4 zz=>ex34 zz λμ4 S4 d4 x4 s4 r4 w5=>⟨F,μ4,S4,d2,d4,s4,Rep.mono (x3.trans x4) _ _ r2,r4,a1l' w5⟩⟩
    |false=>rw[if_neg (by decide)]at w4⊢;exact w4 μ3 H3 _ .refl s3 repBl)⟩⟩⟩
theorem t_chain{op:CmpOp}(hu:X.A.units+64<cLine)(ha:PE X l (tE X.K X.mg E Φ Γ a))(hb:PE X r (tE X.K X.mg E Φ Γ b))(hc:PE X r' (tE X.K X.mg E Φ Γ c))(hm:behindInMarks op' r'=false):PT X (.Compare l [op,op'] [r,r'] pos) (tT X.K X.mg E Φ Γ (.chain op op' a b c)):=
 weakT (b0Y' (cmp_D op hu) (cmp_D op' hu) ha hb hc hm) λσ H Q zz=>ex43 zz λF μ ρ S sk en w=>
  ⟨F,μ,ρ,S,sk,en,(WantG.bind w).mono λv1 H1 zz=>ex34 zz λμ1 S1 d1 x1 s1 r1 w1=>⟨F,μ1,ρ,S1,s1,en.mono x1,(WantG.bind w1).mono λv2 H2 zz=>ex34 zz λμ2 S2 d2 x2 s2 r2 w2=>
   ⟨F,μ2,S2,d1,d2,s2,Rep.mono x2 _ _ r1,r2,a1l' ((WantG.bind w2).mono λv3 H3 zz=>ex34 zz λμ3 S3 d3 x3 s3 r3 w3=>by
    obtain⟨k,rfl,rfl,w4⟩:=a3S' w3 r3;refine⟨k,rfl,?_⟩;cases k with
    |true=>rw[if_pos rfl]at w4⊢;exact⟨F,μ3,ρ,S3,s3,(en.mono x1).mono (x2.trans x3),(WantG.bind w4).mono λv4 H4 zz=>ex34 zz λμ4 S4 d4 x4 s4 r4 w5=>⟨F,μ4,S4,d2,d4,s4,Rep.mono (x3.trans x4) _ _ r2,r4,a1l' ((WantG.bind w5).mono λv5 H5 zz=>ex34 zz λμ5 S5 d5 x5 s5 r5 w6=>by obtain⟨k,rfl,rfl,w7⟩:=a3S' w6 r5;exact⟨k,rfl,w7 μ5 H5 k .refl s5 rfl⟩)⟩⟩
    |false=>rw[if_neg (by decide)]at w4⊢;exact⟨false,rfl,w4 μ3 H3 _ .refl s3 rfl⟩)⟩⟩⟩
theorem s_and{rest:Lx}(ha:PE X l (tE X.K X.mg E Φ Γ a))(hb:PE X (.BoolOp .And (r::rest) pos) (tE X.K X.mg E Φ Γ b)):PE X (.BoolOp .And (l::r::rest) pos) (tE X.K X.mg E Φ Γ (.band a b)):=
 weakE (pe_and ha hb) λσ H Q zz=>ex43 zz λF μ ρ S sk en w=>
  ⟨F,μ,ρ,S,sk,en,(WantG.bind w).mono λv1 H1 zz=>ex34 zz λμ1 S1 d1 x1 s1 r1 w1=>by
   obtain⟨k,rfl,rfl,w2⟩:=a3S' w1 r1;refine⟨k,rfl,?_⟩;cases k with
   |true=>rw[if_pos rfl]at w2⊢;exact⟨F,μ1,ρ,S1,s1,en.mono x1,w2⟩
   |false=>rw[if_neg (by decide)]at w2⊢;exact w2 μ1 H1 _ .refl s1 repBl⟩
theorem s_or{rest:Lx}(ha:PE X l (tE X.K X.mg E Φ Γ a))(hb:PE X (.BoolOp .Or (r::rest) pos) (tE X.K X.mg E Φ Γ b)):PE X (.BoolOp .Or (l::r::rest) pos) (tE X.K X.mg E Φ Γ (.bor a b)):=
 weakE (pe_or ha hb) λσ H Q zz=>ex43 zz λF μ ρ S sk en w=>
  ⟨F,μ,ρ,S,sk,en,(WantG.bind w).mono λv1 H1 zz=>ex34 zz λμ1 S1 d1 x1 s1 r1 w1=>by
   obtain⟨k,rfl,rfl,w2⟩:=a3S' w1 r1;refine⟨k,rfl,?_⟩;cases k with
   |true=>rw[if_pos rfl]at w2⊢;exact w2 μ1 H1 _ .refl s1 repBl
   |false=>rw[if_neg (by decide)]at w2⊢;exact⟨F,μ1,ρ,S1,s1,en.mono x1,w2⟩⟩
theorem pe_notT(ha:PE X l ta):PE X (.UnaryOp .Not l pos) (λσ H Q=>ta σ H λx H'=>∃k,TruV X.K x H' k∧Q (.bl (!k)) H'):=by intro pq s σ H Q I h;refine UnaryOp_ (thn (ha pq s σ H _ I h) λv s1 ⟨x,H1,I1,r1,k,t1,q1⟩=>?_);refine not_of (thn (tru_ok pq s1 σ H1 x v (λk H'=>Q (.bl (!k)) H') I1 r1 ⟨k,t1,q1⟩) λk' s2 ⟨H2,I2,q2⟩=>?_);exact⟨.bl (!k'),H2,I2,rfl,q2⟩
theorem a7P'{mg:GS}{E:XK}{Rel:La→Hp→α→β→Prop}{Q:β→Hp→Prop}{f:Bool→Res α}
  (w:WantG K mg E Rel μ H Q (match truD S d with|some k=>f k|none=>.fail)):∃k,truD S d=some k∧WantG K mg E Rel μ H Q (f k):=by
 cases e:truD S d with
 |none=>rw[e]at w;exact w.elim
 |some k=>rw[e]at w;exact⟨k,rfl,w⟩
theorem s_not(ha:PE X l (tE X.K X.mg E Φ Γ a)):PE X (.UnaryOp .Not l pos) (tE X.K X.mg E Φ Γ (.bnot a)):=
 weakE (pe_notT ha) λσ H Q zz=>ex43 zz λF μ ρ S sk en w=>⟨F,μ,ρ,S,sk,en,(WantG.bind w).mono λv1 H1 zz=>ex34 zz λμ1 S1 d1 x1 s1 r1 w1=>by obtain⟨k,e,w2⟩:=a7P' w1;exact⟨k,tru_D s1 r1 e,w2 μ1 H1 _ .refl s1 repBl⟩⟩
theorem s_neg(ha:PE X l (tE X.K X.mg E Φ Γ a)):PE X (.UnaryOp .USub l pos) (tE X.K X.mg E Φ Γ (.neg a)):=
 weakE (pe_un un_neg ha) λσ H Q zz=>ex43 zz λF μ ρ S sk en w=>⟨F,μ,ρ,S,sk,en,(WantG.bind w).mono λv1 H1 zz=>ex34 zz λμ1 S1 d1 x1 s1 r1 w1=>by
  cases d1 with
  |int i=>exact⟨i,a0a' r1,w1 μ1 H1 _ .refl s1 a0L'⟩
  |_=>exact w1.elim⟩
theorem t_and{rest:Lx}(ha:PT X l (tT X.K X.mg E Φ Γ a))(hb:PW X (.BoolOp .And (r::rest) pos) (tT X.K X.mg E Φ Γ b)):PW X (.BoolOp .And (l::r::rest) pos) (tT X.K X.mg E Φ Γ (.band a b)):=λwh pq s σ H Q I zz=>ex43 zz λF μ ρ S sk en w=>
 pw_and ha hb wh pq s σ H Q I ⟨F,μ,ρ,S,sk,en,(WantG.bind w).mono λk H1 zz=>ex34 zz λμ1 S1 k' x1 s1 e1 w1=>by
  subst e1;cases k' with
  |true=>rw[if_pos rfl]at w1⊢;exact⟨F,μ1,ρ,S1,s1,en.mono x1,w1⟩
  |false=>rw[if_neg (by decide)]at w1⊢;exact w1 μ1 H1 _ .refl s1 rfl⟩
theorem t_or{rest:Lx}(ha:PT X l (tT X.K X.mg E Φ Γ a))(hb:PW X (.BoolOp .Or (r::rest) pos) (tT X.K X.mg E Φ Γ b)):PW X (.BoolOp .Or (l::r::rest) pos) (tT X.K X.mg E Φ Γ (.bor a b)):=λwh pq s σ H Q I zz=>ex43 zz λF μ ρ S sk en w=>
 pw_or ha hb wh pq s σ H Q I ⟨F,μ,ρ,S,sk,en,(WantG.bind w).mono λk H1 zz=>ex34 zz λμ1 S1 k' x1 s1 e1 w1=>by
  subst e1;cases k' with
  |true=>rw[if_pos rfl]at w1⊢;exact w1 μ1 H1 _ .refl s1 rfl
  |false=>rw[if_neg (by decide)]at w1⊢;exact⟨F,μ1,ρ,S1,s1,en.mono x1,w1⟩⟩
theorem t_not(ha:PT X l (tT X.K X.mg E Φ Γ a)):PT X (.UnaryOp .Not l pos) (tT X.K X.mg E Φ Γ (.bnot a)):=
 weakT (pt_not ha) λσ H Q zz=>ex43 zz λF μ ρ S sk en w=>⟨F,μ,ρ,S,sk,en,(WantG.bind w).mono λk H1 zz=>ex34 zz λμ1 S1 k' x1 s1 e1 w1=>by subst e1;exact w1 μ1 H1 _ .refl s1 rfl⟩
theorem s_ite{t x y:Expr}(hc:PT X t (tT X.K X.mg E Φ Γ c))(ha:PE X x (tE X.K X.mg E Φ Γ a))(hb:PE X y (tE X.K X.mg E Φ Γ b)):PE X (.IfExp t x y pos) (tE X.K X.mg E Φ Γ (.ite c a b)):=
 weakE (b0U' hc ha hb) λσ H Q zz=>ex43 zz λF μ ρ S sk en w=>⟨F,μ,ρ,S,sk,en,(WantG.bind w).mono λk H1 zz=>ex34 zz λμ1 S1 k' x1 s1 e1 w1=>by
  subst e1;cases k' with
  |true=>rw[if_pos rfl]at w1⊢;exact⟨F,μ1,ρ,S1,s1,en.mono x1,w1⟩
  |false=>rw[if_neg (by decide)]at w1⊢;exact⟨F,μ1,ρ,S1,s1,en.mono x1,w1⟩⟩
theorem s_nil:PA X [] (tL X.K X.mg E Φ Γ []):=weakA b1a' λσ H Q zz=>ex43 zz λF μ ρ S sk en w=>w μ H [] .refl sk .nil
theorem a0s'(h:a0H' e=true):starEach (e::es) env=(false,eval e env)::starEach es env:=by cases e<;>first|rfl|cases h
theorem s_cons{cs:List CE}(hn:a0H' e=true)(ha:PE X e (tE X.K X.mg E Φ Γ a))(hr:PA X es (tL X.K X.mg E Φ Γ cs)):PA X (e::es) (tL X.K X.mg E Φ Γ (a::cs)):=
 weakA (a7u' ha hr (a0s' hn)) λσ H Q zz=>ex43 zz λF μ ρ S sk en w=>⟨F,μ,ρ,S,sk,en,(WantG.bind w).mono λv1 H1 zz=>ex34 zz λμ1 S1 d1 x1 s1 r1 w1=>
  ⟨F,μ1,ρ,S1,s1,en.mono x1,(WantG.bind w1).mono λvs H2 zz=>ex34 zz λμ2 S2 ds x2 s2 r2 w2=>w2 μ2 H2 _ .refl s2 (.cons (Rep.mono x2 _ _ r1) r2)⟩⟩
end
theorem a7Q':∀{cs:List CE} {N:Ls} {es:Lx},(emL cs N es).length=cs.length
 | [],N,es=>rfl
 |c::cs,N,es=>congrArg Nat.succ (a7Q' (cs:=cs) (N:=N) (es:=es.tail))
theorem a1t':∀{cs:List CE} {N:Ls} {sc:Sc} {es:Lx},sdL cs N sc es=true→∀e∈emL cs N es,a0H' e=true
 | [],N,sc,es,h,e,he=>absurd he ZO
 |c::cs,N,sc,es,h,e,he=>by
  rcases Zo.mp he with rfl|he
  ·exact(andB (andB h).2).1
  ·exact a1t' (andB (andB h).2).2 e he
theorem a1Y':∀{es:Lx} {env:Env} {pos:Pos},(∀e∈es,a0H' e=true)→(backTo pos (starEach es env)).any (·.1)=false
 | [],env,pos,h=>rfl
 |e::es,env,pos,h=>by rw[a0s' (h e Zd)];show(false||(backTo pos (starEach es env)).any (·.1))=false;rw[a1Y' λe he=>h e (Zb _ he)];rfl
theorem a7R':∀{es:Lx} {env:Env} {pos:Pos},(∀e∈es,a0H' e=true)→(backTo pos (starEach es env)).all (λx=> !x.1)=true
 | [],env,pos,h=>rfl
 |e::es,env,pos,h=>by rw[a0s' (h e Zd)];show(!false&&(backTo pos (starEach es env)).all (λx=> !x.1))=true;rw[a7R' λe he=>h e (Zb _ he)];rfl
theorem a5s':∀{cs:List CE} {ρ:Rho} {S S':Store} {ds:List D},denL Φ Γ cs ρ S=.ok ds S'→ds.length=cs.length
 | [],ρ,S,S',ds,h=>by unfold denL at h;cases h;rfl
 |c::cs,ρ,S,S',ds,h=>by
  unfold denL at h;cases e:den Φ Γ c ρ S with
  |ok d S1=>
   rw[e]at h;cases e2:denL Φ Γ cs ρ S1 with
   |ok ds1 S2=>simp only[Res.bind,e2]at h;cases h;simp[a5s' e2]
   |err x S2=>simp only[Res.bind,e2]at h;cases h
   |fail=>simp only[Res.bind,e2]at h;cases h
  |err x S1=>rw[e]at h;cases h
  |fail=>rw[e]at h;cases h
theorem a6j'{x:Str}{s:Scope}(hs:s.names=sc)(h:visB sc x=true):Vis s x:=by unfold Vis;rw[hs];unfold visB at h;split at h<;>simp_all
theorem a1G'{x:Str}(h:a6K' x=true):(x==("__debug__":Str))=false∧(x==("__classdict__":Str))=false:=by unfold a6K' at h;simp only[Zt,Bool.not_eq_true']at h;exact h
theorem a0K'{x:Str}(h:gloB sc x=true):sc.lookup x=some .globalImplicit∧(x==("__debug__":Str))=false∧x≠"__name__":=by unfold gloB at h;simp only[Zt,Bool.not_eq_true',beq_iff_eq]at h;refine⟨h.1.1,h.1.2,λz=>?_⟩;subst z;exact absurd h.2 (by decide)
section
variable {E:XK}{l r:Expr}{pos:Pos}{a b c:CE}{cs:List CE}{x:Str}
theorem XOk.gl(O:XOk X cell N sc CX E Φ Γ k)(h:sc.lookup x=some .globalImplicit):Gl X x:=by show X.env.scope.names.lookup x=_;rw[O.sc];exact h
theorem s_var(O:XOk X cell N sc CX E Φ Γ k){i:Nat}(h1:(N[i]?==some x)=true)(h2:visB sc x=true)(h3:a6K' x=true):PE X (.Name x pos) (tE X.K X.mg E Φ Γ (.var i)):=by
 refine weakE (pe_var (i:=i) (by rw[O.n];simpa using h1) (a6j' O.sc h2) (a1G' h3).1 (a1G' h3).2) λσ H Q zz=>ex43 zz λF μ ρ S sk en w=>?_;simp only[den]at w;split at w
 ·rename_i d e;obtain⟨v,e1,r1⟩:=en.2 i d e;exact⟨v,e1,w μ H v .refl sk r1⟩
 ·exact w.elim
theorem s_lit{cn:Const}{j}(h:litIs d cn=true):PE X (.Constant cn j pos) (tE X.K X.mg E Φ Γ (.lit d)):=by
 unfold litIs at h;split at h
 ·exact weakE pe_non λσ H Q zz=>ex43 zz λF μ ρ S sk en w=>w μ H _ .refl sk a9o'
 ·have e:=(beq_iff_eq).mp h;subst e;exact weakE pe_bl λσ H Q zz=>ex43 zz λF μ ρ S sk en w=>w μ H _ .refl sk repBl
 ·have e:=(beq_iff_eq).mp h;subst e;exact weakE pe_int λσ H Q zz=>ex43 zz λF μ ρ S sk en w=>w μ H _ .refl sk a0L'
 ·have e:=(beq_iff_eq).mp h;subst e;exact weakE pe_str λσ H Q zz=>ex43 zz λF μ ρ S sk en w=>w μ H _ .refl sk repStr
 ·cases h
theorem s_glob(O:XOk X cell N sc CX E Φ Γ k)(h:gloB sc x=true):PE X (.Name x pos) (tE X.K X.mg E Φ Γ (.glob x)):=by
 obtain⟨h1,h2,h3⟩:=a0K' h;cases e:Γ x with
 |none=>intro pq s σ H Q I ⟨F,μ,ρ,S,sk,en,w⟩;simp only[den]at w;rw[e]at w;exact w.elim
 |some d=>obtain⟨v,u,m1,m2,m3⟩:=O.mod.gl x d e;refine weakE (pe_glob (O.gl h1) m1 m2 h2) λσ H Q zz=>ex43 zz λF μ ρ S sk en w=>?_;simp only[den]at w;rw[e]at w;exact w μ H v .refl sk (m3 F μ H)
theorem tyN_blt{n:String}(h:a3R'.contains n=true):(Str.ofString n)∈a1s':=by simp[a3R']at h;rcases h with rfl|rfl|rfl|rfl|rfl|rfl<;>decide+kernel
theorem s_ty(O:XOk X cell N sc CX E Φ Γ k){n:String}(h:gloB sc (Str.ofString n)=true)(h2:a3R'.contains n=true):PE X (.Name (Str.ofString n) pos) (tE X.K X.mg E Φ Γ (.ty n)):=by obtain⟨h1,h3,h4⟩:=a0K' h;refine weakE (pe_bltn (v:=.ty n) (O.gl h1) (O.mod.bl _ (tyN_blt h2)) (ty_boot h2) rfl h4 h3) λσ H Q zz=>ex43 zz λF μ ρ S sk en w=>?_;exact w μ H (.ty n) .refl sk (by unfold Rep;rfl)
theorem len_of{mg:GS}{Q:List V→Hp→Prop}(hl:cs.length<1000)(w:WantG K mg E (RepL K mg) μ H Q (denL Φ Γ cs ρ S)):WantG K mg E (RepL K mg) μ H (λvs H'=>vs.length≤sizeLine∧Q vs H') (denL Φ Γ cs ρ S):=by
 cases e:denL Φ Γ cs ρ S with
 |ok ds S'=>rw[e]at w;intro μ' H' vs x s r;refine⟨?_,w μ' H' vs x s r⟩;rw[←r.length,a5s' e];exact Nat.le_of_lt (Zu hl (by decide))
 |err y S'=>rw[e]at w;exact w
 |fail=>rw[e]at w;exact w
theorem s_tup{x1}(hl:cs.length<1000)(h:PA X es (tL X.K X.mg E Φ Γ cs)):PE X (.Tuple es x1 pos) (tE X.K X.mg E Φ Γ (.tup cs)):=
 weakE (pe_tup h) λσ H Q zz=>ex43 zz λF μ ρ S sk en w=>⟨F,μ,ρ,S,sk,en,(len_of hl (WantG.bind w)).mono λvs H1 ⟨hz,μ1,S1,ds,x1,s1,r1,w1⟩=>⟨hz,λp hp=>by exact Want.tup (show Want X.K ⟨X.mg,F⟩ μ1 H1 Q (.ok (.tup ds) S1)from w1) s1 r1 p hp⟩⟩
theorem s_lst{box:Bool}(hl:cs.length<1000)(h:PA X es (tL X.K X.mg E Φ Γ cs)):PE X (.List es pos) (tE X.K X.mg E Φ Γ (.lst box cs)):=
 weakE (pe_lst h) λσ H Q zz=>ex43 zz λF μ ρ S sk en w=>⟨F,μ,ρ,S,sk,en,(len_of hl (WantG.bind w)).mono λvs H1 ⟨hz,μ1,S1,ds,x1,s1,r1,w1⟩=>⟨hz,λp hp=>by
  cases box with
  |true=>exact Want.box (show Want X.K ⟨X.mg,F⟩ μ1 H1 Q (.ok (.ref S1.length) (S1++[ds]))from w1) s1 r1 p hp
  |false=>exact Want.lst (show Want X.K ⟨X.mg,F⟩ μ1 H1 Q (.ok (.lst ds) S1)from w1) s1 r1 p hp⟩⟩
theorem s_dct:PE X (.Dict [] [] pos) (tE X.K X.mg E Φ Γ .dct):=λpq s σ H Q I zz=>ex43 zz λF μ ρ S sk en w=>by
 have hlt:mainGlobals<s.heap.objs.size:=Zu I.mod.glob.lt (ZS I.ok.bsz I.sz);have hp:H s.heap.objs.size=none:=I.hok.fresh (Zk _);refine wpAny_Dict_empty ⟨.ref s.heap.objs.size,upd H s.heap.objs.size (.dK []),I.laid (t':=s.toks) (o:=.dK []) (λb ob q=>Zc _ q) (Zk _) ?_,rfl,?_⟩
 ·refine⟨Nat.zero_le _,?_,[],.nil,_, #[],_,Zl _ rfl,⟨rfl,rfl,rfl⟩,rfl,λe he=>by simp at he,.nil,.nil⟩;have h3:mainGlobals=3:=rfl;have h1:sysModules=1:=rfl;rw[beq_eq_false_iff_ne];intro z;rw[z,h1,h3]at hlt;exact absurd hlt (by decide)
 ·exact w μ _ _ (.laid hp) (sk.laid hp) (by unfold Rep;exact⟨_,rfl,a0y'⟩)
theorem s_idx(hs:a3l' r=true)(ha:PE X l (tE X.K X.mg E Φ Γ a))(hb:PE X r (tE X.K X.mg E Φ Γ b)):PE X (.Subscript l r pos) (tE X.K X.mg E Φ Γ (.idx a b)):=
 weakE (pe_ix ix_D ha hb (b1s' hs)) λσ H Q zz=>ex43 zz λF μ ρ S sk en w=>
  ⟨F,μ,ρ,S,sk,en,(WantG.bind w).mono λv1 H1 zz=>ex34 zz λμ1 S1 d1 x1 s1 r1 w1=>⟨F,μ1,ρ,S1,s1,en.mono x1,(WantG.bind w1).mono λv2 H2 zz=>ex34 zz λμ2 S2 d2 x2 s2 r2 w2=>⟨F,μ2,S2,d1,d2,s2,Rep.mono x2 _ _ r1,r2,a1l' w2⟩⟩⟩
def tPt(K:Fg)(mg:Mg)(E:XK)(Φ:FT)(Γ:Str→Option D)(cs:List CE):TO:=λσ H Q=>∃F μ ρ S,SOk K ⟨mg,F⟩ μ S H∧EnvR K ⟨mg,F⟩ μ H ρ σ∧
 WantG K ⟨mg,F⟩ E (λ_ _ o o'=>o=o') μ H Q ((denL Φ Γ cs ρ S).bind optL)
theorem s_part0:PO X none (tPt X.K X.mg E Φ Γ []):=by intro pq s σ H Q I ⟨F,μ,ρ,S,sk,en,w⟩;exact po_none pq s σ H Q I (w μ H none .refl sk rfl)
theorem s_part1(ha:PE X e (tE X.K X.mg E Φ Γ a)):PO X (some e) (tPt X.K X.mg E Φ Γ [a]):=by
 intro pq s σ H Q I ⟨F,μ,ρ,S,sk,en,w⟩;refine po_some ha pq s σ H Q I ⟨F,μ,ρ,S,sk,en,?_⟩
 have w':WantG X.K ⟨X.mg,F⟩ E (λ_ _ o o'=>o=o') μ H Q ((den Φ Γ a ρ S).bind λd S1=>optL [d] S1):=by
  have e1:(denL Φ Γ [a] ρ S).bind optL=(den Φ Γ a ρ S).bind λd S1=>optL [d] S1:=by rw[denL];cases den Φ Γ a ρ S<;>rfl
  rw[←e1];exact w
 refine(WantG.bind w').mono λv H1 zz=>ex34 zz λμ1 S1 d x1 s1 r1 w1=>?_;cases d with
 |int i=>exact⟨i,a0a' r1,w1 μ1 H1 (some i) .refl s1 rfl⟩
 |_=>exact w1.elim
theorem s_sl{lo hi:Option Expr}{cl ch:List CE}(ha:PE X l (tE X.K X.mg E Φ Γ a))(hl:PO X lo (tPt X.K X.mg E Φ Γ cl))(hh:PO X hi (tPt X.K X.mg E Φ Γ ch)):PE X (.Subscript l (.Slice lo hi none p2) pos) (tE X.K X.mg E Φ Γ (.sl a cl ch)):=
 weakE (b1d' sl_D ha hl hh) λσ H Q zz=>ex43 zz λF μ ρ S sk en w=>⟨F,μ,ρ,S,sk,en,(WantG.bind w).mono λv1 H1 zz=>ex34 zz λμ1 S1 d1 x1 s1 r1 w1=>⟨F,μ1,ρ,S1,s1,en.mono x1,
  (WantG.bind w1).mono λo H2 zz=>ex34 zz λμ2 S2 o' x2 s2 e2 w2=>⟨F,μ2,ρ,S2,s2,(en.mono x1).mono x2,(WantG.bind w2).mono λo2 H3 zz=>ex34 zz λμ3 S3 o2' x3 s3 e3 w3=>by subst e2;subst e3;exact⟨F,μ3,S3,d1,s3,Rep.mono (x2.trans x3) _ _ r1,a1l' w3⟩⟩⟩⟩
theorem s_call(O:XOk X cell N sc CX E Φ Γ k){f:Str}(h:gloB sc f=true)(hst:∀x∈e::es,a0H' x=true)(ha:PA X (e::es) (tL X.K X.mg E Φ Γ cs)):PE X (.Call (.Name f p2) (e::es) [] pos) (tE X.K X.mg E Φ Γ (.call f cs)):=by
 obtain⟨h1,h2,h3⟩:=a0K' h;cases ef:Φ f with
 |none=>intro pq s σ H Q I ⟨F,μ,ρ,S,sk,en,w⟩;simp only[den]at w;rw[ef]at w;exact w.elim
 |some φ=>obtain⟨fa,fd,ps,m1,m2,m3,m4,m5⟩:=(O.mod.fns f φ ef).ex;refine weakE (pe_call (E:=E) m4 O.room (O.gl h1) m1 m2 m3 .nil O.pass ha h2 (a0s' (hst e Zd)) (a1Y' λx hx=>hst x (Zb _ hx))) λσ H Q zz=>ex43 zz λF μ ρ S sk en w=>?_;simp only[den]at w;rw[ef]at w;refine⟨F,μ,ρ,S,sk,en,(WantG.bind w).mono λvs H1 zz=>ex34 zz λμ1 S1 ds x1 s1 r1 w1=>?_⟩;rw[List.append_nil];refine⟨?_,F,μ1,S1,ds,s1,r1,w1⟩;rw[←r1.length];exact m5 ds S1 λz=>by rw[z]at w1;exact w1
theorem s_blt(O:XOk X cell N sc CX E Φ Γ k){b:Blt}(hb:CallR X (bltIs b) (rC X.K X.mg (bltD b)))(h:gloB sc (a3k' b)=true)(hst:∀x∈e::es,a0H' x=true)(ha:PA X (e::es) (tL X.K X.mg E Φ Γ cs)):PE X (.Call (.Name (a3k' b) p2) (e::es) [] pos) (tE X.K X.mg E Φ Γ (.blt b cs)):=by
 obtain⟨h1,h2,h3⟩:=a0K' h
 have hm:X.mg (a3k' b)=none:=O.mod.bl _ (by
  cases b with
  |list box=>show(Str.ofString "list")∈a1s';decide+kernel
  |sorted box t=>show(Str.ofString "sorted")∈a1s';decide+kernel
  |_=>decide+kernel)
 have key:PE X (.Call (.Name (a3k' b) p2) (e::es) [] pos) (tCB (rC X.K X.mg (bltD b)) (tL X.K X.mg E Φ Γ cs)):=by
  have s1:=a0s' (env:=X.env) (es:=es) (hst e Zd);have s2:=a1Y' (env:=X.env) (pos:=pos) λx hx=>hst x (Zb _ hx);have hv:=b1r' b;cases b with
  |tuple=>exact a2W' hb (O.gl h1) hm hv ha h3 h2 s1 s2
  |list box=>exact a2W' hb (O.gl h1) hm hv ha h3 h2 s1 s2
  |int=>exact a2W' hb (O.gl h1) hm hv ha h3 h2 s1 s2
  |str=>exact a2W' hb (O.gl h1) hm hv ha h3 h2 s1 s2
  |_=>exact b1b' hb (O.gl h1) hm hv ha h3 h2 s1 s2
 refine weakE key λσ H Q zz=>ex43 zz λF μ ρ S sk en w=>⟨F,μ,ρ,S,sk,en,(WantG.bind w).mono λvs H1 zz=>ex34 zz λμ1 S1 ds x1 s1 r1 w1=>⟨F,μ1,S1,ds,s1,r1,a1l' w1⟩⟩
theorem a7S'{mg:GS}(s:SOk K mg μ S H)(r:Rep K mg μ H (.ref n) v):tyV K "list" v H:=by
 unfold Rep at r;obtain⟨a,rfl,h⟩:=r;have hl:n<S.length:=by rw[←s.len];exact(Zh.mp h).1
 obtain⟨vs,h1,q⟩:=s.at_ n a _ h (Zm hl);exact .inl ⟨rfl,vs,.of h1⟩
noncomputable def mthId:Mth→String
 | .append=>"list.append"| .extend=>"list.extend"| .pop=>"list.pop"| .count=>"list.count"| .insert=>"list.insert"| .index=>"list.index"
theorem mth_ok(m:Mth):MtR X (mthId m) (rM X.K X.mg (methD m)):=by
 cases m with
 |append=>exact b1l'
 |count=>exact λ_ _ _ _ _ _ _ _ _ _ _ _ ⟨_,_,_,_,_,_,_,_,w⟩=>w.elim
 |insert=>exact λ_ _ _ _ _ _ _ _ _ _ _ _ ⟨_,_,_,_,_,_,_,_,w⟩=>w.elim
 |index=>exact index_D
 |extend=>exact λ_ _ _ _ _ _ _ _ _ _ _ _ ⟨_,_,_,_,_,_,_,_,w⟩=>w.elim
 |pop=>exact λ_ _ _ _ _ _ _ _ _ _ _ _ ⟨_,_,_,_,_,_,_,_,w⟩=>w.elim
theorem a7T'(m:Mth):Slot "list" (a6i' m) (mthId m):=by
 cases m with
 |append=>exact PySem.F.slot_list_append
 |count=>exact PySem.F.slot_list_count
 |insert=>exact PySem.F.slot_list_insert
 |index=>exact PySem.F.slot_list_index
 |extend=>exact PySem.F.slot_list_extend
 |pop=>exact PySem.F.slot_list_pop
theorem a7U'(m:Mth):typeOf (.builtin (mthId m))=pure (.type "method_descriptor"):=by
 cases m with
 |append=>exact PySem.F.type_list_append
 |count=>exact PySem.F.type_list_count
 |insert=>exact PySem.F.type_list_insert
 |index=>exact PySem.F.type_list_index
 |extend=>exact PySem.F.type_list_extend
 |pop=>exact PySem.F.type_list_pop
theorem s_meth{m:Mth}{o:Expr}(hn:isNm o=true)(hl:(apos.endLine==pos.line)=true)(hst:∀x∈es,a0H' x=true)(hz:es.length<20)(hcs:cs.length=es.length)(ho:PE X o (tE X.K X.mg E Φ Γ a))(ha:PA X es (tL X.K X.mg E Φ Γ cs)):
  PE X (.Call (.Attribute o (a6i' m) apos) es [] pos) (tE X.K X.mg E Φ Γ (.meth m a cs)):=by
 have hbase:attributeBase o (a6i' m) X.env (eval o X.env)=eval o X.env:=by cases o<;>first|rfl|cases hn
 have key:∀{F μ1 S1 H1 ρ d1 Q v1},SOk X.K ⟨X.mg,F⟩ μ1 S1 H1→Rep X.K ⟨X.mg,F⟩ μ1 H1 d1 v1→WantG X.K ⟨X.mg,F⟩ E (Rep X.K ⟨X.mg,F⟩) μ1 H1 Q (match d1 with
   | .ref n=>(denL Φ Γ cs ρ S1).bind λds S2=>(methD m (.ref n) ds S2).noErr
   |_=>.fail)→tyV X.K "list" v1 H1∧WantG X.K ⟨X.mg,F⟩ E (RepL X.K ⟨X.mg,F⟩) μ1 H1 (λvs H2=>rM X.K X.mg (methD m) v1 vs H2 Q) (denL Φ Γ cs ρ S1):=by
  intro F μ1 S1 H1 ρ d1 Q v1 s1 r1 w1;cases d1 with
  |ref n=>exact⟨a7S' s1 r1,(WantG.bind w1).mono λvs H2 zz=>ex34 zz λμ2 S2 ds x2 s2 r2 w2=>⟨F,μ2,S2,_,ds,s2,Rep.mono x2 _ _ r1,r2,a1l' w2⟩⟩
  |_=>exact w1.elim
 cases es with
 |nil=>have e:cs=[]:=ZJ hcs;subst e;refine weakE (pe_bm0 PySem.F.plainAttrs_list (a7T' m) (a7U' m) (mth_ok m) ho hbase hl) λσ H Q zz=>ex43 zz λF μ ρ S sk en w=>⟨F,μ,ρ,S,sk,en,(WantG.bind w).mono λv1 H1 zz=>ex34 zz λμ1 S1 d1 x1 s1 r1 w1=>?_⟩;obtain⟨k1,k2⟩:=key s1 r1 w1;exact⟨k1,k2 μ1 H1 [] .refl s1 .nil⟩
 |cons e es=>
  refine weakE (pe_bm PySem.F.plainAttrs_list (a7T' m) (a7U' m) (mth_ok m) ho ha hbase ?_ hl (a0s' (hst e Zd)) (a1Y' λx hx=>hst x (Zb _ hx))) λσ H Q zz=>ex43 zz λF μ ρ S sk en w=>⟨F,μ,ρ,S,sk,en,(WantG.bind w).mono λv1 H1 zz=>ex34 zz λμ1 S1 d1 x1 s1 r1 w1=>?_⟩
  ·rw[a7R' hst];have e1:(backToKw pos (keywordEach [] X.env)).all (λx=>x.1.isSome)=true:=rfl;rw[e1];simp only[Bool.true_and,decide_eq_true_eq];have e2:(if([]:List Keyword).isEmpty then 0 else 1)=0:=rfl;rw[e2];simp only[List.length_nil];omega
  ·obtain⟨k1,k2⟩:=key s1 r1 w1;exact⟨k1,F,μ1,ρ,S1,s1,en.mono x1,k2⟩
end
theorem a7V'{t:Addr}{i:Nat}{x:Value}(hit:s.heap.IsTupleIter it t i)(ht:s.heap.IsTuple t items)(hx:items[i]?=some x)
  (hQ:∀h',h'.IsTupleIter it t (i+1)→Heap.SameBut it s.heap h'→Q x {s with heap:=h'}):wpAny (model prog w) A (Builtin.SmallTypes.nextOf (.ref it)) Q E s:=by
 obtain⟨o,ho,hc,hd⟩:=id hit;obtain⟨ol,hol,_,nl,hdl⟩:=ht;unfold Builtin.SmallTypes.nextOf;refine Za (ZP (name:=Str.ofString "__next__") hit.typeIs F.slot_tuple_iterator_next (ZH F.slot_tuple_iterator_next hit.typeIs F.entry_tuple_iterator_next ?_ (F.args_tuple_iterator_next_1 _)));show wpAny _ _ (field (.ref it) 0>>=_) _ _ s;refine Za (wpAny_field ho hd (x:=.ref t) rfl ?_);show wpAny _ _ (if(Value.ref t==Value.none)=true then _ else _) _ _ s;rw[if_neg (show ¬((Value.ref t==Value.none)=true)from Bool.false_ne_true)];show wpAny _ _ (field (.ref it) 1>>=_) _ _ s;refine Za (wpAny_field ho hd (x:=.int i 0) rfl ?_);show wpAny _ _ (seqItems? (.ref t)>>=_) _ _ s;refine Za (wpAny_seqItems hol hdl ?_);simp only[ZK,hx];refine Za (wpAny_setField ho hd (by simp) (Ze ⟨x,rfl,Ze (hQ _ ?_ (ZN ..))⟩));exact⟨_,ZZ _ ho (Obj.isFreed_of_fields (Obj.data_mapFields hd _)),(Obj.cls_mapFields ..).trans hc,by rw[Obj.data_mapFields hd];simp[rawInt]⟩
theorem a6k'{t:Addr}{i:Nat}{Q:Vs}(hh:A.handled=none)(hit:s.heap.IsTupleIter it t i)(ht:s.heap.IsTuple t items)(hx:items[i]?=none)
  (hE:∀h' e,Heap.ExtBut it s.heap h'→(∃o,h'.get? e=some o∧o.cls=.type "StopIteration")→E (.ref e) {s with heap:=h'}):wpAny (model prog w) A (Builtin.SmallTypes.nextOf (.ref it)) Q E s:=by
 obtain⟨o,ho,hc,hd⟩:=id hit;obtain⟨ol,hol,_,nl,hdl⟩:=ht;unfold Builtin.SmallTypes.nextOf;refine Za (ZP (name:=Str.ofString "__next__") hit.typeIs F.slot_tuple_iterator_next (ZH F.slot_tuple_iterator_next hit.typeIs F.entry_tuple_iterator_next ?_ (F.args_tuple_iterator_next_1 _)));show wpAny _ _ (field (.ref it) 0>>=_) _ _ s;refine Za (wpAny_field ho hd (x:=.ref t) rfl ?_);show wpAny _ _ (if(Value.ref t==Value.none)=true then _ else _) _ _ s;rw[if_neg (show ¬((Value.ref t==Value.none)=true)from Bool.false_ne_true)];show wpAny _ _ (field (.ref it) 1>>=_) _ _ s;refine Za (wpAny_field ho hd (x:=.int i 0) rfl ?_);show wpAny _ _ (seqItems? (.ref t)>>=_) _ _ s;refine Za (wpAny_seqItems hol hdl ?_);simp only[ZK,hx];refine Za (wpAny_rule (Za (wpAny_setField ho hd (by simp) ?_)));show wpAny _ _ (newExc (.type "StopIteration") []>>=_) _ _ _;refine Za ?_;simp only[newExc,newTuple];refine Za (ZD ?_ (by size_fits));refine Za (m:=firstArgMember _ _) (wpAny_of_eq (a:=Value.none) (by first|rfl| (simp only[firstArgMember];rfl)) ?_);refine ZD ?_ (by size_fits);simp only[raiseNew];refine Za (wpAny_handled ?_)
 first|rw[show A.in1.handled=none from hh]|rw[hh]
 refine Za (Ze (wpAny_throw ?_));exact hE _ _ (((ZN ..).extBut.push _).push _) ⟨_,Zl _ rfl,rfl⟩
def IsSq(b:Bool)(h:Heap)(l:Addr)(xs:Av):Prop:=match b with
 |true=>h.IsList l xs
 |false=>h.IsTuple l xs
def IsIt(b:Bool)(h:Heap)(it l:Addr)(i:Nat):Prop:=match b with
 |true=>h.IsListIter it l i
 |false=>h.IsTupleIter it l i
theorem IsSq.at{b:Bool}{l:Addr}{xs:Av}(q:IsSq b h l xs)(k:∀o,h.get? l=some o→h'.get? l=some o):IsSq b h' l xs:=by
 cases b with
 |true=>exact Heap.IsList.at q k
 |false=>obtain⟨o,e,r⟩:=q;exact⟨o,k o e,r⟩
theorem IsIt.at{b:Bool}{l:Addr}{i:Nat}(q:IsIt b h it l i)(k:∀o,h.get? it=some o→h'.get? it=some o):IsIt b h' it l i:=by
 cases b with
 |true=>exact Heap.IsListIter.at q k
 |false=>exact Heap.IsTupleIter.at q k
theorem IsIt.obj{b:Bool}{l:Addr}{i:Nat}(q:IsIt b h it l i):∃o,h.get? it=some o∧∀v,o.data≠.cell v:=by
 cases b with
 |true=>obtain⟨o,e,c,d⟩:=q;exact⟨o,e,λv z=>by rw[d]at z;cases z⟩
 |false=>obtain⟨o,e,c,d⟩:=q;exact⟨o,e,λv z=>by rw[d]at z;cases z⟩
theorem draws(hh:A.handled=none)(b:Bool)(it l:Addr)(hne:l≠it)(items:Av):
  Draws prog w A it [it,l] items.size (λi v=>items[i]?=some v) (λi h=>IsIt b h it l i∧IsSq b h l items):=by
 cases b with
 |true=>exact Draws.list hh it l hne items
 |false=>exact{
   live:=λ_ _ st=>let⟨o,ho,_⟩:=st.1;⟨o,ho⟩
   frame:=λ_ _ _ st hk=>⟨st.1.at λo e=>hk it (by simp) o e,st.2.at λo e=>hk l (by simp) o e⟩
   item:=λi s Q E hi st hQ=>by refine a7V' st.1 st.2 (x:=items[i]) (by simp[hi]) λh' hit' hs'=>?_;exact hQ _ h' s.toks (by simp[hi]) ⟨hit',st.2.at λo e=>hs'.extBut _ _ hne e⟩ hs'
   done:=λs Q E st hE=>a6k' hh st.1 st.2 (by simp) hE}
structure ZApart (z TI TO i1 i2 l1 l2:Addr):Prop where
 TIz:TI≠z
 TOz:TO≠z
 i1z:i1≠z
 i2z:i2≠z
 TITO:TI≠TO
 TIi1:TI≠i1
 TIi2:TI≠i2
 TOi1:TO≠i1
 TOi2:TO≠i2
 i12:i1≠i2
 l1:l1≠z∧l1≠TO∧l1≠i1∧l1≠i2
 l2:l2≠z∧l2≠TO∧l2≠i1∧l2≠i2
theorem a4K'{prog:Program}{w:World}{b:Bool}{t:Addr}{i:Nat}{Q:Vs}(hh:A.handled=none)(hit:IsIt b s.heap it t i)(ht:IsSq b s.heap t items)(hx:items[i]?=none)
  (hE:∀h' e,Heap.ExtBut it s.heap h'→(∃o,h'.get? e=some o∧o.cls=.type "StopIteration")→E (.ref e) {s with heap:=h'}):wpAny (model prog w) A (Builtin.SmallTypes.nextOf (.ref it)) Q E s:=by
 cases b with
 |true=>exact wpAny_nextOf_list_end hh hit ht hx hE
 |false=>exact a6k' hh hit ht hx hE
section
variable {z TI TO i1 i2 l1 l2:Addr}{k1 k2:Nat}{xs ys:Av}{a b:Value}
theorem zip_go(D:ZApart z TI TO i1 i2 l1 l2)(hh:A.handled=none){x y:Value}
  (hz:IsZip s.heap z TI TO .none) (hTI:IsPair s.heap TI (.ref i1) (.ref i2)) (hTO:IsPair s.heap TO a b)
  (h1:IsIt b1 s.heap i1 l1 k1) (h2:IsIt b2 s.heap i2 l2 k2) (hl1:IsSq b1 s.heap l1 xs) (hl2:IsSq b2 s.heap l2 ys) (hx:xs[k1]?=some x) (hy:ys[k2]?=some y)
  (hQ:∀h',IsZip h' z TI TO (rawInt s.heap.objs.size)→IsPair h' TO x y→IsIt b1 h' i1 l1 (k1+1)→IsIt b2 h' i2 l2 (k2+1)→IsPair h' s.heap.objs.size x y→h'.objs.size=s.heap.objs.size+1→
   (∀c o,c≠z→c≠TO→c≠i1→c≠i2→s.heap.get? c=some o→h'.get? c=some o)→∀tk,Q (.ref s.heap.objs.size) {s with heap:=h',toks:=tk}):
  wpAny (model prog w) A (Builtin.«zip.__next__» ⟨[.ref z],[]⟩) (λfin s'=>∃v,fin=.done (.ret v)∧Q v s') E s:=by
 have D1:=draws (prog:=prog) (w:=w) (A:=A) hh b1 i1 l1 D.l1.2.2.1 xs;have D2:=draws (prog:=prog) (w:=w) (A:=A) hh b2 i2 l2 D.l2.2.2.2 ys;have n1:k1<xs.size:=(Array.getElem?_eq_some_iff.mp hx).1;have n2:k2<ys.size:=(Array.getElem?_eq_some_iff.mp hy).1;show wpAny _ _ (field (.ref z) 2>>=_) _ _ _;refine Za (wpAny_field hz rfl (x:=.bool false) rfl ?_);show wpAny _ _ (field (.ref z) 3>>=_) _ _ _;refine Za (wpAny_field hz rfl (x:=.ref TI) rfl ?_);refine Za (wpAny_seqItems hTI rfl ?_);show wpAny _ _ (Builtin.SmallTypes.ownedTupleIsFree (.ref z)>>=_) _ _ _;refine Za ?_;unfold Builtin.SmallTypes.ownedTupleIsFree;refine Za (wpAny_field hz rfl (x:=.none) rfl (Ze ?_));simp only[if_true];refine Za (wpAny_rule ?_);refine Za (wpAny_field hz rfl (x:=.ref TO) rfl ?_);refine Za (wpAny_setField_rec hz (by simp) λh₁ hz₁ hs₁=>?_);replace hz₁:IsZip h₁ z TI TO .ellipsis:=hz₁;refine Za ?_;simp only[List.zipIdx_cons,List.zipIdx_nil,List.forIn_cons,List.forIn_nil];refine Za (Za (wpAny_onRaise ?_));show wpAny _ _ (Builtin.SmallTypes.nextOf (.ref i1)>>=_) _ _ _;refine Za (D1.item k1 _ _ _ n1 ⟨h1.at λo e=>hs₁.extBut _ _ D.i1z e,hl1.at λo e=>hs₁.extBut _ _ D.l1.1 e⟩ λx' h₂ tk hx' st₂ hs₂=>Ze ?_);rw[hx]at hx';cases hx';have hTO₂:IsPair h₂ TO a b:=hs₂.extBut _ _ D.TOi1 (hs₁.extBut _ _ D.TOz hTO);refine Za (wpAny_seqItems hTO₂ rfl ?_);refine Za (wpAny_updateSeq_pair hTO₂ λh₃ hTO₃ hs₃=>?_);replace hTO₃:IsPair h₃ TO x b:=hTO₃;refine Za (wpAny_letGo (Ze ?_));refine Za (Za (wpAny_onRaise ?_));show wpAny _ _ (Builtin.SmallTypes.nextOf (.ref i2)>>=_) _ _ _;refine Za (D2.item k2 _ _ _ n2 ⟨h2.at λo e=>hs₃.extBut _ _ D.TOi2.symm (hs₂.extBut _ _ D.i12.symm (hs₁.extBut _ _ D.i2z e)),hl2.at λo e=>hs₃.extBut _ _ D.l2.2.1 (hs₂.extBut _ _ D.l2.2.2.1 (hs₁.extBut _ _ D.l2.1 e))⟩ λy' h₄ tk2 hy' st₄ hs₄=>Ze ?_);rw[hy]at hy';cases hy';have hTO₄:IsPair h₄ TO x b:=hs₄.extBut _ _ D.TOi2 hTO₃;refine Za (wpAny_seqItems hTO₄ rfl ?_);refine Za (wpAny_updateSeq_pair hTO₄ λh₅ hTO₅ hs₅=>?_);replace hTO₅:IsPair h₅ TO x y:=hTO₅;refine Za (wpAny_letGo (Ze (Ze ?_)));refine Za (wpAny_seqItems hTO₅ rfl ?_);refine Za (wpAny_newTuple ?_);have hsz:h₅.objs.size=s.heap.objs.size:=by rw[hs₅.1,hs₄.1,hs₃.1,hs₂.1,hs₁.1]
 have hz₅:IsZip h₅ z TI TO .ellipsis:=hs₅.extBut _ _ D.TOz.symm (hs₄.extBut _ _ D.i2z.symm (hs₃.extBut _ _ D.TOz.symm (hs₂.extBut _ _ D.i1z.symm hz₁)));have hk₅:∀c o,c≠z→c≠TO→c≠i1→c≠i2→s.heap.get? c=some o→h₅.get? c=some o:=λc o c1 c2 c3 c4 e=>hs₅.extBut _ _ c2 (hs₄.extBut _ _ c4 (hs₃.extBut _ _ c2 (hs₂.extBut _ _ c3 (hs₁.extBut _ _ c1 e))));have g1:IsIt b1 h₅ i1 l1 (k1+1):=st₂.1.at λo e=>hs₅.extBut _ _ D.TOi1.symm (hs₄.extBut _ _ D.i12 (hs₃.extBut _ _ D.TOi1.symm e));have g2:IsIt b2 h₅ i2 l2 (k2+1):=st₄.1.at λo e=>hs₅.extBut _ _ D.TOi2.symm e;have hzlt:z<h₅.objs.size:=Zn hz₅;show wpAny _ _ (Builtin.SmallTypes.ownedTupleHandOut (.ref z) (.ref h₅.objs.size)>>=_) _ _ _;refine Za ?_;unfold Builtin.SmallTypes.ownedTupleHandOut;have hz₆:IsZip (h₅.push {cls:=.type "tuple",data:=.seq #[x,y]}) z TI TO .ellipsis:=Zc _ hz₅;refine Za (wpAny_setField_rec hz₆ (by simp) λh₇ hz₇ hs₇=>?_);replace hz₇:IsZip h₇ z TI TO (rawInt h₅.objs.size):=hz₇;refine wpAny_setField_rec hz₇ (by simp) λh₈ hz₈ hs₈=>?_;replace hz₈:IsZip h₈ z TI TO (rawInt h₅.objs.size):=hz₈;have up:∀c o,c≠z→h₅.get? c=some o→h₈.get? c=some o:=λc o c1 e=>hs₈.extBut _ _ c1 (hs₇.extBut _ _ c1 (Zc _ e));have hT₈:IsPair h₈ h₅.objs.size x y:=hs₈.extBut _ _ (Nat.ne_of_gt hzlt) (hs₇.extBut _ _ (Nat.ne_of_gt hzlt) (Zl _ rfl));have hz8:h₈.objs.size=h₅.objs.size+1:=by rw[hs₈.1,hs₇.1,Heap.size_push]
 rw[hsz]at hz₈ hT₈ hz8;refine Ze ⟨_,rfl,?_⟩;show Q (.ref h₅.objs.size) _;rw[hsz];exact hQ h₈ hz₈ (up _ _ D.TOz hTO₅) (g1.at λo e=>up _ o D.i1z e) (g2.at λo e=>up _ o D.i2z e) hT₈ hz8 (λc o c1 c2 c3 c4 e=>up c o c1 (hk₅ c o c1 c2 c3 c4 e)) _
theorem b1u'(D:ZApart z TI TO i1 i2 l1 l2)(hh:A.handled=none){Q:Fin→Shared→Prop}
  (hz:IsZip s.heap z TI TO .none) (hTI:IsPair s.heap TI (.ref i1) (.ref i2)) (hTO:IsPair s.heap TO a b)
  (h1:IsIt b1 s.heap i1 l1 k1) (h2:IsIt b2 s.heap i2 l2 k2) (hl1:IsSq b1 s.heap l1 xs) (hl2:IsSq b2 s.heap l2 ys) (hend:xs[k1]?=none∨ys[k2]?=none)
  (hE:∀h' e tk,(∀c o,c≠z→c≠TO→c≠i1→c≠i2→s.heap.get? c=some o→h'.get? c=some o)→(∃o,h'.get? e=some o∧o.cls=.type "StopIteration")→E (.ref e) {s with heap:=h',toks:=tk}):
  wpAny (model prog w) A (Builtin.«zip.__next__» ⟨[.ref z],[]⟩) Q E s:=by
 have D1:=draws (prog:=prog) (w:=w) (A:=A) hh b1 i1 l1 D.l1.2.2.1 xs;have D2:=draws (prog:=prog) (w:=w) (A:=A) hh b2 i2 l2 D.l2.2.2.2 ys;show wpAny _ _ (field (.ref z) 2>>=_) _ _ _;refine Za (wpAny_field hz rfl (x:=.bool false) rfl ?_);show wpAny _ _ (field (.ref z) 3>>=_) _ _ _;refine Za (wpAny_field hz rfl (x:=.ref TI) rfl ?_);refine Za (wpAny_seqItems hTI rfl ?_);show wpAny _ _ (Builtin.SmallTypes.ownedTupleIsFree (.ref z)>>=_) _ _ _;refine Za ?_;unfold Builtin.SmallTypes.ownedTupleIsFree;refine Za (wpAny_field hz rfl (x:=.none) rfl (Ze ?_));simp only[if_true];refine Za (wpAny_rule ?_);refine Za (wpAny_field hz rfl (x:=.ref TO) rfl ?_);refine Za (wpAny_setField_rec hz (by simp) λh₁ hz₁ hs₁=>?_);replace hz₁:IsZip h₁ z TI TO .ellipsis:=hz₁;refine Za ?_;simp only[List.zipIdx_cons,List.zipIdx_nil,List.forIn_cons,List.forIn_nil];refine Za (Za (wpAny_onRaise ?_));show wpAny _ _ (Builtin.SmallTypes.nextOf (.ref i1)>>=_) _ _ _;by_cases n1:k1<xs.size
 ·have hy:ys[k2]?=none:=hend.resolve_left (by simp[n1]);refine Za (D1.item k1 _ _ _ n1 ⟨h1.at λo e=>hs₁.extBut _ _ D.i1z e,hl1.at λo e=>hs₁.extBut _ _ D.l1.1 e⟩ λx h₂ tk hx st₂ hs₂=>Ze ?_);have hTO₂:IsPair h₂ TO a b:=hs₂.extBut _ _ D.TOi1 (hs₁.extBut _ _ D.TOz hTO);refine Za (wpAny_seqItems hTO₂ rfl ?_);refine Za (wpAny_updateSeq_pair hTO₂ λh₃ hTO₃ hs₃=>?_);refine Za (wpAny_letGo (Ze ?_));refine Za (Za (wpAny_onRaise ?_));show wpAny _ _ (Builtin.SmallTypes.nextOf (.ref i2)>>=_) _ _ _;refine Za (a4K' hh (h2.at λo e=>hs₃.extBut _ _ D.TOi2.symm (hs₂.extBut _ _ D.i12.symm (hs₁.extBut _ _ D.i2z e))) (hl2.at λo e=>hs₃.extBut _ _ D.l2.2.1 (hs₂.extBut _ _ D.l2.2.2.1 (hs₁.extBut _ _ D.l2.1 e))) hy λh₄ e hs₄ he=>?_);obtain⟨oe,hoe,hce⟩:=he;have hz₄:IsZip h₄ z TI TO .ellipsis:=hs₄ _ _ D.i2z.symm (hs₃.extBut _ _ D.TOz.symm (hs₂.extBut _ _ D.i1z.symm hz₁));have hez:e≠z:=λx=>by subst x;rw[hz₄]at hoe;cases hoe;simp at hce
  exact wpAny_setField_rec hz₄ (by simp) λh₅ _ hs₅=>hE h₅ e _ (λc o c1 c2 c3 c4 x=>hs₅.extBut _ _ c1 (hs₄ _ _ c4 (hs₃.extBut _ _ c2 (hs₂.extBut _ _ c3 (hs₁.extBut _ _ c1 x))))) ⟨oe,hs₅.extBut _ _ hez hoe,hce⟩
 ·have hx:xs[k1]?=none:=by simp;omega
  refine Za (a4K' hh (h1.at λo e=>hs₁.extBut _ _ D.i1z e) (hl1.at λo e=>hs₁.extBut _ _ D.l1.1 e) hx λh₂ e hs₂ he=>?_);obtain⟨oe,hoe,hce⟩:=he;have hz₂:IsZip h₂ z TI TO .ellipsis:=hs₂ _ _ D.i1z.symm hz₁;have hez:e≠z:=λx=>by subst x;rw[hz₂]at hoe;cases hoe;simp at hce
  exact wpAny_setField_rec hz₂ (by simp) λh₃ _ hs₃=>hE h₃ e _ (λc o c1 _ c3 _ x=>hs₃.extBut _ _ c1 (hs₂ _ _ c3 (hs₁.extBut _ _ c1 x))) ⟨oe,hs₃.extBut _ _ hez hoe,hce⟩
theorem a6M'(D:ZApart z TI TO i1 i2 l1 l2)(hh:A.handled=none){x y:Value}{Q:Ov→Shared→Prop}
  (hz:IsZip s.heap z TI TO .none) (hTI:IsPair s.heap TI (.ref i1) (.ref i2)) (hTO:IsPair s.heap TO a b)
  (h1:IsIt b1 s.heap i1 l1 k1) (h2:IsIt b2 s.heap i2 l2 k2) (hl1:IsSq b1 s.heap l1 xs) (hl2:IsSq b2 s.heap l2 ys) (hx:xs[k1]?=some x) (hy:ys[k2]?=some y)
  (hQ:∀h',IsZip h' z TI TO (rawInt s.heap.objs.size)→IsPair h' TO x y→IsIt b1 h' i1 l1 (k1+1)→IsIt b2 h' i2 l2 (k2+1)→IsPair h' s.heap.objs.size x y→h'.objs.size=s.heap.objs.size+1→
   (∀c o,c≠z→c≠TO→c≠i1→c≠i2→s.heap.get? c=some o→h'.get? c=some o)→∀tk,Q (some (.ref s.heap.objs.size)) {s with heap:=h',toks:=tk}):
  wpAny (model prog w) A (pyNext (.ref z)) Q E s:=by
 have hT:s.TypeIs (.ref z) "zip":=⟨_,hz,rfl⟩;unfold pyNext
 exact Za (wpAny_attempt (ZP (name:=Str.ofString "__next__") hT F.slot_zip_next
  (ZH F.slot_zip_next hT F.entry_zip_next (zip_go D (show A.in1.handled=none from hh) hz hTI hTO h1 h2 hl1 hl2 hx hy λh' a1 a2 a3 a4 a5 a6 a7 tk=>Ze (hQ h' a1 a2 a3 a4 a5 a6 a7 tk)) (F.args_zip_next_1 _))))
theorem a4L'(D:ZApart z TI TO i1 i2 l1 l2)(hh:A.handled=none){Q:Ov→Shared→Prop}
  (hz:IsZip s.heap z TI TO .none) (hTI:IsPair s.heap TI (.ref i1) (.ref i2)) (hTO:IsPair s.heap TO a b)
  (h1:IsIt b1 s.heap i1 l1 k1) (h2:IsIt b2 s.heap i2 l2 k2) (hl1:IsSq b1 s.heap l1 xs) (hl2:IsSq b2 s.heap l2 ys) (hend:xs[k1]?=none∨ys[k2]?=none)
  (hQ:∀h' tk,(∀c o,c≠z→c≠TO→c≠i1→c≠i2→s.heap.get? c=some o→h'.get? c=some o)→Q none {s with heap:=h',toks:=tk}):wpAny (model prog w) A (pyNext (.ref z)) Q E s:=by
 have hT:s.TypeIs (.ref z) "zip":=⟨_,hz,rfl⟩;unfold pyNext
 refine Za (wpAny_attempt (ZP (name:=Str.ofString "__next__") hT F.slot_zip_next
  (ZH F.slot_zip_next hT F.entry_zip_next (b1u' D (show A.in1.handled=none from hh) hz hTI hTO h1 h2 hl1 hl2 hend λh' e tk hk he=>?_) (F.args_zip_next_1 _))))
 obtain⟨o,ho,hc⟩:=he;refine Za (wpAny_isInstance (T:="StopIteration") (b:=true) ⟨o,ho,hc⟩ isSubtype_stop ?_);exact Ze (hQ _ tk hk)
end
noncomputable def itObj(b:Bool)(l:Addr):Obj:={cls:=.type (match b with|true=>"list_iterator"|false=>"tuple_iterator"),data:=.fields #[.ref l,.int 0 0]}
noncomputable def zH1(h:Heap)(b1:Bool)(l1:Addr):Heap:=h.push (itObj b1 l1)
noncomputable def zH2(h:Heap)(b1 b2:Bool)(l1 l2:Addr):Heap:=(zH1 h b1 l1).push (itObj b2 l2)
noncomputable def zH3(h:Heap)(b1 b2:Bool)(l1 l2:Addr):Heap:=(zH2 h b1 b2 l1 l2).push {cls:=.type "tuple",data:=.seq #[.ref h.objs.size,.ref (zH1 h b1 l1).objs.size]}
noncomputable def zH4(h:Heap)(b1 b2:Bool)(l1 l2:Addr):Heap:=(zH3 h b1 b2 l1 l2).push {cls:=.type "tuple",data:=.seq #[.none,.none]}
noncomputable def zH5(h:Heap)(b1 b2:Bool)(l1 l2:Addr):Heap:=(zH4 h b1 b2 l1 l2).push {cls:=.type "zip",data:=.fields #[.none,.bool false,.bool false,.ref (zH2 h b1 b2 l1 l2).objs.size,.ref (zH3 h b1 b2 l1 l2).objs.size]}
theorem zip_new(b1 b2:Bool)(l1 l2:Addr)(xs ys:Av):
  Meets (Builtin.«zip.__new__» ⟨[.type "zip",.ref l1,.ref l2],[]⟩) (λ_ R s=>IsSq b1 s.heap l1 xs∧IsSq b2 s.heap l2 ys∧R (.ok (.ret (.ref (zH4 s.heap b1 b2 l1 l2).objs.size))) {s with heap:=zH5 s.heap b1 b2 l1 l2}):=
 .of_wp λprog w A R s h=>by
  obtain⟨hp,g,d,tk,os⟩:=s;obtain⟨hl1,hl2,h⟩:=h;have hsub:=sub_zip;have hL2:IsSq b2 (zH1 hp b1 l1) l2 ys:=hl2.at λo e=>Zc _ e;cases b1 with
  |true=>
   have hL1:Heap.IsList (Shared.heap ⟨hp,g,d,tk,os⟩) l1 xs:=hl1;cases b2 with
   |true=>
    have hL2:Heap.IsList (Shared.heap ⟨hp.push {cls:=.type "list_iterator",data:=.fields #[.ref l1,.int 0 0]},g,d,tk,os⟩) l2 ys:=hL2
    wp_walk using wpAny_pyIter_list hL1,wpAny_pyIter_list hL2
    exact⟨_,rfl,h⟩
   |false=>
    have hL2:Heap.IsTuple (Shared.heap ⟨hp.push {cls:=.type "list_iterator",data:=.fields #[.ref l1,.int 0 0]},g,d,tk,os⟩) l2 ys:=hL2
    wp_walk using wpAny_pyIter_list hL1,wpAny_pyIter_tuple hL2
    exact⟨_,rfl,h⟩
  |false=>
   have hL1:Heap.IsTuple (Shared.heap ⟨hp,g,d,tk,os⟩) l1 xs:=hl1;cases b2 with
   |true=>
    have hL2:Heap.IsList (Shared.heap ⟨hp.push {cls:=.type "tuple_iterator",data:=.fields #[.ref l1,.int 0 0]},g,d,tk,os⟩) l2 ys:=hL2
    wp_walk using wpAny_pyIter_tuple hL1,wpAny_pyIter_list hL2
    exact⟨_,rfl,h⟩
   |false=>
    have hL2:Heap.IsTuple (Shared.heap ⟨hp.push {cls:=.type "tuple_iterator",data:=.fields #[.ref l1,.int 0 0]},g,d,tk,os⟩) l2 ys:=hL2
    wp_walk using wpAny_pyIter_tuple hL1,wpAny_pyIter_tuple hL2
    exact⟨_,rfl,h⟩
theorem a7W'{b:Bool}{l:Addr}(e:h.get? it=some (itObj b l)):IsIt b h it l 0:=by
 cases b with
 |true=>exact⟨_,e,rfl,rfl⟩
 |false=>exact⟨_,e,rfl,rfl⟩
theorem b1v'{l1 l2:Addr}{xs ys:Av}(hl1:IsSq b1 s.heap l1 xs)(hl2:IsSq b2 s.heap l2 ys)
  (h:∀h',IsZip h' (s.heap.objs.size+4) (s.heap.objs.size+2) (s.heap.objs.size+3) .none→IsPair h' (s.heap.objs.size+2) (.ref s.heap.objs.size) (.ref (s.heap.objs.size+1))→
   IsPair h' (s.heap.objs.size+3) .none .none→IsIt b1 h' s.heap.objs.size l1 0→IsIt b2 h' (s.heap.objs.size+1) l2 0→h'.objs.size=s.heap.objs.size+5→
   (∀c o,s.heap.get? c=some o→h'.get? c=some o)→Q (.ref (s.heap.objs.size+4)) {s with heap:=h'}):
  wpAny (model prog w) A (call (.type "zip") [.ref l1,.ref l2]) Q E s:=by
 refine callType_new F.called_zip (by decide) (F.typeCall_zip_2 _ _) (F.newCall_zip_2 _ _) (λobj=>F.args_object_init_3 obj _ _) F.entry_zip_new (zip_new b1 b2 l1 l2 xs ys) ⟨hl1,hl2,?_⟩;have z1:(zH1 s.heap b1 l1).objs.size=s.heap.objs.size+1:=Heap.size_push ..;have z2:(zH2 s.heap b1 b2 l1 l2).objs.size=s.heap.objs.size+2:=by unfold zH2;rw[Heap.size_push,z1]
 have z3:(zH3 s.heap b1 b2 l1 l2).objs.size=s.heap.objs.size+3:=by unfold zH3;rw[Heap.size_push,z2]
 have z4:(zH4 s.heap b1 b2 l1 l2).objs.size=s.heap.objs.size+4:=by unfold zH4;rw[Heap.size_push,z3]
 have z5:(zH5 s.heap b1 b2 l1 l2).objs.size=s.heap.objs.size+5:=by unfold zH5;rw[Heap.size_push,z4]
 have g5:(zH5 s.heap b1 b2 l1 l2).get? (zH4 s.heap b1 b2 l1 l2).objs.size=some _:=Zl _ rfl;have g4:(zH5 s.heap b1 b2 l1 l2).get? (zH3 s.heap b1 b2 l1 l2).objs.size=some _:=Zc _ (Zl _ rfl);have g3:(zH5 s.heap b1 b2 l1 l2).get? (zH2 s.heap b1 b2 l1 l2).objs.size=some _:=Zc _ (Zc _ (Zl _ rfl));have g2:(zH5 s.heap b1 b2 l1 l2).get? (zH1 s.heap b1 l1).objs.size=some (itObj b2 l2):=Zc _ (Zc _ (Zc _ (Zl _ (by cases b2<;>rfl))));have g1:(zH5 s.heap b1 b2 l1 l2).get? s.heap.objs.size=some (itObj b1 l1):=Zc _ (Zc _ (Zc _ (Zc _ (Zl _ (by cases b1<;>rfl)))));show _∧_;rw[z2,z3,z4]at g5;rw[z1,z2]at g3;rw[z3]at g4;rw[z1]at g2;rw[z4]
 exact⟨⟨_,g5,rfl⟩,h _ g5 g3 g4 (a7W' g1) (a7W' g2) z5 λc o x=>
  Zc _ (Zc _ (Zc _ (Zc _ (Zc _ x))))⟩
def SqB(b:Bool)(K:Fg)(H:Hp)(l:Addr)(xs:List V):Prop:=match b with
 |true=>SqL K H l xs
 |false=>SqT K H l xs
noncomputable def Itz(K:Fg)(b1 b2:Bool)(l1 l2:Addr):It:=
 ⟨λi H=>∃xs ys x y,SqB b1 K H l1 xs∧SqB b2 K H l2 ys∧xs[i]?=some x∧ys[i]?=some y,
  λi H v H'=>∃T x y,v=.ref T∧H T=none∧H'=upd H T (.tup [x,y])∧(∀xs,SqB b1 K H l1 xs→xs[i]?=some x)∧(∀ys,SqB b2 K H l2 ys→ys[i]?=some y),
  λi H=>∃xs ys,SqB b1 K H l1 xs∧SqB b2 K H l2 ys∧(xs.length≤i∨ys.length≤i)⟩
theorem a6N'{b:Bool}{l:Addr}{xs:List V}(I:Inv X pq σ H s)(h:SqB b X.K H l xs):∃its,Vals xs its∧IsSq b s.heap l its.toArray:=by
 cases b with
 |true=>obtain⟨its,r,p,_⟩:=I.list h;exact⟨its,r,p.isList⟩
 |false=>obtain⟨its,r,p,_⟩:=I.tuple h;exact⟨its,r,p⟩
theorem b0o'{b:Bool}{l:Addr}{xs ys:List V}(I:Inv X pq σ H s)(h:SqB b X.K H l xs)(h':SqB b X.K H l ys):xs=ys:=by
 cases b with
 |true=>exact I.list_inj h h'
 |false=>exact I.tuple_inj h h'
theorem a1L'{b:Bool}{l c:Addr}{xs:List V}(I:Inv X pq σ H s)(h:SqB b X.K H l xs)(hf:FpOk X pq H c):l≠c:=by
 have kl:∀{o:Obj},X.K.lookup l=some o→l≠c:=λ{o} e=>by
  have e1:X.base.get? l=some o:=I.mod.kin l o e;rintro rfl;rcases hf.2.2.2.1 with z|z
  ·exact I.ok.noex l o e1 z
  ·exact absurd (Zu (Zn e1) (ZS I.ok.bsz z)) (Z1 _)
 have hl:∀{o:HO},H l=some o→l≠c:=λ{o} e=>by rintro rfl;rw[hf.1]at e;cases e
 cases b with
 |true=>
  rcases h with(h| ⟨o,h⟩)| ⟨o,its,n,h,_⟩
  ·exact hl h
  ·exact hl h
  ·exact kl h
 |false=>
  rcases h with(h| ⟨o,h⟩)| ⟨o,its,n,h,_⟩
  ·exact hl h
  ·exact hl h
  ·exact kl h
theorem a7X'{t':Nat}(I:Inv X pq σ H s)(k:∀b o,b∉ch→s.heap.get? b=some o→h'.get? b=some o)(hf:∀b∈ch,FpOk X pq H b):Inv X pq σ H {s with heap:=h',toks:=t'}:=by
 have nit:∀b u,H b=some u→b∉ch:=λb u e z=>by rw[(hf b z).1]at e;cases e
 refine I.step (g':=s.gens) (d':=s.drawn) (ch:=ch) (λb hb=>?_) (λb o _ _ hc e _=>k b o hc e) (λb o _ _ hc e _=>⟨o.slots,k b o hc e⟩) (λ_ _ _ _ n=>n)
  (λb o hc e=>⟨o,k b o hc e⟩) (λ_ _ e=>e) (λ_ _ _ e=>e) (λb ps e=>⟨#[],by rw[e];simp⟩) (λm hm=>?_) (λb u e=>?_) I.bare
 ·obtain⟨_,f1,_,f3,f4,f5⟩:=hf b hb;exact⟨f3,f1,f4,f5⟩
 ·obtain⟨o,es,ep,ho,r⟩:=hm;exact⟨o,es,ep,k _ o (λz=>(hf _ z).2.1 rfl) ho,r⟩
 ·refine(I.hok b u e).stay (λc v hc q=>k c v ?_ q) (λ_ q=>q) λ_ _ q=>q;rcases hc with z|z
  ·rw[z];exact nit b u e
  ·exact nit c _ z
def ztn(b b':Bool)(z TI TO i1 i2 l1 l2:Addr)(i:Nat)(h:Heap):Prop:=IsZip h z TI TO .none∧IsPair h TI (.ref i1) (.ref i2)∧(∃a b,IsPair h TO a b)∧IsIt b h i1 l1 i∧IsIt b' h i2 l2 i
theorem b1w'{x1}{pos:Pos}(b b':Bool)(z TI TO i1 i2 l1 l2:Addr)(n1:TI≠z)(n2:TO≠z)(n3:i1≠z)(n4:i2≠z)(n5:TI≠TO)(n6:TI≠i1)(n7:TI≠i2)(n8:TO≠i1)(n9:TO≠i2)(n10:i1≠i2):
  Turn P w K (.Tuple es x1 pos) (Itz K b b' l1 l2) [z,TI,TO,i1,i2] z (ztn b b' z TI TO i1 i2 l1 l2) where
 mem:=by simp
 obj:=λi h ⟨hz,hTI,⟨a,c,hTO⟩,h1,h2⟩ d hd=>by
  simp only[Zo,ZO,or_false]at hd;rcases hd with rfl|rfl|rfl|rfl|rfl
  ·exact⟨_,hz,λv q=>by have q':Data.fields _=Data.cell v:=q;cases q'⟩
  ·exact⟨_,hTI,λv q=>by have q':Data.seq _ _=Data.cell v:=q;cases q'⟩
  ·exact⟨_,hTO,λv q=>by have q':Data.seq _ _=Data.cell v:=q;cases q'⟩
  ·exact h1.obj
  ·exact h2.obj
 keep:=λi h h' ⟨hz,hTI,⟨a,c,hTO⟩,h1,h2⟩ k=>⟨k z (by simp) _ hz,k TI (by simp) _ hTI,⟨a,c,k TO (by simp) _ hTO⟩,h1.at λo e=>k i1 (by simp) o e,h2.at λo e=>k i2 (by simp) o e⟩
 item:=by
  intro X hP hw hK hc i pq s σ H E I hf st hg;subst hP hw hK;obtain⟨hz,hTI,⟨a,c,hTO⟩,h1,h2⟩:=st;obtain⟨xs,ys,x,y,q1,q2,ex,ey⟩:=hg;obtain⟨us,r1,s1⟩:=a6N' I q1;obtain⟨ws,r2,s2⟩:=a6N' I q2;obtain⟨u,eu,ru⟩:=r1.get ex;obtain⟨v,ev,rv⟩:=r2.get ey
  have Dp:ZApart z TI TO i1 i2 l1 l2:=⟨n1,n2,n3,n4,n5,n6,n7,n8,n9,n10,⟨a1L' I q1 (hf z (by simp)),a1L' I q1 (hf TO (by simp)),a1L' I q1 (hf i1 (by simp)),a1L' I q1 (hf i2 (by simp))⟩,
   ⟨a1L' I q2 (hf z (by simp)),a1L' I q2 (hf TO (by simp)),a1L' I q2 (hf i1 (by simp)),a1L' I q2 (hf i2 (by simp))⟩⟩
  refine a6M' Dp (I.ok.hd hc) hz hTI hTO h1 h2 s1 s2 (x:=u) (y:=v) (by simpa using eu) (by simpa using ev) λh' a1 a2 a3 a4 a5 a6 kk tk=>?_;refine⟨_,rfl,?_⟩;refine wpAny_letOwnedTupleGo_zip (s:={s with heap:=h',toks:=tk}) a1 λh2' b1 sb=>?_;have hTn:H s.heap.objs.size=none:=I.hok.fresh (Zk _)
  have kk2:∀c o,c∉[z,TI,TO,i1,i2]→s.heap.get? c=some o→h2'.get? c=some o:=λc o hc e=>by simp only[Zo,ZO,or_false,not_or]at hc;exact(sb.2 c hc.1).trans (kk c o hc.1 hc.2.2.1 hc.2.2.2.1 hc.2.2.2.2 e)
  have I1:Inv X pq σ H {s with heap:=h2',toks:=tk}:=a7X' I kk2 hf
  have hTz:∀c∈[z,TI,TO,i1,i2],s.heap.objs.size≠c:=λc hc e=>by
   obtain⟨o,q,_⟩:∃o,s.heap.get? c=some o∧True:=by
    simp only[Zo,ZO,or_false]at hc;rcases hc with rfl|rfl|rfl|rfl|rfl
    ·exact⟨_,hz,trivial⟩
    ·exact⟨_,hTI,trivial⟩
    ·exact⟨_,hTO,trivial⟩
    ·exact⟨_,h1.obj.choose_spec.1,trivial⟩
    ·exact⟨_,h2.obj.choose_spec.1,trivial⟩
   exact absurd (Zn q) (by rw[e];exact Z1 _)
  have hT2:IsPair h2' s.heap.objs.size u v:=(sb.2 _ (hTz z (by simp))).trans a5
  have I2:Inv X pq σ (upd H s.heap.objs.size (.tup [x,y])) {s with heap:=h2',toks:=tk}:=by
   have Im:Inv X pq σ (upd H s.heap.objs.size (.tup [x,y])) {s with heap:=s.heap.push {cls:=.type "tuple",data:=.seq #[u,v]},toks:=s.toks}:=
    I.laid (λb o e=>Zc _ e) (Zk _) ⟨by show 2≤sizeLine;decide,[u,v],.cons ru (.cons rv .nil),⟨_,Zl _ rfl,rfl,_,rfl⟩,_,Zl _ rfl,rfl⟩
   refine a7X' (s:={s with heap:=s.heap.push {cls:=.type "tuple",data:=.seq #[u,v]},toks:=s.toks}) Im (ch:=[z,TI,TO,i1,i2]) (λb o hb e=>?_) λb hb=>?_
   ·rcases Heap.get?_push_cases e with⟨rfl,rfl⟩|e'
    ·exact hT2
    ·exact kk2 b o hb e'
   ·obtain⟨f0,f1⟩:=hf b hb;exact⟨by rw[a0p' (λe=>hTz b hb e.symm)];exact f0,f1⟩
  refine⟨.ref s.heap.objs.size,upd H s.heap.objs.size (.tup [x,y]),I2,rfl,⟨s.heap.objs.size,x,y,rfl,hTn,rfl,λzs hq=>by rw[b0o' I hq q1];exact ex,λzs hq=>by rw[b0o' I hq q2];exact ey⟩,
   ⟨b1,(sb.2 TI n1).trans (kk TI _ n1 n5 n6 n7 hTI),⟨u,v,(sb.2 TO n2).trans a2⟩,a3.at λo e=>(sb.2 i1 n3).trans e,a4.at λo e=>(sb.2 i2 n4).trans e⟩,λc hc=>?_⟩
  rw[a0p' (λe=>hTz c hc e.symm)];exact(hf c hc).1
 done:=by
  intro X hP hw hK hc i pq s σ H E I hf st hg;subst hP hw hK;obtain⟨hz,hTI,⟨a,c,hTO⟩,h1,h2⟩:=st;obtain⟨xs,ys,q1,q2,en⟩:=hg;obtain⟨us,r1,s1⟩:=a6N' I q1;obtain⟨ws,r2,s2⟩:=a6N' I q2;have hl1:=r1.length;have hl2:=r2.length
  have Dp:ZApart z TI TO i1 i2 l1 l2:=⟨n1,n2,n3,n4,n5,n6,n7,n8,n9,n10,⟨a1L' I q1 (hf z (by simp)),a1L' I q1 (hf TO (by simp)),a1L' I q1 (hf i1 (by simp)),a1L' I q1 (hf i2 (by simp))⟩,
   ⟨a1L' I q2 (hf z (by simp)),a1L' I q2 (hf TO (by simp)),a1L' I q2 (hf i1 (by simp)),a1L' I q2 (hf i2 (by simp))⟩⟩
  refine a4L' Dp (I.ok.hd hc) hz hTI hTO h1 h2 s1 s2 (en.elim (λen=>.inl (by simp;omega)) λen=>.inr (by simp;omega)) λh' tk kk=>?_;refine⟨rfl,a7X' I (ch:=[z,TI,TO,i1,i2]) (λc o hc e=>?_) hf⟩;simp only[Zo,ZO,or_false,not_or]at hc;exact kk c o hc.1 hc.2.2.1 hc.2.2.2.1 hc.2.2.2.2 e
 self:=λ_ _ _ _ _ st h=>wpAny_pyIter_zip st.1 h
structure Chg (K:Fg)(F:La)(μ:La)(H:Hp)(F':La)(μ':La)(H':Hp):Prop where
 tup:∀a vs,SqT K H a vs→SqT K H' a vs
 lst:∀a vs,H a=some (.lst vs)→a∉μ→a∉F→H' a=some (.lst vs)∧a∉μ'∧a∉F'
 frz:∀a vs,Frz K H a vs→Frz K H' a vs
 box:∀(n:Nat) a,μ[n]?=some a→μ'[n]?=some a
 dct:∀a,H a=some (.dK [])→H' a=some (.dK [])
 ext:∀a φ,H a=some (.ext φ)→a∉F→H' a=some (.ext φ)∧a∉F'
section
variable {F':La}
mutual
theorem Rep.chg(x:Chg K F μ H F' μ' H'):∀(d:D) (v:V),Rep K ⟨mg,F⟩ μ H d v→Rep K ⟨mg,F'⟩ μ' H' d v
 | .non,_,h=>h
 | .bl _,_,h=>h
 | .int _,_,h=>h
 | .str _,_,h=>h
 | .tup ds,v,h=>by unfold Rep at h⊢;obtain⟨a,vs,e,q,r⟩:=h;exact⟨a,vs,e,x.tup a vs q,RepL.chg x ds vs r⟩
 | .lst ds,v,h=>by unfold Rep at h⊢;obtain⟨a,vs,e,q,n,r⟩:=h;obtain⟨h1,h2,h3⟩:=x.lst a vs q n.1 n.2;exact⟨a,vs,e,h1,⟨h2,h3⟩,RepL.chg x ds vs r⟩
 | .scr ds,v,h=>by unfold Rep at h⊢;obtain⟨a,vs,e,q,r⟩:=h;exact⟨a,vs,e,x.frz a vs q,RepL.chg x ds vs r⟩
 | .ref n,v,h=>by unfold Rep at h⊢;obtain⟨a,e,q⟩:=h;exact⟨a,e,x.box n a q⟩
 | .fn y,v,h=>h
 | .ty y,v,h=>h
 | .dct,v,h=>by unfold Rep at h⊢;obtain⟨a,e,q⟩:=h;exact⟨a,e,x.dct a q⟩
 | .dks ks,v,h=>by unfold Rep at h⊢;obtain⟨a,cs,e,q,n,r,k⟩:=h;obtain⟨h1,h2⟩:=x.ext a _ q n;exact⟨a,cs,e,h1,h2,r,λc hc=>x.tup _ _ (k c hc)⟩
theorem RepL.chg(x:Chg K F μ H F' μ' H'):∀(ds:List D) (vs:List V),RepL K ⟨mg,F⟩ μ H ds vs→RepL K ⟨mg,F'⟩ μ' H' ds vs
 | [],vs,h=>h
 |d::ds,vs,h=>by unfold RepL at h⊢;obtain⟨w,ws,e,r,q⟩:=h;exact⟨w,ws,e,Rep.chg x d w r,RepL.chg x ds ws q⟩
end
theorem EnvR.chg(x:Chg K F μ H F' μ' H')(h:EnvR K ⟨mg,F⟩ μ H ρ σ):EnvR K ⟨mg,F'⟩ μ' H' ρ σ:=
 ⟨h.1,λi d e=>let⟨v,a,b⟩:=h.2 i d e;⟨v,a,Rep.chg x _ _ b⟩⟩
theorem Chg.start{o:HO}(h:H acc=none):Chg K F μ H (acc::F) μ (upd H acc o):=by
 have x:Ext μ H μ (upd H acc o):=.laid h;refine⟨λa vs q=>x.sqT q,λa vs q h1 h2=>⟨(x.lst q h1).1,h1,λz=>?_⟩,λa vs q=>x.frz q,λn a q=>q,λa q=>x.keep _ _ q (.inl λ_ z=>by cases z),λa φ q h2=>⟨x.keep _ _ q (.inl λ_ z=>by cases z),λz=>?_⟩⟩
 ·rcases Zo.mp z with rfl|z
  ·rw[h]at q;cases q
  ·exact h2 z
 ·rcases Zo.mp z with rfl|z
  ·rw[h]at q;cases q
  ·exact h2 z
noncomputable def grows:HO→Bool
 | .lst _=>true
 | .ext _=>true
 |_=>false
theorem Chg.more{u:HO}(ha:acc∈F)(h:H acc=some u)(hg:grows u=true):Chg K F μ H F μ (upd H acc u'):=by
 have ne:∀{a:Addr} {o:HO},H a=some o→grows o=false→a≠acc:=λe n z=>by subst z;rw[h]at e;cases e;rw[n]at hg;cases hg
 refine⟨λa vs q=>?_,λa vs q h1 h2=>⟨?_,h1,h2⟩,λa vs q=>?_,λn a q=>q,λa q=>?_,λa φ q h2=>⟨by rw[a0p' (show a≠acc from λz=>h2 (by rw[z];exact ha))];exact q,h2⟩⟩
 ·rcases q with(q| ⟨o,q⟩)|q
  ·exact .inl (.inl (by rw[a0p' (ne q rfl)];exact q))
  ·exact .inl (.inr ⟨o,by rw[a0p' (ne q rfl)];exact q⟩)
  ·exact .inr q
 ·have:a≠acc:=λz=>by subst z;exact h2 ha
  rw[a0p' this];exact q
 ·rcases q with⟨o,q⟩|q
  ·exact .inl ⟨o,by rw[a0p' (ne q rfl)];exact q⟩
  ·exact .inr q
 ·rw[a0p' (ne q rfl)];exact q
theorem Chg.out:Chg K (acc::F) μ H F μ H:=
 ⟨λ_ _ q=>q,λa vs q h1 h2=>⟨q,h1,λz=>h2 (Zb _ z)⟩,λ_ _ q=>q,λ_ _ q=>q,λ_ q=>q,λ_ _ q h=>⟨q,λz=>h (Zb _ z)⟩⟩
theorem Chg.outBox:Chg K (acc::F) μ H F (μ++[acc]) H:=by
 refine⟨λ_ _ q=>q,λa vs q h1 h2=>⟨q,λz=>?_,λz=>h2 (Zb _ z)⟩,λ_ _ q=>q,λn a q=>?_,λ_ q=>q,λ_ _ q h=>⟨q,λz=>h (Zb _ z)⟩⟩
 ·rcases ZX.mp z with z|z
  ·exact h1 z
  ·have:a=acc:=by simpa using z
   subst this;exact h2 Zd
 ·rw[Zp (Zh.mp q).1];exact q
theorem SOk.start{o:HO}(s:SOk K ⟨mg,F⟩ μ S H)(h:H acc=none):SOk K ⟨mg,acc::F⟩ μ S (upd H acc o):=by
 have x:Ext μ H μ (upd H acc o):=.laid h;refine⟨λa ha=>?_,s.len,s.nd,λn a ds h1 h2=>?_⟩
 ·rcases Zo.mp ha with rfl|ha
  ·exact⟨o,a0y'⟩
  ·obtain⟨o',q⟩:=s.live a ha;exact x.there a o' q
 ·obtain⟨vs,q,r⟩:=s.at_ n a ds h1 h2;exact⟨vs,by rw[a0p' (a0j' q h)];exact q,RepL.chg (.start h) _ _ r⟩
theorem SOk.more{u:HO}(s:SOk K ⟨mg,F⟩ μ S H)(ha:acc∈F)(hm:acc∉μ)(h:H acc=some u)(hg:grows u=true):SOk K ⟨mg,F⟩ μ S (upd H acc u'):=by
 refine⟨λa hb=>?_,s.len,s.nd,λn a ds h1 h2=>?_⟩
 ·by_cases e:a=acc
  ·subst e;exact⟨_,a0y'⟩
  ·obtain⟨o',q⟩:=s.live a hb;exact⟨o',by rw[a0p' e];exact q⟩
 ·obtain⟨vs,q,r⟩:=s.at_ n a ds h1 h2;have:a≠acc:=λz=>by subst z;exact hm (Zv h1)
  exact⟨vs,by rw[a0p' this];exact q,RepL.chg (.more ha h hg) _ _ r⟩
theorem SOk.out(s:SOk K ⟨mg,acc::F⟩ μ S H):SOk K ⟨mg,F⟩ μ S H:=
 ⟨λa ha=>s.live a (Zb _ ha),s.len,s.nd,λn a ds h1 h2=>by obtain⟨vs,q,r⟩:=s.at_ n a ds h1 h2;exact⟨vs,q,RepL.chg .out _ _ r⟩⟩
theorem SOk.outBox{vs:List V}(s:SOk K ⟨mg,acc::F⟩ μ S H)(hm:acc∉μ)(h:H acc=some (.lst vs))(r:RepL K ⟨mg,acc::F⟩ μ H ys vs):SOk K ⟨mg,F⟩ (μ++[acc]) (S++[ys]) H:=by
 refine⟨λa ha=>s.live a (Zb _ ha),by simp[s.len],?_,λn a es h1 h2=>?_⟩
 ·rw[List.nodup_append]
  exact⟨s.nd,by simp,λa ha b hb=>by
   have:b=acc:=by simpa using hb
   subst this;intro z;subst z;exact hm ha⟩
 ·have hl:=s.len;by_cases hn:n<μ.length
  ·rw[Zp hn]at h1;rw[Zp (by omega)]at h2;obtain⟨ws,q,r'⟩:=s.at_ n a es h1 h2;exact⟨ws,q,RepL.chg .outBox _ _ r'⟩
  ·have e1:n=μ.length:=by
    have:=(Zh.mp h1).1;simp at this;omega
   subst e1;rw[Zs (Zk _)]at h1;rw[Zs (by omega)]at h2;simp[hl]at h1 h2;subst h1;subst h2;exact⟨vs,h,RepL.chg .outBox _ _ r⟩
theorem Ext.more{o:HO}(x:Ext μ H μ1 H1)(h:H acc=none):Ext μ H μ1 (upd H1 acc o):=
 ⟨x.pre,λa u e c=>by rw[a0p' (a0j' e h)];exact x.keep a u e c,λa u e=>by rw[a0p' (a0j' e h)];exact x.there a u e,x.fresh⟩
theorem Ext.outBox(x:Ext μ H μ1 H1)(h:H acc=none):Ext μ H (μ1++[acc]) H1:=by
 obtain⟨r,e⟩:=x.pre;refine⟨⟨r++[acc],by rw[e,List.append_assoc]⟩,x.keep,x.there,λa ha=>?_⟩;rcases ZX.mp ha with ha|ha
 ·exact x.fresh a ha
 ·have:a=acc:=by simpa using ha
  subst this;exact .inr h
end
noncomputable def getOf:Its→Store→Nat→Option (Option D)
 | .items xs=>λ_ i=>some xs[i]?
 | .live _ get=>get
def ItOk(K:Fg)(mg:GS)(J:It)(get:Store→Nat→Option (Option D))(μ:La)(H:Hp):Prop:=
 ∀(i:Nat) μ' S' H' F',Chg K mg.F μ H F' μ' H'→SOk K ⟨mg.mg,F'⟩ μ' S' H'→
  (∀x,get S' i=some (some x)→J.go i H'∧∀y H'',J.yld i H' y H''→Ext μ' H' μ' H''∧SOk K ⟨mg.mg,F'⟩ μ' S' H''∧Rep K ⟨mg.mg,F'⟩ μ' H'' x y)∧(get S' i=some none→J.stop i H')
def tI(K:Fg)(mg:Mg)(E:XK)(Φ:FT)(Γ:Str→Option D)(c:CE):TI:=λσ H R=>∃F μ ρ S,SOk K ⟨mg,F⟩ μ S H∧EnvR K ⟨mg,F⟩ μ H ρ σ∧WantG K ⟨mg,F⟩ E (λμ' H' its J=>ItOk K ⟨mg,F⟩ J (getOf its) μ' H') μ H R (denI Φ Γ c ρ S)
theorem Chg.refl:Chg K F μ H F μ H:=⟨λ_ _ q=>q,λ_ _ q h1 h2=>⟨q,h1,h2⟩,λ_ _ q=>q,λ_ _ q=>q,λ_ q=>q,λ_ _ q h=>⟨q,h⟩⟩
theorem Chg.trans{F1 F2 μ2:La}{H2:Hp}(a:Chg K F μ H F1 μ1 H1)(b:Chg K F1 μ1 H1 F2 μ2 H2):Chg K F μ H F2 μ2 H2:=
 ⟨λx vs q=>b.tup x vs (a.tup x vs q),λx vs q h1 h2=>by obtain⟨p1,p2,p3⟩:=a.lst x vs q h1 h2;exact b.lst x vs p1 p2 p3,λx vs q=>b.frz x vs (a.frz x vs q),λn x q=>b.box n x (a.box n x q),λx q=>b.dct x (a.dct x q),λx φ q h=>by obtain⟨p1,p2⟩:=a.ext x φ q h;exact b.ext x φ p1 p2⟩
theorem Chg.of_ext{F':La}(x:Ext μ H μ' H')(hF:∀a∈F',a∈F∨H a=none):Chg K F μ H F' μ' H':=by
 refine⟨λa vs q=>x.sqT q,λa vs q h1 h2=>⟨(x.lst q h1).1,(x.lst q h1).2,λz=>?_⟩,λa vs q=>x.frz q,λn a q=>x.get q,λa q=>x.keep _ _ q (.inl λ_ z=>by cases z),λa φ q h2=>⟨x.keep _ _ q (.inl λ_ z=>by cases z),λz=>?_⟩⟩<;>rcases hF a z with z|z
 ·exact h2 z
 ·rw[q]at z;cases z
 ·exact h2 z
 ·rw[q]at z;cases z
section
variable {E:XK}{l:Expr}{pos:Pos}{c:CE}
theorem a4l'{xs:List V}(I:Inv X pq σ H s)(hq:SqL X.K H a xs)(q:R (Itl X.K a) H):wpAny (model X.prog X.w) X.A (pyIter (.ref a)) (PIE X pq σ tg R) E' s:=by
 obtain⟨its,rv,p,hz⟩:=I.list hq;refine wpAny_pyIter_list p.isList ?_;refine⟨s.heap.objs.size,[s.heap.objs.size],_,_,H,rfl,I.kept (t':=s.toks) λb o e=>Zc _ e,a9d' a _,⟨_,Zl _ rfl,rfl,rfl⟩,λb hb=>?_,q⟩;have e:b=s.heap.objs.size:=by simpa using hb
 subst e;exact I.fpOk (Zk _) (I.hok.fresh (Zk _))
theorem b1x'{xs:List V}(I:Inv X pq σ H s)(hq:SqT X.K H a xs)(q:R (Itt X.K a) H):wpAny (model X.prog X.w) X.A (pyIter (.ref a)) (PIE X pq σ tg R) E' s:=by
 obtain⟨its,rv,p,hz⟩:=I.tuple hq;refine wpAny_pyIter_tuple (show s.heap.IsTuple a its.toArray from p) ?_;refine⟨s.heap.objs.size,[s.heap.objs.size],_,_,H,rfl,I.kept (t':=s.toks) λb o e=>Zc _ e,a7n' a _,⟨_,Zl _ rfl,rfl,rfl⟩,λb hb=>?_,q⟩;have e:b=s.heap.objs.size:=by simpa using hb
 subst e;exact I.fpOk (Zk _) (I.hok.fresh (Zk _))
theorem a6l'{mg:GS}{vs:List V}{i:Nat}(r:RepL K mg μ H ds vs)(h:getOf (.items ds) S i=some none):vs.length≤i:=by
 have h1:ds[i]?=none:=by simpa[getOf]using h
 have h2:=List.getElem?_eq_none_iff.mp h1;have hl:=r.length;omega
theorem a6m'{mg:GS}{vs:List V}(hq:∀F' μ' H',Chg K mg.F μ H F' μ' H'→SqL K H' a vs)(r:RepL K mg μ H ds vs):ItOk K mg (Itl K a) (getOf (.items ds)) μ H:=by
 intro i μ' S' H' F' ch sk;have hl:=r.length;refine⟨λy hy=>?_,λhi=>⟨vs,hq _ _ _ ch,a6l' r hi⟩⟩;have hy:ds[i]?=some y:=by simpa[getOf]using hy
 obtain⟨v,h1,h2⟩:=r.get hy;refine⟨⟨vs,v,hq _ _ _ ch,h1⟩,λz H'' hz=>?_⟩;obtain⟨rfl,hz⟩:=hz;have e:=hz vs (hq _ _ _ ch);rw[h1]at e;cases e;exact⟨.refl,sk,Rep.chg ch _ _ h2⟩
theorem b1y'{mg:GS}{vs:List V}(hq:SqT K H a vs)(r:RepL K mg μ H ds vs):ItOk K mg (Itt K a) (getOf (.items ds)) μ H:=by
 intro i μ' S' H' F' ch sk;have hl:=r.length;refine⟨λy hy=>?_,λhi=>⟨vs,ch.tup _ _ hq,a6l' r hi⟩⟩;have hy:ds[i]?=some y:=by simpa[getOf]using hy
 obtain⟨v,h1,h2⟩:=r.get hy;refine⟨⟨vs,v,ch.tup _ _ hq,h1⟩,λz H'' hz=>?_⟩;obtain⟨rfl,hz⟩:=hz;have e:=hz vs (ch.tup _ _ hq);rw[h1]at e;cases e;exact⟨.refl,sk,Rep.chg ch _ _ h2⟩
theorem b1z'{mg:GS}(hn:μ[n]?=some a):ItOk K mg (Itl K a) (a9v' n) μ H:=by
 intro i μ' S' H' F' ch sk;have hl:n<S'.length:=by rw[←sk.len];exact(Zh.mp (ch.box _ _ hn)).1
 have hy:S'[n]?=some S'[n]:=Zm hl;obtain⟨vs,h1,r⟩:=sk.at_ n a _ (ch.box _ _ hn) hy;have hl:=r.length;refine⟨λy hy'=>?_,λhi=>⟨vs,.of h1,?_⟩⟩
 ·unfold a9v' at hy';rw[hy]at hy';simp only[Option.map_some,Option.some.injEq]at hy';obtain⟨v,h2,h3⟩:=r.get hy';refine⟨⟨vs,v,.of h1,h2⟩,λz H'' hz=>?_⟩;obtain⟨rfl,hz⟩:=hz;have e:=hz vs (.of h1);rw[h2]at e;cases e;exact⟨.refl,sk,h3⟩
 ·unfold a9v' at hi;rw[hy]at hi;simp only[Option.map_some,Option.some.injEq]at hi;have:=List.getElem?_eq_none_iff.mp hi;omega
theorem i_seq(ha:PE X l (tE X.K X.mg E Φ Γ c)):PI X tg l (tI X.K X.mg E Φ Γ (.seq c)):=by
 intro pq s σ H R I h;obtain⟨F,μ,ρ,S,sk,en,w⟩:=h;refine thn (ha pq s σ H _ I ⟨F,μ,ρ,S,sk,en,WantG.bind w⟩) λu s1 ⟨v,H1,I1,rv,μ1,S1,d,x1,s1k,rd,w1⟩=>?_;cases d with
 |tup ds=>obtain⟨a,vs,rfl,hq,r⟩:=a0r' rd;cases rv;exact b1x' I1 hq (w1 μ1 H1 _ .refl s1k (b1y' hq r))
 |lst ds=>unfold Rep at rd;obtain⟨a,vs,rfl,hq,hn,r⟩:=rd;cases rv;exact a4l' I1 (.of hq) (w1 μ1 H1 _ .refl s1k (a6m' (λF' μ' H' ch=>.of (ch.lst a vs hq hn.1 hn.2).1) r))
 |scr ds=>unfold Rep at rd;obtain⟨a,vs,rfl,hq,r⟩:=rd;cases rv;exact a4l' I1 hq.sq (w1 μ1 H1 _ .refl s1k (a6m' (λF' μ' H' ch=>(ch.frz a vs hq).sq) r))
 |ref n=>
  have rd':=rd;unfold Rep at rd;obtain⟨a,rfl,hn⟩:=rd;cases rv;have hl:n<S1.length:=by rw[←s1k.len];exact(Zh.mp hn).1
  obtain⟨vs,h1,r⟩:=s1k.at_ n a _ hn (Zm hl);exact a4l' I1 (.of h1) (w1 μ1 H1 _ .refl s1k (b1z' hn))
 |_=>exact w1.elim
theorem a2G'(lo:Int)(n:Nat):(a2R' lo n).length=n:=by
 induction n generalizing lo with
 |zero=>rfl
 |succ n ih=>unfold a2R';rw[Zy,ih]
theorem a7Y'(lo:Int)(n i:Nat)(h:i<n):(a2R' lo n)[i]?=some (.int (lo+i)):=by
 induction n generalizing lo i with
 |zero=>omega
 |succ n ih=>
  unfold a2R';cases i with
  |zero=>simp
  |succ i=>rw[Zf,ih (lo+1) i (by omega)];congr 2;omega
theorem a4M'{mg:GS}(lo:Int)(n:Nat):ItOk K mg (Itr lo n) (getOf (.items (a2R' lo n))) μ H:=by
 intro i μ' S' H' F' ch sk;refine⟨λy hy=>?_,λhi=>?_⟩
 ·have hy:(a2R' lo n)[i]?=some y:=by simpa[getOf]using hy
  have hi:i<n:=by have:=(Zh.mp hy).1;rwa [a2G']at this
  rw[a7Y' lo n i hi]at hy;cases hy;refine⟨hi,λz H'' hz=>?_⟩;obtain⟨rfl,rfl⟩:=hz;exact⟨.refl,sk,a0L'⟩
 ·have:(a2R' lo n)[i]?=none:=by simpa[getOf]using hi
  have:=List.getElem?_eq_none_iff.mp this;rw[a2G']at this;exact this
variable {cs:List CE}{a b:CE}{r:Expr}
theorem len_is{mg:GS}{Q:List V→Hp→Prop}(w:WantG K mg E (RepL K mg) μ H Q (denL Φ Γ cs ρ S)):WantG K mg E (RepL K mg) μ H (λvs H'=>vs.length=cs.length∧Q vs H') (denL Φ Γ cs ρ S):=by
 cases e:denL Φ Γ cs ρ S with
 |ok ds S'=>rw[e]at w;intro μ' H' vs x s r;refine⟨?_,w μ' H' vs x s r⟩;rw[←r.length,a5s' e]
 |err y S'=>rw[e]at w;exact w
 |fail=>rw[e]at w;exact w
theorem b1A'(O:XOk X cell N sc CX E Φ Γ k)(h:gloB sc "range"=true)(hn:a0H' l=true)(hcs:cs.length=1)(ha:PA X [l] (tL X.K X.mg E Φ Γ cs)):PI X tg (.Call (.Name "range" p2) [l] [] pos) (tI X.K X.mg E Φ Γ (.range cs)):=by
 obtain⟨h1,_,_⟩:=a0K' h;intro pq s σ H R I ⟨F,μ,ρ,S,sk,en,w⟩;refine a9e' (O.gl h1) (O.mod.bl _ (by decide+kernel)) ha (by rw[a0s' hn];rfl) pq s σ H R I ⟨F,μ,ρ,S,sk,en,(len_is (WantG.bind w)).mono λvs H1 ⟨hl,μ1,S1,ds,x1,s1,r1,w1⟩=>?_⟩;have hl2:=r1.length;split at w1
 ·rename_i j;split at w1
  ·rename_i hj;obtain⟨v,rfl,rv⟩:=r1.one;cases a0a' rv;exact⟨j,rfl,hj.1,hj.2,w1 μ1 H1 _ .refl s1 (a4M' 0 j.toNat)⟩
  ·exact w1.elim
 ·simp only[Zy,List.length_nil]at hl2;omega
 ·exact w1.elim
theorem b1B'(O:XOk X cell N sc CX E Φ Γ k)(h:gloB sc "range"=true)(hn:a0H' l=true)(hn2:a0H' r=true)(hcs:cs.length=2)(ha:PA X [l,r] (tL X.K X.mg E Φ Γ cs)):PI X tg (.Call (.Name "range" p2) [l,r] [] pos) (tI X.K X.mg E Φ Γ (.range cs)):=by
 obtain⟨h1,_,_⟩:=a0K' h;intro pq s σ H R I ⟨F,μ,ρ,S,sk,en,w⟩;refine a9f' (O.gl h1) (O.mod.bl _ (by decide+kernel)) ha (by rw[a0s' hn,a0s' hn2];rfl) (by rw[a0s' hn2];rfl) pq s σ H R I ⟨F,μ,ρ,S,sk,en,(len_is (WantG.bind w)).mono λvs H1 ⟨hl,μ1,S1,ds,x1,s1,r1,w1⟩=>?_⟩;have hl2:=r1.length;split at w1
 ·simp only[Zy,List.length_nil]at hl2;omega
 ·rename_i i j;split at w1
  ·rename_i hj;obtain⟨v,v',rfl,rv,rv'⟩:=r1.two;cases a0a' rv;cases a0a' rv';exact⟨i,j,rfl,hj,w1 μ1 H1 _ .refl s1 (a4M' i (j-i).toNat)⟩
  ·exact w1.elim
 ·exact w1.elim
theorem a7Z'{mg:GS}(s:SOk K mg μ S H)(r:Rep K mg μ H d v)(e:seqOf S d=some xs):∃a,v=.ref a∧
  ∀μ' S' H' F',Chg K mg.F μ H F' μ' H'→SOk K ⟨mg.mg,F'⟩ μ' S' H'→∃ys vs,seqOf S' d=some ys∧SqB (isLst d) K H' a vs∧RepL K ⟨mg.mg,F'⟩ μ' H' ys vs:=by
 cases d with
 |tup ds=>obtain⟨a,vs,rfl,hq,q⟩:=a0r' r;exact⟨a,rfl,λμ' S' H' F' ch sk=>⟨ds,vs,rfl,ch.tup _ _ hq,RepL.chg ch _ _ q⟩⟩
 |lst ds=>unfold Rep at r;obtain⟨a,vs,rfl,hq,hn,q⟩:=r;exact⟨a,rfl,λμ' S' H' F' ch sk=>⟨ds,vs,rfl,SqL.of (ch.lst a vs hq hn.1 hn.2).1,RepL.chg ch _ _ q⟩⟩
 |scr ds=>unfold Rep at r;obtain⟨a,vs,rfl,hq,q⟩:=r;exact⟨a,rfl,λμ' S' H' F' ch sk=>⟨ds,vs,rfl,(ch.frz a vs hq).sq,RepL.chg ch _ _ q⟩⟩
 |ref n=>
  unfold Rep at r;obtain⟨a,rfl,hn⟩:=r;refine⟨a,rfl,λμ' S' H' F' ch sk=>?_⟩;have hl:n<S'.length:=by rw[←sk.len];exact(Zh.mp (ch.box _ _ hn)).1
  obtain⟨vs,h1,q⟩:=sk.at_ n a _ (ch.box _ _ hn) (Zm hl);exact⟨_,vs,Zm hl,SqL.of h1,q⟩
 |_=>unfold seqOf at e;cases e
theorem a1Z'(h:a7N' d=some xs)(S:Store):seqOf S d=some xs:=by unfold a7N' at h;split at h<;>first|exact h|cases h
theorem a9y'{e:D}{its:Its}(h:zipOf S d e=some its):(∃xs ys,seqOf S d=some xs∧seqOf S e=some ys)∧∀S' i,(∃xs ys,seqOf S' d=some xs∧seqOf S' e=some ys)→getOf its S' i=a9w' d e S' i:=by
 unfold zipOf at h;split at h
 ·rename_i xs ys e1 e2;cases h;refine⟨⟨xs,ys,a1Z' e1 S,a1Z' e2 S⟩,λS' i _=>?_⟩;show some (List.zipWith (λx y=>D.tup [x,y]) xs ys)[i]?=_;unfold a9w';rw[a1Z' e1 S',a1Z' e2 S',List.getElem?_zipWith]
  show some _=some (match xs[i]?,ys[i]? with
   |some x,some y=>some (D.tup [x,y])
   |_,_=>none)
  cases xs[i]? <;>cases ys[i]? <;>rfl
 ·split at h
  ·rename_i xs ys e1 e2;cases h;exact⟨⟨xs,ys,e1,e2⟩,λS' i _=>rfl⟩
  ·cases h
theorem b1C'{mg:GS}{e:D}{u:V}{its:Its}(sk:SOk K mg μ S H)(rd:Rep K mg μ H d v)(re:Rep K mg μ H e u)(h:zipOf S d e=some its):
  ∃a b,v=.ref a∧u=.ref b∧(∃vs,SqB (isLst d) K H a vs)∧(∃vs,SqB (isLst e) K H b vs)∧ItOk K mg (Itz K (isLst d) (isLst e) a b) (getOf its) μ H:=by
 obtain⟨⟨xs,ys,e1,e2⟩,hg⟩:=a9y' h;obtain⟨a,rfl,ka⟩:=a7Z' sk rd e1;obtain⟨b,rfl,kb⟩:=a7Z' sk re e2;obtain⟨_,va,_,qa,_⟩:=ka μ S H mg.F .refl sk;obtain⟨_,vb,_,qb,_⟩:=kb μ S H mg.F .refl sk;refine⟨a,b,rfl,rfl,⟨va,qa⟩,⟨vb,qb⟩,λi μ' S' H' F' ch sk'=>?_⟩;obtain⟨xs',vs,f1,q1,r1⟩:=ka μ' S' H' F' ch sk';obtain⟨ys',ws,f2,q2,r2⟩:=kb μ' S' H' F' ch sk';rw[hg S' i ⟨xs',ys',f1,f2⟩];unfold a9w';rw[f1,f2];have l1:=r1.length;have l2:=r2.length;refine⟨λy hy=>?_,λhy=>⟨vs,ws,q1,q2,?_⟩⟩
 ·have hy:=Option.some.inj hy;cases g1:xs'[i]? with
  |none=>rw[g1]at hy;cases hy
  |some p=>
   cases g2:ys'[i]? with
   |none=>rw[g1,g2]at hy;cases hy
   |some q=>rw[g1,g2]at hy;cases hy;obtain⟨v1,k1,rp⟩:=r1.get g1;obtain⟨v2,k2,rq⟩:=r2.get g2;refine⟨⟨vs,ws,v1,v2,q1,q2,k1,k2⟩,λz H'' hz=>?_⟩;obtain⟨T,x',y',rfl,hT,rfl,z1,z2⟩:=hz;have e3:=z1 vs q1;rw[k1]at e3;cases e3;have e4:=z2 ws q2;rw[k2]at e4;cases e4;refine⟨.laid hT,sk'.laid hT,?_⟩;unfold Rep;exact⟨T,[v1,v2],rfl,SqT.of a0y',.cons (Rep.mono (.laid hT) _ _ rp) (.cons (Rep.mono (.laid hT) _ _ rq) .nil)⟩
 ·have hy:=Option.some.inj hy;cases g1:xs'[i]? with
  |none=>exact .inl (by have:=List.getElem?_eq_none_iff.mp g1;omega)
  |some p=>
   cases g2:ys'[i]? with
   |none=>exact .inr (by have:=List.getElem?_eq_none_iff.mp g2;omega)
   |some q=>rw[g1,g2]at hy;cases hy
theorem ne5{i j:Nat}(h:i≠j):n+i≠n+j:=λe=>h (Nat.add_left_cancel e)
theorem ne5'{j:Nat}(h:0≠j):n≠n+j:=λe=>h (Nat.add_left_cancel (n:=n) (by rw[Nat.add_zero];exact e))
theorem ne5''{j:Nat}(h:0≠j):n+j≠n:=λe=>ne5' h e.symm
theorem b1D':bootBuiltins "zip"=some (.type "zip"):=by decide+kernel
theorem i_zip(O:XOk X cell N sc CX E Φ Γ k)(h:gloB sc "zip"=true)(ht:isTup tg=true)(hn:a0H' l=true)(hn2:a0H' r=true)(ha:PA X [l,r] (tL X.K X.mg E Φ Γ cs)):PI X tg (.Call (.Name "zip" p2) [l,r] [] pos) (tI X.K X.mg E Φ Γ (.zip cs)):=by
 obtain⟨h1,_,_⟩:=a0K' h;intro pq s σ H R I ⟨F,μ,ρ,S,sk,en,w⟩;refine Call_ (a4D' I (O.gl h1) (O.mod.bl _ (by decide+kernel)) b1D' (PyProof.Rows.callWith_type1 (thn (ha pos pq s σ H _ I ⟨F,μ,ρ,S,sk,en,WantG.bind w⟩) λus s1 ⟨vs,H1,I1,rv,μ1,S1,ds,x1,s1k,r1,w1⟩=>?_) (a0s' hn) (by rw[a0s' hn2];rfl)));split at w1
 ·rename_i d e;obtain⟨v,u,rfl,rd,re⟩:=r1.two;cases ez:zipOf S1 d e with
  |none=>rw[ez]at w1;exact w1.elim
  |some its=>
   rw[ez]at w1;obtain⟨a,b,rfl,rfl,⟨va,qa⟩,⟨vb,qb⟩,ok⟩:=b1C' s1k rd re ez;cases rv with
   |cons p q=>
    cases q with
    |cons p' q'=>
     cases q';cases p;cases p';obtain⟨as,ra,sa⟩:=a6N' I1 qa;obtain⟨bs,rb,sb⟩:=a6N' I1 qb;refine b1v' sa sb λh' z1 z2 z3 z4 z5 z6 kk=>?_;refine wpAny_pyIter_zip z1 ?_;have I2:Inv X pq σ H1 {s1 with heap:=h'}:=I1.kept (t':=s1.toks) kk;cases tg with
     |Tuple ts x1 tp=>
      refine⟨s1.heap.objs.size+4,[s1.heap.objs.size+4,s1.heap.objs.size+2,s1.heap.objs.size+3,s1.heap.objs.size,s1.heap.objs.size+1],_,_,H1,rfl,I2,
       b1w' (isLst d) (isLst e) (s1.heap.objs.size+4) (s1.heap.objs.size+2) (s1.heap.objs.size+3) s1.heap.objs.size (s1.heap.objs.size+1) a b (ne5 (by decide)) (ne5 (by decide)) (ne5' (by decide)) (ne5 (by decide)) (ne5 (by decide)) (ne5'' (by decide)) (ne5 (by decide)) (ne5'' (by decide)) (ne5 (by decide)) (ne5' (by decide)),⟨z1,z2,⟨_,_,z3⟩,z4,z5⟩,λc hc=>?_,w1 μ1 H1 _ .refl s1k ok⟩
      have hc':s1.heap.objs.size≤c:=by
       simp only[Zo,ZO,or_false]at hc;rcases hc with rfl|rfl|rfl|rfl|rfl
       ·exact Nat.le_add_right _ _
       ·exact Nat.le_add_right _ _
       ·exact Nat.le_add_right _ _
       ·exact Zk _
       ·exact Nat.le_add_right _ _
      exact I1.fpOk hc' (I1.hok.fresh hc')
     |_=>cases ht
 ·exact w1.elim
end
noncomputable def a2T'(ifs:Lx)(env:Env):Sem Bool:=forIn ifs true (λc r=>if r=true then do let ok ←isTrue c env (eval c env);pure (ForInStep.yield ok)else pure (ForInStep.yield r))
noncomputable def cRest(ce:Expr)(em:Sem Unit)(gens:List Comprehension)(d:Nat)(acc:Value)(env:Env):Sem Unit:=match gens[d+1]? with
 |some g'=>do
   let x ←eval g'.iter env
   standAt g'.iter.pos
   let x ←if g'.is_async !=0 then foldedIterable g'.iter x else foldedSetIterable g'.iter env x
   let _ ←runOwn (.compStart ce (d+1) (←holding [x] (if g'.is_async !=0 then asyncIter x else pyIter x)) acc env) env
 |none=>em
noncomputable def emL1(elt:Expr)(acc:Value)(env:Env):Sem Unit:=do let _ ←call (.builtin "list.append") [acc,←eval elt env]
noncomputable def emS1(elt:Expr)(acc:Value)(env:Env):Sem Unit:=do let v ←eval elt env;standAt elt.pos;let _ ←call (.builtin "set.add") [acc,v]
theorem b1E'{ce:Expr}{em:Sem Unit}{d:Nat}{it acc:Value}{env:Env}{t i:Expr}{fs:Lx}(h:gens[d]?=some ⟨t,i,fs,0⟩):
  (do
    let some g:=gens[d]? |unsupported "internal:comprehension-depth"
    standAt (if g.is_async !=0 then ce.pos else g.iter.pos)
    match ←if g.is_async !=0 then asyncNext it else pyNext it with
    |none=>pure (.done .next)
    |some v=>
     letOwnedTupleGo g.target it v
     assign g.target env v
     let mut ok:=true
     for c in g.ifs do
      if ok then ok ←isTrue c env (eval c env)
     if ok then
      match gens[d+1]? with
      |some g'=>
       let x ←eval g'.iter env
       standAt g'.iter.pos
       let x ←if g'.is_async !=0 then foldedIterable g'.iter x else foldedSetIterable g'.iter env x
       let _ ←runOwn (.compStart ce (d+1) (←holding [x] (if g'.is_async !=0 then asyncIter x else pyIter x)) acc env) env
      |none=>em
     again (.compLoop ce d it acc env):Sem Fin)=(standAt i.pos>>=λ_=>pyNext it>>=λr=>match r with
   |none=>pure (.done .next)
   |some v=>letOwnedTupleGo t it v>>=λ_=>assign t env v>>=λ_=>(a2T' fs env>>=λok=>if ok=true then cRest ce em gens d acc env else pure ())>>=λ_=>
    again (.compLoop ce d it acc env)):=by
 simp only[h];show(standAt i.pos>>=λ_=>pyNext it>>=_)=_;congr 1;funext _;congr 1;funext r;cases r with
 |none=>rfl
 |some v=>
  show(letOwnedTupleGo t it v>>=λ_=>assign t env v>>=λ_=>_>>=λok=>_)=_;congr 1;funext _;congr 1;funext _
  conv=>rhs;rw[bind_assoc]
  unfold a2T';refine congrArg (λk=>_>>=k) (funext λok=>?_);cases ok with
  |true=>
   simp only[if_true];unfold cRest;cases gens[d+1]? with
   |none=>rfl
   |some g'=>
    by_cases hb:(g'.is_async !=0)=true
    ·simp only[if_pos hb,bind_assoc,pure_bind]
    ·simp only[if_neg hb,bind_assoc,pure_bind]
  |false=>simp only[Zr,Z0,pure_bind]
section
variable {em:Sem Unit}{d:Nat}
theorem pb_when{fs:Lx}{ts:List TT}{tu:TU}(ht:PTs X fs ts)(hb:PB X (cRest ce em gens d (.ref acc) X.env) tu):
  PB X (a2T' fs X.env>>=λok=>if ok=true then cRest ce em gens d (.ref acc) X.env else pure ()) (tWhen ts tu):=by
 intro pq s σ H Q I h;refine Za (thn (a7J' fs ts ht pq s σ H _ I h) λb s1 ⟨H1,I1,q1⟩=>?_);cases b with
 |false=>rw[if_neg (by decide)]at q1;rw[if_neg (by decide)];exact Ze ⟨σ,H1,I1,q1⟩
 |true=>rw[if_pos rfl]at q1;rw[if_pos rfl];exact hb pq s1 σ H1 Q I1 q1
theorem pb_last(hg:gens[d+1]?=none)(he:PE X elt te):PB X (cRest ce (emL1 elt (.ref acc) X.env) gens d (.ref acc) X.env) (tEmit acc te):=by intro pq s σ H Q I h;unfold cRest;rw[hg];show wpAny _ _ (eval elt X.env>>=λx=>call (.builtin "list.append") [.ref acc,x]>>=λ_=>pure ()) _ _ s;refine Za (thn (he pq s σ H _ I h) λu s2 ⟨v,H2,I2,r2,ys,ha,hz,q2⟩=>?_);refine Za (thn (a6d' pq s2 σ H2 (.ref acc) [v] (.ref acc) [u] (λ_ H'=>Q σ H') I2 rfl (.cons r2 .nil) ⟨acc,ys,v,rfl,rfl,ha,hz,q2⟩) λ_ s3 ⟨_,H3,I3,_,q3⟩=>?_);exact Ze ⟨σ,H3,I3,q3⟩
theorem b1F'{t i:Expr}{fs:Lx}{g:TG}{tb:TU}(hls:isLS ce=true)(hcl:clausesOf ce=gens)(heq:∀it:Addr,compTurn ce (d+1) (.ref it) (.ref acc) X.env=(standAt i.pos>>=λ_=>pyNext (.ref it)>>=λr=>match r with
   |none=>pure (.done .next)
   |some v=>letOwnedTupleGo t (.ref it) v>>=λ_=>assign t X.env v>>=λ_=>(a2T' fs X.env>>=λok=>if ok=true then cRest ce em gens (d+1) (.ref acc) X.env else pure ())>>=λ_=>again (.compLoop ce (d+1) (.ref it) (.ref acc) X.env))) (hx:X.xe=λ_ _=>False) (hc:X.calm=true) (hg:gens[d+1]?=some ⟨t,i,fs,0⟩) (hi:PI X t i wi) (hs:∀x,foldedSetIterable i X.env x=pure x) (hgt:PG X t g)
  (hb:PB X (a2T' fs X.env>>=λok=>if ok=true then cRest ce em gens (d+1) (.ref acc) X.env else pure ()) tb):PB X (cRest ce em gens d (.ref acc) X.env) (tInner wi g tb):=by
 intro pq s σ H Q I h;unfold cRest;rw[hg];show wpAny _ _ (eval i X.env>>=λx=>standAt i.pos>>=λ_=>foldedSetIterable i X.env x>>=λx=>holding [x] (pyIter x)>>=λit=>runOwn (.compStart ce (d+1) it (.ref acc) X.env) X.env>>=λ_=>pure ()) _ _ s;refine Za (thn (hi pq s σ H _ I h) λv s1 h1=>Za (wpAny_standAt (Za ?_)));rw[hs];refine Ze (Za (ZY (thn h1 λitv s2 h2=>Za ?_)));obtain⟨it,fp,tn,J,H2,e,I2,T,st2,f2,W⟩:=h2;subst e
 have loop:codeAny (model X.prog X.w) X.A (.compLoop ce (d+1) (.ref it) (.ref acc) X.env) (λr s'=>match r with
   | .ok f=>∃σ' H',Inv X pq σ' H' s'∧Q σ' H'
   | .error e=>cameBackBy (model X.prog X.w) X.A X.env X.xe e s') s2:=
  a6g' (Fin:=Q) hls hx hc (heq it) T hgt hb I2 st2 f2 W λs' σ' H' I' _ q=>⟨σ',H',I',q⟩
 refine wpAny_runOwn (h:=none) ?_
 refine codeAny_mono (R:=λr s'=>match r with
   | .ok f=>∃σ' H',Inv X pq σ' H' s'∧Q σ' H'
   | .error e=>cameBackBy (model X.prog X.w) X.A X.env X.xe e s') (a3h' hls (by rw[hcl];exact hg) loop (T.self _ 0 _ _ _ st2 loop)) λr s' q=>?_
 cases r with
 |ok f=>exact Ze q
 |error e=>exact q
end
noncomputable def gVs:List CT→TGs
 | []=>gNil
 |t::ts=>match t with
  | .var i=>gCons (gName i) (gVs ts)
  | .tup _=>λ_ _ _ _=>False
def gCT(K:Fg):CT→TG
 | .var i=>gName i
 | .tup ts=>gTup K ts.length (gVs ts)
section
variable {E:XK}
theorem nm_ok(O:XOk X cell N sc CX E Φ Γ k){i:Nat}{p:Pos}(h:sdT cell N sc (.var i)=true):PG X (.Name (N.getD i "") p) (gName i):=by
 have h1:=(andB h).1;have h2:=(andB h).2;generalize N.getD i ""=x at h1 h2;simp only[Zt,Bool.or_eq_true,beq_iff_eq]at h1 h2
 have hl:L2.Loc X.env.scope x:=by
  unfold L2.Loc;rw[O.sc];rcases h2 with z|z
  ·exact .inl z
  ·exact .inr z.2
 refine pg_name (by rw[O.n];exact O.nd) (by rw[O.n];exact h1) hl ?_;rcases h2 with z|z
 ·exact .inr (by rw[O.sc];exact z)
 ·exact .inl (O.fn x z.1)
theorem a4m'{env:Env}:∀{ts:List CT} {es:Lx},((assignEach (emTL ts N es) env).length=ts.length∧(assignEach (emTL ts N es) env).findIdx? (·.1)=none)
 | [],_=>⟨rfl,rfl⟩
 |t::ts,es=>by
  have ih:=a4m' (env:=env) (ts:=ts) (es:=es.tail);have e:assignEach (emTL (t::ts) N es) env=(false,assign (emT t N (es.headD dE)) env)::assignEach (emTL ts N es.tail) env:=by cases t<;>rfl
  rw[e];exact⟨by rw[Zy,ih.1,Zy],by rw[List.findIdx?_cons,ih.2];rfl⟩
theorem gs_pg(O:XOk X cell N sc CX E Φ Γ k):∀{ts:List CT} {es:Lx},sdTL cell N sc ts=true→PGs X (emTL ts N es) (gVs ts)
 | [],es,h=>pgs_nil
 |t::ts,es,h=>by
  cases t with
  |tup _=>exact λ_ _ _ _ _ _ _ _ _ z=>z.elim
  |var i=>exact b0W' (nm_ok O (andB h).1) (gs_pg O (andB h).2)
theorem g_pg(O:XOk X cell N sc CX E Φ Γ k){t:CT}(h:sdT cell N sc t=true):PG X (emT t N e) (gCT X.K t):=by
 cases t with
 |var i=>exact nm_ok O h
 |tup ts=>exact pg_tup O.calm (gs_pg O h) a4m'.1 a4m'.2
theorem gs_do{F μ:La}{H:Hp}{K:Fg}{mg:Mg}{ρ':Rho}{Q:L2.St→Hp→Prop}:∀{ts:List CT} {ds:List D} {vs:List V} {ρ:Rho} {σ:L2.St},asgVs ts ds ρ=some ρ'→RepL K ⟨mg,F⟩ μ H ds vs→EnvR K ⟨mg,F⟩ μ H ρ σ→(∀σ',EnvR K ⟨mg,F⟩ μ H ρ' σ'→Q σ' H)→gVs ts vs σ H Q
 | [],ds,vs,ρ,σ,h,r,en,q=>by
  cases ds with
  |nil=>cases h;unfold RepL at r;exact⟨r,q σ en⟩
  |cons _ _=>cases h
 |t::ts,ds,vs,ρ,σ,h,r,en,q=>by
  cases t with
  |tup _=>cases h
  |var i=>
   cases ds with
   |nil=>cases h
   |cons d ds=>obtain⟨v,w,rfl,r1,rl⟩:=r.uncons;exact⟨v,w,rfl,gs_do (ts:=ts) h rl (en.set r1) q⟩
theorem a2Z'{ρ':Rho}:∀{ts:List CT} {ds:List D} {ρ:Rho},asgVs ts ds ρ=some ρ'→ts.length=ds.length∧ρ'.length=ρ.length
 | [],ds,ρ,h=>by
  cases ds with
  |nil=>cases h;exact⟨rfl,rfl⟩
  |cons _ _=>cases h
 |t::ts,ds,ρ,h=>by
  cases t with
  |tup _=>cases h
  |var i=>
   cases ds with
   |nil=>cases h
   |cons d ds=>have:=a2Z' (ts:=ts) h;exact⟨congrArg Nat.succ this.1,by rw[this.2,List.length_set]⟩
theorem a6n'{ρ':Rho}{j:Nat}:∀{ts:List CT} {ds:List D} {ρ:Rho},asgVs ts ds ρ=some ρ'→(∀i∈a4k' ts,i≠j)→ρ'[j]?=ρ[j]?
 | [],ds,ρ,h,hj=>by
  cases ds with
  |nil=>cases h;rfl
  |cons _ _=>cases h
 |t::ts,ds,ρ,h,hj=>by
  cases t with
  |tup _=>cases h
  |var i=>
   cases ds with
   |nil=>cases h
   |cons d ds=>rw[a6n' (ts:=ts) h λk hk=>hj k (Zb _ hk),ZR (hj i Zd)]
theorem g_do{Q:L2.St→Hp→Prop}{t:CT}(h:asgCT t d ρ=some ρ')(r:Rep K ⟨mg,F⟩ μ H d v)(en:EnvR K ⟨mg,F⟩ μ H ρ σ)
  (q:∀σ',EnvR K ⟨mg,F⟩ μ H ρ' σ'→Q σ' H):gCT K t v σ H Q:=by
 cases t with
 |var i=>cases h;exact q _ (en.set r)
 |tup ts=>
  cases d with
  |tup ds=>obtain⟨a,vs,rfl,hq,rl⟩:=a0r' r;exact⟨a,vs,rfl,hq,by rw[←rl.length];exact(a2Z' (ts:=ts) h).1.symm,gs_do (ts:=ts) h rl en q⟩
  |_=>cases h
end
theorem a9z'{l:List Nat}{i:Nat}(h:isNew ρ l=true)(hi:i∈l):ρ[i]?=some none:=by
 unfold isNew at h;have:=Zz.mp h i hi;split at this
 ·assumption
 ·cases this
theorem asg_get{t:CT}(h:asgCT t d ρ=some ρ'):ρ'.length=ρ.length∧∀j,(∀i∈slots t,i≠j)→ρ'[j]?=ρ[j]? :=by
 cases t with
 |var i=>cases h;exact⟨List.length_set,λj hj=>ZR (hj i Zd)⟩
 |tup ts=>
  cases d with
  |tup ds=>exact⟨(a2Z' (ts:=ts) h).2,λj hj=>a6n' (ts:=ts) h hj⟩
  |_=>cases h
theorem b1G'{mg:GS}{t:CT}(h:a0z' t d ρ=some ρ')(en:EnvR K mg μ H ρ' σ):EnvR K mg μ H ρ σ:=by
 unfold a0z' at h;by_cases hn:isNew ρ (slots t)=true
 ·rw[if_pos hn]at h;have g:=asg_get h;refine⟨by rw[←en.1,g.1],λj d' e=>en.2 j d' ?_⟩;rw[g.2 j λi hi z=>by subst z;rw[a9z' hn hi]at e;cases e];exact e
 ·rw[if_neg hn]at h;cases h
theorem a8a'{t:CT}(h:a0z' t d ρ=some ρ'):asgCT t d ρ=some ρ':=by
 unfold a0z' at h;split at h
 ·exact h
 ·cases h
structure CSt (K:Fg)(mg:Mg)(F:La)(acc:Addr)(O:List D→List V→HO→Prop)(B:La→Hp→Prop)(μ0:La)(H0:Hp)(μ:La)(S:Store)(H:Hp)(ρ:Rho)(σ:L2.St)(ds:List D)(vs:List V):Prop where
 n0:H0 acc=none
 ext:Ext μ0 H0 μ H
 sok:SOk K ⟨mg,acc::F⟩ μ S H
 nin:acc∉μ
 env:EnvR K ⟨mg,acc::F⟩ μ H ρ σ
 at_:∃o,H acc=some o∧O ds vs o
 rep:RepL K ⟨mg,acc::F⟩ μ H ds vs
 b:B μ H
def Keep(K:Fg)(F:La)(B:La→Hp→Prop):Prop:=∀μ H μ1 H1,B μ H→Chg K F μ H F μ1 H1→B μ1 H1
def WantB(K:Fg)(mg:Mg)(F:La)(acc:Addr)(O:List D→List V→HO→Prop)(B:La→Hp→Prop)(μ0:La)(H0:Hp)(ρ:Rho)(Q:L2.St→Hp→Prop):Res (List D)→Prop
 | .ok ds' S'=>∀μ' H' σ' vs',CSt K mg F acc O B μ0 H0 μ' S' H' ρ σ' ds' vs'→Q σ' H'
 |_=>False
noncomputable def tB(K:Fg)(mg:Mg)(O:Addr→List D→List V→HO→Prop)(Φ:FT)(Γ:Str→Option D)(c:CE)(acc:Addr):TU:=λσ H Q=>∃F B μ0 H0 μ ρ S ds vs,Keep K (acc::F) B∧CSt K mg F acc (O acc) B μ0 H0 μ S H ρ σ ds vs∧WantB K mg F acc (O acc) B μ0 H0 ρ Q (denB Φ Γ c ρ ds S)
noncomputable def stepC(Φ:FT)(Γ:Str→Option D)(ifs:List CE)(body:CE)(ρ:Rho)(ds:List D)(S:Store):Res (List D):=(denTs Φ Γ ifs ρ S).bind λk S3=>if k=true then denB Φ Γ body ρ ds S3 else .ok ds S3
noncomputable def tC(K:Fg)(mg:Mg)(O:Addr→List D→List V→HO→Prop)(Φ:FT)(Γ:Str→Option D)(ifs:List CE)(c:CE)(acc:Addr):TU:=λσ H Q=>∃F B μ0 H0 μ ρ S ds vs,Keep K (acc::F) B∧CSt K mg F acc (O acc) B μ0 H0 μ S H ρ σ ds vs∧WantB K mg F acc (O acc) B μ0 H0 ρ Q (stepC Φ Γ ifs c ρ ds S)
section
variable {O:List D→List V→HO→Prop}{vs:List V}
theorem CSt.next(hB:Keep K (acc::F) B)(c:CSt K mg F acc O B μ0 H0 μ S H ρ σ ds vs)(x:Ext μ H μ1 H1)(s:SOk K ⟨mg,acc::F⟩ μ1 S1 H1):CSt K mg F acc O B μ0 H0 μ1 S1 H1 ρ σ ds vs where
 n0:=c.n0
 ext:=c.ext.trans x
 sok:=s
 nin:=λz=>by
  rcases x.fresh acc z with z|z
  ·exact c.nin z
  ·obtain⟨o,e,_⟩:=c.at_;rw[e]at z;cases z
 env:=c.env.mono x
 at_:=let⟨o,e,h⟩:=c.at_;⟨o,x.keep acc _ e (.inr c.nin),h⟩
 rep:=RepL.mono x _ _ c.rep
 b:=hB μ H μ1 H1 c.b (.of_ext x λ_ z=>.inl z)
theorem CSt.put{u:HO}(hB:Keep K (acc::F) B)(c:CSt K mg F acc O B μ0 H0 μ S H ρ σ ds vs)(ha:H acc=some u)(hg:grows u=true)(r:Rep K ⟨mg,acc::F⟩ μ H d v)(hO:O (ds++[d]) (vs++[v]) u'):CSt K mg F acc O B μ0 H0 μ S (upd H acc u') ρ σ (ds++[d]) (vs++[v]):=by
 have ch:Chg K (acc::F) μ H (acc::F) μ (upd H acc u'):=.more Zd ha hg
 exact{
  n0:=c.n0
  ext:=c.ext.more c.n0
  sok:=c.sok.more Zd c.nin ha hg
  nin:=c.nin
  env:=c.env.chg ch
  at_:=⟨_,a0y',hO⟩
  rep:=RepL.append (RepL.chg ch _ _ c.rep) (.cons (Rep.chg ch _ _ r) .nil)
  b:=hB _ _ _ _ c.b ch}
theorem a9A'{E:XK}:∀{cs:List CE} {σ:L2.St} {Q:Bool→Hp→Prop},SOk X.K ⟨X.mg,F⟩ μ S H→EnvR X.K ⟨X.mg,F⟩ μ H ρ σ→WantG X.K ⟨X.mg,F⟩ E (λ_ _ a b=>a=b) μ H Q (denTs Φ Γ cs ρ S)→a9t' (cs.map (tT X.K X.mg E Φ Γ)) σ H Q:=by
 intro cs
 induction cs generalizing μ H S with
 |nil=>exact λsk en w=>w μ H true .refl sk rfl
 |cons c cs ih=>
  intro σ Q sk en w;unfold denTs at w;refine⟨F,μ,ρ,S,sk,en,(WantG.bind w).mono λk H1 zz=>ex34 zz λμ1 S1 k' x1 s1 e1 w1=>?_⟩;subst e1;cases k' with
  |true=>rw[if_pos rfl]at w1⊢;exact ih s1 (en.mono x1) w1
  |false=>rw[if_neg (by decide)]at w1⊢;exact w1 μ1 H1 _ .refl s1 rfl
end
section
variable {E:XK}
theorem PB.weak{body:Sem Unit}{t t':TU}(h:PB X body t)(w:∀σ H Q,t' σ H Q→t σ H Q):PB X body t':=λpq s σ H Q I q=>h pq s σ H Q I (w σ H Q q)
theorem a6O'{vs:List V}{ifs:List CE}{c:CE}{Q:L2.St→Hp→Prop}
  (hB:Keep K (acc::F) B) (st:CSt K mg F acc (O acc) B μ0 H0 μ S H ρ σ ds vs) (w:WantB K mg F acc (O acc) B μ0 H0 ρ Q (stepC Φ Γ ifs c ρ ds S)):
  WantG K ⟨mg,acc::F⟩ E (λ_ _ a b=>a=b) μ H (λb H1=>if b=true then tB K mg O Φ Γ c acc σ H1 Q else Q σ H1) (denTs Φ Γ ifs ρ S):=by
 unfold stepC at w;cases e:denTs Φ Γ ifs ρ S with
 |ok k S3=>
  rw[e]at w;intro μ1 H1 b x s eb;subst eb;have st1:=st.next hB x s;cases k with
  |true=>exact⟨F,B,μ0,H0,μ1,ρ,S3,ds,vs,hB,st1,w⟩
  |false=>exact w μ1 H1 σ vs st1
 |err y S3=>rw[e]at w;exact w.elim
 |fail=>rw[e]at w;exact w.elim
theorem a9B'{em:Sem Unit}{d:Nat}{fs:Lx}{ifs:List CE}{c:CE}(ht:PTs X fs (ifs.map (tT X.K X.mg E Φ Γ)))(hb:PB X (cRest ce em gens d (.ref acc) X.env) (tB X.K X.mg O Φ Γ c acc)):
  PB X (a2T' fs X.env>>=λok=>if ok=true then cRest ce em gens d (.ref acc) X.env else pure ()) (tC X.K X.mg O Φ Γ ifs c acc):=
 PB.weak (pb_when ht hb) λσ H Q zz=>ex93 zz λF B μ0 H0 μ ρ S ds vs hB st w=>a9A' st.sok st.env (a6O' hB st w)
def oL(_:Addr)(_:List D)(vs:List V)(o:HO):Prop:=o=.lst vs
theorem c_emit{d:Nat}{c:CE}(hg:gens[d+1]?=none)(he:PE X elt (tE X.K X.mg E Φ Γ c)):PB X (cRest ce (emL1 elt (.ref acc) X.env) gens d (.ref acc) X.env) (tB X.K X.mg oL Φ Γ (.emit c) acc):=
 PB.weak (pb_last hg he) λσ H Q zz=>ex93 zz λF B μ0 H0 μ ρ S ds vs hB st w=>by
  refine⟨acc::F,μ,ρ,S,st.sok,st.env,?_⟩;simp only[denB]at w;cases e:den Φ Γ c ρ S with
  |ok y S1=>
   rw[e]at w;intro μ1 H1 v x s r;have st1:=st.next hB x s;have w':WantB X.K X.mg F acc (oL acc) B μ0 H0 ρ Q (if ds.length<big then .ok (ds++[y]) S1 else .fail):=w;by_cases hl:ds.length<big
   ·rw[if_pos hl]at w';obtain⟨_,ea,rfl⟩:=st1.at_;exact⟨vs,ea,by rw[a7y',←st1.rep.length];exact hl,w' μ1 _ σ _ (st1.put hB ea rfl r rfl)⟩
   ·rw[if_neg hl]at w';exact w'.elim
  |err y S1=>rw[e]at w;exact w.elim
  |fail=>rw[e]at w;exact w.elim
end
noncomputable def a5t':Its→Nat
 | .items xs=>xs.length+1
 | .live f _=>f
theorem a3T'(step:D→List D→Store→Res (List D))(xs:List D):∀(n i:Nat) (acc:List D) (S:Store),i+n=xs.length→compB step (λ_ i=>some xs[i]?) (n+1) i acc S=compD step (xs.drop i) acc S
 |0,i,acc,S,h=>by rw[List.drop_eq_nil_of_le (by omega)];unfold compB;have:xs[i]?=none:=List.getElem?_eq_none_iff.mpr (by omega);rw[this];rfl
 |n+1,i,acc,S,h=>by
  have hi:i<xs.length:=by omega
  rw[List.drop_eq_getElem_cons hi];unfold compB;rw[Zm hi];show(step xs[i] acc S).bind _=(step xs[i] acc S).bind _;congr 1;funext acc' S';exact a3T' step xs n (i+1) acc' S' (by omega)
theorem a5u'(step:D→List D→Store→Res (List D))(its:Its)(acc:List D)(S:Store):compI step its acc S=compB step (getOf its) (a5t' its) 0 acc S:=by
 cases its with
 |items xs=>exact(a3T' step xs xs.length 0 acc S (by omega)).symm
 |live f get=>rfl
noncomputable def stepN(Φ:FT)(Γ:Str→Option D)(tg:CT)(ifs:List CE)(body:CE)(ρ:Rho):D→List D→Store→Res (List D):=λx acc S2=>match a0z' tg x ρ with
 |some ρ'=>stepC Φ Γ ifs body ρ' acc S2
 |none=>.fail
theorem CSt.back{B':La→Hp→Prop}{vs:List V}(c:CSt K mg F acc (O acc) B μ0 H0 μ S H ρ σ ds vs)(b:B' μ H)(e:EnvR K ⟨mg,acc::F⟩ μ H ρ' σ'):CSt K mg F acc (O acc) B' μ0 H0 μ S H ρ' σ' ds vs:=
 ⟨c.n0,c.ext,c.sok,c.nin,e,c.at_,c.rep,b⟩
theorem a8b'{tg:CT}{ifs:List CE}{body:CE}{x:D}(h:a0z' tg x ρ=some ρ'):stepN Φ Γ tg ifs body ρ x ds S=stepC Φ Γ ifs body ρ' ds S:=by unfold stepN;rw[h]
theorem a8c'{tg:CT}{ifs:List CE}{body:CE}{x:D}(h:a0z' tg x ρ=none):stepN Φ Γ tg ifs body ρ x ds S=.fail:=by unfold stepN;rw[h]
theorem a8d'{Fi:La}{μi:La}{Hi:Hp}{get:Store→Nat→Option (Option D)}{tg:CT}{ifs:List CE}{body:CE}{Q:L2.St→Hp→Prop}(hB:Keep K (acc::F) B)(ok:ItOk K ⟨mg,Fi⟩ J get μi Hi)
        {vs:List V} (ch:Chg K Fi μi Hi (acc::F) μ H) (st:CSt K mg F acc (O acc) B μ0 H0 μ S H ρ σ ds vs) (w:WantB K mg F acc (O acc) B μ0 H0 ρ Q (compB (stepN Φ Γ tg ifs body ρ) get n 0 ds S)):
  ∃W:Nat→Nat→L2.St→Hp→Prop,(∃m,W 0 m σ H)∧∀i m σ H,W i m σ H→
   (J.stop i H∧Q σ H)∨(J.go i H∧∃Nx:L2.St→Hp→Prop,(∀σ' H',Nx σ' H'→∃m',m'<m∧W (i+1) m' σ' H')∧∀x H',J.yld i H x H'→gCT K tg x σ H' λσ2 H2=>tC K mg O Φ Γ ifs body acc σ2 H2 Nx):=by
 refine⟨λi m σ H=>∃μ S ds vs,Chg K Fi μi Hi (acc::F) μ H∧CSt K mg F acc (O acc) B μ0 H0 μ S H ρ σ ds vs∧WantB K mg F acc (O acc) B μ0 H0 ρ Q (compB (stepN Φ Γ tg ifs body ρ) get m i ds S),⟨n,μ,S,ds,vs,ch,st,w⟩,?_⟩;rintro i m σ H ⟨μ,S,ds,vs,ch,st,w⟩;cases m with
 |zero=>exact w.elim
 |succ m=>
  unfold compB at w;obtain⟨k1,k2⟩:=ok i μ S H (acc::F) ch st.sok;cases e:get S i with
  |none=>rw[e]at w;exact w.elim
  |some o=>
   cases o with
   |none=>rw[e]at w;exact .inl ⟨k2 e,w μ H σ vs st⟩
   |some x=>
    rw[e]at w;obtain⟨go,yld⟩:=k1 x e;refine .inr ⟨go,λσ' H'=>∃μ S ds vs,Chg K Fi μi Hi (acc::F) μ H'∧CSt K mg F acc (O acc) B μ0 H0 μ S H' ρ σ' ds vs∧WantB K mg F acc (O acc) B μ0 H0 ρ Q (compB (stepN Φ Γ tg ifs body ρ) get m (i+1) ds S),λσ' H' q=>⟨m,Nat.lt_succ_self m,q⟩,λy H' hy=>?_⟩;obtain⟨x1,s1,r1⟩:=yld y H' hy;have st1:=st.next hB x1 s1;have ch1:Chg K Fi μi Hi (acc::F) μ H':=ch.trans (.of_ext x1 λ_ z=>.inl z);have w':WantB K mg F acc (O acc) B μ0 H0 ρ Q ((stepN Φ Γ tg ifs body ρ x ds S).bind λacc' S'=>compB (stepN Φ Γ tg ifs body ρ) get m (i+1) acc' S'):=w;cases ea:a0z' tg x ρ with
    |none=>rw[a8c' ea]at w';exact w'.elim
    |some ρ'=>
     rw[a8b' ea]at w';refine g_do (a8a' ea) r1 st1.env λσ2 en2=>?_;refine⟨F,λμ H=>B μ H∧Chg K Fi μi Hi (acc::F) μ H,μ0,H0,μ,ρ',S,ds,vs,λμa Ha μb Hb q c=>⟨hB _ _ _ _ q.1 c,q.2.trans c⟩,st1.back (B':=λμ H=>B μ H∧Chg K Fi μi Hi (acc::F) μ H) ⟨st1.b,ch1⟩ en2,?_⟩;cases es:stepC Φ Γ ifs body ρ' ds S with
     |ok ds' S'=>rw[es]at w';intro μ' H2 σ' vs' st';exact⟨μ',S',ds',vs',st'.b.2,st'.back st'.b.1 (b1G' ea st'.env),w'⟩
     |err z S'=>rw[es]at w';exact w'.elim
     |fail=>rw[es]at w';exact w'.elim
section
variable {E:XK}
theorem c_inner{em:Sem Unit}{d:Nat}{t i:Expr}{fs:Lx}{tg:CT}{it:CE}{ifs:List CE}{body:CE}(hls:isLS ce=true)(hcl:clausesOf ce=gens)(heq:∀it:Addr,compTurn ce (d+1) (.ref it) (.ref acc) X.env=(standAt i.pos>>=λ_=>pyNext (.ref it)>>=λr=>match r with
   |none=>pure (.done .next)
   |some v=>letOwnedTupleGo t (.ref it) v>>=λ_=>assign t X.env v>>=λ_=>(a2T' fs X.env>>=λok=>if ok=true then cRest ce em gens (d+1) (.ref acc) X.env else pure ())>>=λ_=>again (.compLoop ce (d+1) (.ref it) (.ref acc) X.env))) (hx:X.xe=λ_ _=>False) (hc:X.calm=true) (hg:gens[d+1]?=some ⟨t,i,fs,0⟩)
  (hi:PI X t i (tI X.K X.mg E Φ Γ it)) (hs:∀x,foldedSetIterable i X.env x=pure x) (hgt:PG X t (gCT X.K tg))
  (hb:PB X (a2T' fs X.env>>=λok=>if ok=true then cRest ce em gens (d+1) (.ref acc) X.env else pure ()) (tC X.K X.mg O Φ Γ ifs body acc)):PB X (cRest ce em gens d (.ref acc) X.env) (tB X.K X.mg O Φ Γ (.inner tg it ifs body) acc):=
 PB.weak (b1F' hls hcl heq hx hc hg hi hs hgt hb) λσ H Q zz=>ex93 zz λF B μ0 H0 μ ρ S ds vs hB st w=>by
  refine⟨acc::F,μ,ρ,S,st.sok,st.env,?_⟩;simp only[denB]at w;cases e:denI Φ Γ it ρ S with
  |ok its S1=>rw[e]at w;intro μ1 H1 J x s ok;have st1:=st.next hB x s;have w':WantB X.K X.mg F acc (O acc) B μ0 H0 ρ Q (compI (stepN Φ Γ tg ifs body ρ) its ds S1):=w;rw[a5u']at w';exact a8d' hB ok .refl st1 w'
  |err y S1=>rw[e]at w;exact w.elim
  |fail=>rw[e]at w;exact w.elim
noncomputable def csOf(fr:List (Option Nat)):L2.St→L2.St:=λσ=>fr.map λj=>j.bind λj=>(σ[j]?).join
theorem env_cs{mg:GS}(en:EnvR K mg μ H ρ σ):EnvR K mg μ H (fr.map λj=>j.bind λj=>(ρ[j]?).join) (csOf fr σ):=by
 refine⟨by simp[csOf],λi d e=>?_⟩;rw[ZB]at e;cases e1:fr[i]? with
 |none=>rw[e1]at e;cases e
 |some o=>
  rw[e1]at e;have e:=Option.some.inj e;cases o with
  |none=>cases e
  |some j=>
   have e2:(ρ[j]?).join=some d:=e;cases e3:ρ[j]? with
   |none=>rw[e3]at e2;cases e2
   |some o=>rw[e3]at e2;have e4:o=some d:=e2;subst e4;obtain⟨v,k1,k2⟩:=en.2 j d e3;exact⟨v,by unfold csOf;rw[ZB,e1];show some ((σ[j]?).join)=_;rw[k1];rfl,k2⟩
theorem c_comp{tg0:Expr}{box:Bool}{tg:CT}{it:CE}{ifs:List CE}{body:CE}{Q:VK}(h:tE X.K X.mg E Φ Γ (.comp box N' fr tg it ifs body) σ H Q):
  tComp (λ_=>.lst []) (csOf fr) (tI X.K X.mg E Φ Γ it) (gCT X.K tg) (tC X.K X.mg oL Φ Γ ifs body) σ H Q:=by
 obtain⟨F,μ,ρ,S,sk,en,w⟩:=h;refine⟨F,μ,ρ,S,sk,en,?_⟩;simp only[den]at w;refine WantG.mono (Rel:=λμ' H' its J=>ItOk X.K ⟨X.mg,F⟩ J (getOf its) μ' H') (WantG.bind w) λJ H1 h acc hacc=>?_;obtain⟨μ1,S1,its,x1,s1,ok,w1⟩:=h
 have st:CSt X.K X.mg F acc (oL acc) (λμ H=>Chg X.K F μ1 H1 (acc::F) μ H) μ1 H1 μ1 S1 (upd H1 acc (.lst [])) (fr.map λj=>j.bind λj=>(ρ[j]?).join) (csOf fr σ) [] []:={
  n0:=hacc
  ext:=.laid hacc
  sok:=s1.start hacc
  nin:=s1.notin hacc
  env:=(env_cs (en.mono x1)).chg (.start hacc)
  at_:=⟨_,a0y',rfl⟩
  rep:=.nil
  b:=.start hacc}
 refine a8d' (Q:=λ_ H=>Q (.ref acc) H) (B:=λμ H=>Chg X.K F μ1 H1 (acc::F) μ H) (n:=a5t' its) (λμa Ha μb Hb q c=>q.trans c) ok (.start hacc) st ?_;have w2:WantG X.K ⟨X.mg,F⟩ E (Rep X.K ⟨X.mg,F⟩) μ1 H1 Q ((compI (stepN Φ Γ tg ifs body (fr.map λj=>j.bind λj=>(ρ[j]?).join)) its [] S1).noErr.bind λys S5=>if box=true then .ok (.ref S5.length) (S5++[ys])else .ok (.lst ys) S5):=w1;rw[a5u']at w2;cases e:compB (stepN Φ Γ tg ifs body (fr.map λj=>j.bind λj=>(ρ[j]?).join)) (getOf its) (a5t' its) 0 [] S1 with
 |ok ys S5=>
  rw[e]at w2;intro μ' H' σ' vs' st';have hF:acc∉F:=s1.notF hacc;obtain⟨_,ea,rfl⟩:=st'.at_;cases box with
  |false=>refine w2 μ' H' (.ref acc) st'.ext st'.sok.out ?_;unfold Rep;exact⟨acc,vs',rfl,ea,⟨st'.nin,hF⟩,RepL.chg .out _ _ st'.rep⟩
  |true=>refine w2 (μ'++[acc]) H' (.ref acc) (st'.ext.outBox hacc) (st'.sok.outBox st'.nin ea st'.rep) ?_;unfold Rep;refine⟨acc,rfl,?_⟩;have hl:=st'.sok.len;rw[Zs (by omega)];simp[hl]
 |err y S5=>rw[e]at w2;exact w2.elim
 |fail=>rw[e]at w2;exact w2.elim
end
noncomputable def setO(led:Bool):Obj:={cls:=.type "set",dict:=none,data:=.set #[] 0 (.fresh 0 0 led)}
def Ris(xs:Array Nat):Prop:=∀i j (hi:i<xs.size) (hj:j<xs.size),i<j→xs[i]<xs[j]
theorem b1H'{xs:Array Nat}(h:Ris xs)(j:Nat):∀(f lo hi:Nat),hi-lo≤f→lo≤hi→hi≤xs.size→(∀i (hx:i<xs.size),i<lo→xs[i]<j)→(∀i (hx:i<xs.size),hi≤i→j≤xs[i])→
  lo≤SetTable.below.go xs j f lo hi∧SetTable.below.go xs j f lo hi≤hi∧(∀i (hx:i<xs.size),i<SetTable.below.go xs j f lo hi→xs[i]<j)∧(∀i (hx:i<xs.size),SetTable.below.go xs j f lo hi≤i→j≤xs[i]):=by
 intro f
 induction f with
 |zero=>
  intro lo hi hf hl hs h1 h2;have:lo=hi:=by omega
  subst this;exact⟨Zk _,Zk _,h1,h2⟩
 |succ f ih=>
  intro lo hi hf hl hs h1 h2;unfold SetTable.below.go;split
  ·rename_i hlt;have hm:(lo+hi)/2<xs.size:=by omega
   have hg:xs.getD ((lo+hi)/2) j=xs[(lo+hi)/2]:=by simp[Array.getD,hm]
   dsimp only;rw[hg];split
   ·rename_i hx
    obtain⟨a,b,c,d⟩:=ih ((lo+hi)/2+1) hi (by omega) (by omega) hs (λi hi' hlt'=>by
     by_cases e:i=(lo+hi)/2
     ·subst e;exact hx
     ·exact Nat.lt_trans (h i _ hi' hm (by omega)) hx) h2
    exact⟨by omega,b,c,d⟩
   ·rename_i hx
    obtain⟨a,b,c,d⟩:=ih lo ((lo+hi)/2) (by omega) (by omega) (by omega) h1 (λi hi' hle=>by
     by_cases e:i=(lo+hi)/2
     ·subst e;omega
     ·exact ZS (by omega) (Nat.le_of_lt (h _ i hm hi' (by omega))))
    exact⟨a,by omega,c,d⟩
  ·have:lo=hi:=by omega
   subst this;exact⟨Zk _,Zk _,h1,h2⟩
theorem a2a'{xs:Array Nat}(h:Ris xs)(j:Nat):SetTable.below xs j≤xs.size∧(∀i (hx:i<xs.size),i<SetTable.below xs j→xs[i]<j)∧(∀i (hx:i<xs.size),SetTable.below xs j≤i→j≤xs[i]):=by obtain⟨_,b,c,d⟩:=b1H' h j xs.size 0 xs.size (by omega) (by omega) (Zk _) (λi _ h=>by omega) (λi hx h=>by omega);exact⟨b,c,d⟩
theorem a8e'{xs:Array Nat}(h:Ris xs){i:Nat}(hi:i<xs.size):SetTable.below xs (xs[i]+1)=i+1:=by
 obtain⟨a,b,c⟩:=a2a' h (xs[i]+1)
 have h1:i<SetTable.below xs (xs[i]+1):=by
  by_cases e:i<SetTable.below xs (xs[i]+1)
  ·exact e
  ·have:=c i hi (by omega);omega
 by_cases e:i+1<SetTable.below xs (xs[i]+1)
 ·have hs:i+1<xs.size:=by omega
  have:=b (i+1) hs e;have:=h i (i+1) hi hs (by omega);omega
 ·omega
theorem a8f'(xs:Array Nat)(h:Ris xs):SetTable.below xs 0=0:=by
 obtain⟨a,b,c⟩:=a2a' h 0;by_cases e:0<SetTable.below xs 0
 ·have:=b 0 (by omega) e;omega
 ·omega
theorem a8g'{xs:Array Nat}(h:Ris xs){j:Nat}(hn:∀i (hx:i<xs.size),xs[i]≠j):Ris (SetTable.insertAt xs (SetTable.below xs j) j):=by
 obtain⟨a,b,c⟩:=a2a' h j;have hl:(SetTable.insertAt xs (SetTable.below xs j) j).toList=xs.toList.take (SetTable.below xs j)++j::xs.toList.drop (SetTable.below xs j):=by unfold SetTable.insertAt;simp;exact List.take_of_length_le (by simp)
 have hp:(xs.toList.take (SetTable.below xs j)++j::xs.toList.drop (SetTable.below xs j)).Pairwise (· < ·):=by
  have hx:xs.toList.Pairwise (· < ·):=List.pairwise_iff_getElem.mpr λi k hi hk hik=>by simpa using h i k (by simpa using hi) (by simpa using hk) hik
  rw[List.pairwise_append];refine⟨hx.sublist (List.take_sublist _ _),ZW.mpr ⟨λy hy=>?_,hx.sublist (List.drop_sublist _ _)⟩,λx hx1 y hy=>?_⟩
  ·obtain⟨i,hi,rfl⟩:=ZQ.mp hy;rw[List.length_drop]at hi;rw[List.getElem_drop];have hi2:SetTable.below xs j+i<xs.size:=by simpa using(by omega:SetTable.below xs j+i<xs.toList.length)
   have h1:=c _ hi2 (by omega);have h2:=hn _ hi2;simp only[Array.getElem_toList];omega
  ·obtain⟨i,hi,rfl⟩:=ZQ.mp hx1;rw[List.length_take]at hi;rw[List.getElem_take];have hi2:i<xs.size:=by simpa using(by omega:i<xs.toList.length)
   have h1:=b i hi2 (by omega);simp only[Array.getElem_toList];rcases Zo.mp hy with rfl|hy
   ·exact h1
   ·obtain⟨k,hk,rfl⟩:=ZQ.mp hy;rw[List.length_drop]at hk;rw[List.getElem_drop];have hk2:SetTable.below xs j+k<xs.size:=by simpa using(by omega:SetTable.below xs j+k<xs.toList.length)
    have h3:=c _ hk2 (by omega);simp only[Array.getElem_toList];omega
 intro i k hi hk hik;have hlen:(SetTable.insertAt xs (SetTable.below xs j) j).size=(SetTable.insertAt xs (SetTable.below xs j) j).toList.length:=by simp
 have:=List.pairwise_iff_getElem.mp (hl▸hp) i k (by rw[←hlen];exact hi) (by rw[←hlen];exact hk) hik;simpa using this
theorem b1I'{l:List Nat}(h:l.Pairwise (· < ·)):Ris l.toArray:=λi j hi hj hij=>by have:=List.pairwise_iff_getElem.mp h i j (by simpa using hi) (by simpa using hj) hij;simpa using this
theorem a2q'{α β:Type}(f:α→Option β):∀l:List α,((l.filterMap λj=>(f j).map (j, ·)).map (·.1)).Sublist l
 | []=>.slnil
 |a::l=>by
  cases e:f a with
  |none=>rw[List.filterMap_cons_none (by rw[e];rfl)];exact(a2q' f l).cons a
  |some b=>rw[List.filterMap_cons_some (b:=(a,b)) (by rw[e];rfl),ZE];exact(a2q' f l).cons₂ a
open SetTable (Probe runEnd leap bits turns)
noncomputable def adv(mask:Nat)(p:Probe):Probe:=
 if p.more>0 then{p with j:=p.j+1,more:=p.more-1}else
 {p with j:=(leap mask p.i p.perturb).1,more:=runEnd mask (leap mask p.i p.perturb).1-(leap mask p.i p.perturb).1,i:=(leap mask p.i p.perturb).1,perturb:=(leap mask p.i p.perturb).2}
theorem adv_eq(t:SetTable)(p:Probe):t.advance p=adv t.mask p:=rfl
noncomputable def pos(mask:Nat):Probe→Nat→Probe
 |p,0=>p
 |p,n+1=>pos mask (adv mask p) n
noncomputable def mkP(mask i per:Nat):Probe:=⟨i,runEnd mask i-i,i,per,none⟩
noncomputable def stP(mask:Nat)(h:Int):Probe:=mkP mask (bits h%(mask+1)) (bits h)
theorem a3U'{mask:Nat}:∀(m n:Nat) (p:Probe),pos mask p (m+n)=pos mask (pos mask p m) n
 |0,n,p=>by rw[Nat.zero_add];rfl
 |m+1,n,p=>by rw[Nat.succ_add];exact a3U' m n (adv mask p)
theorem b1J'(p:Probe)(n:Nat):pos mask p (n+1)=adv mask (pos mask p n):=a3U' n 1 p
theorem a6o'{mask i per:Nat}{d:Option Nat}:∀(k r j:Nat),k≤r→pos mask ⟨j,r,i,per,d⟩ k=⟨j+k,r-k,i,per,d⟩
 |0,r,j,_=>rfl
 |k+1,r,j,h=>by
  show pos mask (adv mask ⟨j,r,i,per,d⟩) k=_;have:adv mask ⟨j,r,i,per,d⟩=⟨j+1,r-1,i,per,d⟩:=by unfold adv;exact if_pos (by show r>0;omega)
  rw[this,a6o' k (r-1) (j+1) (by omega)];congr 1<;>omega
theorem run_next{i per r j:Nat}{d:Option Nat}:pos mask ⟨j,r,i,per,d⟩ (r+1)=⟨(leap mask i per).1,runEnd mask (leap mask i per).1-(leap mask i per).1,(leap mask i per).1,(leap mask i per).2,d⟩:=by rw[b1J',a6o' r r j (Zk _)];unfold adv;exact if_neg (by show ¬r-r>0;omega)
noncomputable def runs(mask:Nat):Nat→Nat×Nat→Nat×Nat
 |0,x=>x
 |r+1,x=>runs mask r (leap mask x.1 x.2)
theorem run_end{i:Nat}:runEnd mask i-i≤9:=by unfold runEnd;split<;>omega
theorem run_at{mask:Nat}:∀(r:Nat) (x:Nat×Nat),∃n,n≤10*r∧pos mask (mkP mask x.1 x.2) n=mkP mask (runs mask r x).1 (runs mask r x).2
 |0,x=>⟨0,by omega,rfl⟩
 |r+1,x=>by obtain⟨n,hn,e⟩:=run_at r (leap mask x.1 x.2);have:=run_end (mask:=mask) (i:=x.1);refine⟨(runEnd mask x.1-x.1+1)+n,by omega,?_⟩;rw[a3U'];show pos mask (pos mask ⟨x.1,runEnd mask x.1-x.1,x.1,x.2,none⟩ (runEnd mask x.1-x.1+1)) n=_;rw[run_next];exact e
theorem a8h'{mask:Nat}:∀(a b:Nat) (x:Nat×Nat),runs mask (a+b) x=runs mask b (runs mask a x)
 |0,b,x=>by rw[Nat.zero_add];rfl
 |a+1,b,x=>by rw[Nat.succ_add];exact a8h' a b _
theorem a8i'{mask:Nat}:∀(r:Nat) (x:Nat×Nat),x.1≤mask→(runs mask r x).1≤mask
 |0,x,h=>h
 |r+1,x,h=>a8i' r _ (by show(x.1*5+1+x.2/32)%(mask+1)≤mask;have:=Nat.mod_lt (x.1*5+1+x.2/32) (show 0<mask+1 by omega);omega)
theorem a8j'{mask:Nat}:∀(r:Nat) (x:Nat×Nat),(runs mask r x).2=x.2/32^r
 |0,x=>by simp[runs]
 |r+1,x=>by show(runs mask r (leap mask x.1 x.2)).2=_;rw[a8j' r];show x.2/32/32^r=_;rw[Nat.div_div_eq_div_mul,Nat.pow_succ,Nat.mul_comm]
noncomputable def orb(m:Nat):Nat→Nat→Nat
 |0,i=>i
 |r+1,i=>orb m r ((i*5+1)%m)
noncomputable def cov(m:Nat):Nat→Nat→Nat
 |0,i=>1<<<i
 |r+1,i=>(1<<<i)|||cov m r ((i*5+1)%m)
theorem b0p'{i e:Nat}(h:(1<<<i).testBit e=true):i=e:=by rw[Nat.one_shiftLeft,Nat.testBit_two_pow]at h;exact of_decide_eq_true h
theorem b0q'{m e:Nat}:∀(r i:Nat),(cov m r i).testBit e=true→∃k,k≤r∧orb m k i=e
 |0,i,h=>⟨0,Zk _,b0p' h⟩
 |r+1,i,h=>by
  unfold cov at h;rw[Nat.testBit_or,Bool.or_eq_true]at h;rcases h with h|h
  ·exact⟨0,Nat.zero_le _,b0p' h⟩
  ·obtain⟨k,hk,e⟩:=b0q' r _ h;exact⟨k+1,by omega,e⟩
theorem cov_all:∀mask∈[7,31,127],∀i∈List.range (mask+1),cov (mask+1) mask i=2^(mask+1)-1:=by decide+kernel
theorem a8k'{mask:Nat}:∀(r i:Nat),(runs mask r (i,0)).1=orb (mask+1) r i
 |0,i=>rfl
 |r+1,i=>by show(runs mask r (leap mask i 0)).1=orb (mask+1) r ((i*5+1)%(mask+1));rw[←a8k' r];rfl
def MskT(mask:Nat):Prop:=mask∈[7,31,127]
theorem cover(hm:MskT mask){i per e:Nat}(hi:i≤mask)(hp:per<2^64)(he:e≤mask):∃r,r≤mask+13∧(runs mask r (i,per)).1=e:=by
 have h0:(runs mask 13 (i,per)).2=0:=by rw[a8j'];exact Nat.div_eq_of_lt (Zu hp (by decide))
 have h1:=a8i' 13 (i,per) hi;have h2:=cov_all mask hm _ (List.mem_range.mpr (Nat.lt_succ_of_le h1))
 have h3:(cov (mask+1) mask (runs mask 13 (i,per)).1).testBit e=true:=by rw[h2,Nat.testBit_two_pow_sub_one];exact ZI (by omega)
 obtain⟨k,hk,e3⟩:=b0q' _ _ h3;refine⟨13+k,by omega,?_⟩;rw[a8h',show runs mask 13 (i,per)=((runs mask 13 (i,per)).1,0)from Prod.ext rfl h0,a8k'];exact e3
theorem b0r'(h:Int):bits h<2^64:=by unfold bits;have h1:=Int.emod_lt_of_pos h (show(0:Int)<2^64 by decide);have h2:=Int.emod_nonneg h (show(2^64:Int)≠0 by decide);omega
theorem a9C'(hm:MskT mask){e:Nat}(he:e≤mask)(h:Int):∃n,n<10*turns mask∧(pos mask (stP mask h) n).j=e:=by obtain⟨r,hr,e1⟩:=cover hm (i:=bits h%(mask+1)) (per:=bits h) (by have:=Nat.mod_lt (bits h) (show 0<mask+1 by omega);omega) (b0r' h) he;obtain⟨n,hn,e2⟩:=run_at (mask:=mask) r (bits h%(mask+1),bits h);exact⟨n,by unfold turns;omega,by rw[show stP mask h=mkP mask (bits h%(mask+1),bits h).1 (bits h%(mask+1),bits h).2 from rfl,e2];exact e1⟩
theorem a4n'{mask:Nat}:∀(n:Nat) {p:Probe},(pos mask p n).dummy=p.dummy
 |0,p=>rfl
 |n+1,p=>by show(pos mask (adv mask p) n).dummy=_;rw[a4n' n];unfold adv;split<;>rfl
theorem hole:∀(m:Nat) (l:List Nat),l.length<m→∃e,e<m∧e∉l
 |0,l,h=>by omega
 |m+1,l,h=>by
  by_cases hm:m∈l
  ·have h1:(l.filter (· !=m)).length<l.length:=List.length_filter_lt_length_iff_exists.mpr ⟨m,hm,by simp⟩;obtain⟨e,he,hn⟩:=hole m (l.filter (· !=m)) (by omega);refine⟨e,by omega,λz=>hn (List.mem_filter.mpr ⟨z,?_⟩)⟩;have:e≠m:=by omega
   simpa using this
  ·exact⟨m,Nat.lt_succ_self m,hm⟩
def Fd(mask:Nat)(P:Nat→Prop)(h:Int)(j:Nat):Prop:=∃n,(pos mask (stP mask h) n).j=j∧∀m,m<n→P (pos mask (stP mask h) m).j
theorem Fd.mono{P P':Nat→Prop}{h:Int}{j:Nat}(x:Fd mask P h j)(hs:∀y,P y→P' y):Fd mask P' h j:=by obtain⟨n,e,f⟩:=x;exact⟨n,e,λm hm=>hs _ (f m hm)⟩
theorem a8l'(hm:MskT mask){pl:List Nat}(hl:pl.length≤mask)(h:Int):∃n,n<10*turns mask∧(pos mask (stP mask h) n).j∉pl∧∀m,m<n→(pos mask (stP mask h) m).j∈pl:=by
 obtain⟨e,he,hn⟩:=hole (mask+1) pl (by omega);obtain⟨n,hn1,e1⟩:=a9C' hm (e:=e) (by omega) h
 have key:∀n,(pos mask (stP mask h) n).j∉pl→∃k,k≤n∧(pos mask (stP mask h) k).j∉pl∧∀m,m<k→(pos mask (stP mask h) m).j∈pl:=by
  intro n
  induction n using Nat.strongRecOn with
  |ind n ih=>
   intro hx;by_cases z:∃m,m<n∧(pos mask (stP mask h) m).j∉pl
   ·obtain⟨m,hm,hy⟩:=z;obtain⟨k,hk,r⟩:=ih m hm hy;exact⟨k,by omega,r⟩
   ·exact⟨n,Zk _,hx,λm hm=>Classical.byContradiction λhy=>z ⟨m,hm,hy⟩⟩
 obtain⟨k,hk,r⟩:=key n (by rw[e1];exact hn);exact⟨k,by omega,r⟩
structure Tk (t:SetTable)(hs:Li):Prop where
 dum:t.dummies= #[]
 ris:Ris t.place
 siz:t.place.size=hs.length
 msk:MskT t.mask
 ful:t.tooFull=false
 fnd:∀x∈hs.zip t.place.toList,Fd t.mask (· ∈t.place.toList) x.1 x.2
theorem b1K'{xs:Array Nat}(h:Ris xs){i:Nat}(hi:i<xs.size):SetTable.below xs xs[i]=i:=by
 obtain⟨a,b,c⟩:=a2a' h xs[i]
 have h1:SetTable.below xs xs[i]≤i:=by
  by_cases z:SetTable.below xs xs[i]≤i
  ·exact z
  ·have:=b i hi (by omega);omega
 by_cases z:SetTable.below xs xs[i]<i
 ·have:=h _ i (by omega) hi z;have:=c _ (by omega) (Zk _);omega
 ·omega
theorem b0s'{t:SetTable}(h:Ris t.place){i:Nat}(hi:i<t.place.size):t.slot t.place[i]=.live i:=by unfold SetTable.slot;dsimp only;rw[b1K' h hi,if_pos];rw[ZC hi];exact beq_self_eq_true _
theorem b0t'{t:SetTable}(h:Ris t.place){j:Nat}(hj:j∈t.place.toList):∃i,∃hi:i<t.place.size,t.place[i]=j∧t.slot j=.live i:=by
 obtain⟨i,hi,e⟩:=ZQ.mp hj;have hi':i<t.place.size:=by simpa using hi
 have e':t.place[i]=j:=by simpa using e
 exact⟨i,hi',e',by rw[←e'];exact b0s' h hi'⟩
theorem a8m'{t:SetTable}(hd:t.dummies= #[]){j:Nat}(hj:j∉t.place.toList):t.slot j=.empty:=by
 unfold SetTable.slot;dsimp only;rw[if_neg,hd]
 ·rfl
 ·intro z;have:=eq_of_beq z;exact hj (Array.mem_toList_iff.mpr (Array.mem_of_getElem? this))
theorem Tk.fits{t:SetTable}(x:Tk t hs):t.place.size≤t.mask∧t.fits hs.length=true:=by
 have h:=x.ful;unfold SetTable.tooFull SetTable.fill at h;rw[x.dum]at h;have h1:¬((t.place.size+(#[]:Array Nat).size)*5≥t.mask*3):=of_decide_eq_false h;have h2:(#[]:Array Nat).size=0:=rfl;have h3:t.place.size≤t.mask:=by omega
 refine⟨h3,?_⟩;unfold SetTable.fits SetTable.fill;rw[x.siz,x.dum,beq_self_eq_true,Bool.true_and];exact ZI (by rw[←x.siz];omega)
theorem b0u'{t:SetTable}{hashAt:Nat→Int}{h:Int}:∀(n fuel:Nat) (p:Probe),n<fuel→p.dummy=none→(∀m,m<n→∃i,t.slot (pos t.mask p m).j=.live i∧hashAt i≠h)→
  (t.slot (pos t.mask p n).j=.empty→SetTable.probe.go t hashAt h fuel p=some (.empty (pos t.mask p n).j none))∧
  (∀i,t.slot (pos t.mask p n).j=.live i→hashAt i=h→SetTable.probe.go t hashAt h fuel p=some (.candidate (pos t.mask p n).j i (pos t.mask p (n+1))))
 |0,fuel+1,p,_,hp,_=>by
  constructor
  ·intro e;have e:t.slot p.j=.empty:=e;unfold SetTable.probe.go;rw[e,hp];rfl
  ·intro i e hi;have e:t.slot p.j=.live i:=e;unfold SetTable.probe.go;rw[e];dsimp only;rw[if_pos (by rw[hi];exact beq_self_eq_true _)];rfl
 |n+1,fuel+1,p,hf,hp,hm=>by
  obtain⟨i,hi,hne⟩:=hm 0 (Nat.succ_pos n);have hi:t.slot p.j=.live i:=hi
  have step:SetTable.probe.go t hashAt h (fuel+1) p=SetTable.probe.go t hashAt h fuel (adv t.mask p):=by
   conv=>lhs;unfold SetTable.probe.go
   rw[hi];dsimp only;rw[if_neg (λz=>hne (eq_of_beq z)),adv_eq]
  rw[step];exact b0u' n fuel (adv t.mask p) (by omega) (by rw[show(adv t.mask p).dummy=(pos t.mask p 1).dummy from rfl,a4n'];exact hp) λm hm'=>hm (m+1) (by omega)
theorem zip_ins{a:List α}{b:List β}(hl:a.length=b.length)(p:Nat)(x:α)(y:β){z:α×β}(hz:z∈(a.take p++x::a.drop p).zip (b.take p++y::b.drop p)):z=(x,y)∨z∈a.zip b:=by
 rw[List.zip_append (by simp[hl]),ZT,ZX,Zo]at hz;rcases hz with h|h|h
 ·rw[List.zip_eq_zipWith,←List.take_zipWith,←List.zip_eq_zipWith]at h;exact .inr (List.mem_of_mem_take h)
 ·exact .inl h
 ·rw[List.zip_eq_zipWith,←List.drop_zipWith,←List.zip_eq_zipWith]at h;exact .inr (List.mem_of_mem_drop h)
theorem Tk.put{t:SetTable}(x:Tk t hs){h:Int}(hn:(pos t.mask (stP t.mask h) n).j∉t.place.toList)(hb:∀m,m<n→(pos t.mask (stP t.mask h) m).j∈t.place.toList):
  let r:=t.put (pos t.mask (stP t.mask h) n).j
  r.1.dummies= #[]∧Ris r.1.place∧r.1.place.size=hs.length+1∧r.1.mask=t.mask∧r.1.led=t.led∧r.1.plain=t.plain∧r.2=SetTable.below t.place (pos t.mask (stP t.mask h) n).j∧
  ∀z∈(hs.take r.2++h::hs.drop r.2).zip r.1.place.toList,Fd t.mask (· ∈r.1.place.toList) z.1 z.2:=by
 intro r;have hp:r.1.place.toList=t.place.toList.take r.2++(pos t.mask (stP t.mask h) n).j::t.place.toList.drop r.2:=SetTable.toList_insertAt _ _ _
 have hin:∀y,y∈t.place.toList→y∈r.1.place.toList:=λy hy=>by
  rw[hp,ZX,Zo];rw[←List.take_append_drop r.2 t.place.toList,ZX]at hy;rcases hy with hy|hy
  ·exact .inl hy
  ·exact .inr (.inr hy)
 refine⟨?_,a8g' x.ris λi hi e=>hn (by rw[←e];simp),?_,rfl,rfl,rfl,rfl,λz hz=>?_⟩
 ·show(if SetTable.has t.dummies _ then _ else t.dummies)= #[];rw[x.dum];rfl
 ·show(SetTable.insertAt _ _ _).size=_;rw[←ZF,(SetTable.insertAt_perm _ _ _).length_eq,ZF,Array.size_push,x.siz]
 ·rw[hp]at hz;rcases zip_ins (by rw[←x.siz,ZF]) _ _ _ hz with rfl|hz
  ·exact⟨n,rfl,λm hm=>hin _ (hb m hm)⟩
  ·exact(x.fnd z hz).mono hin
abbrev Owner:=Array (Option Nat)
def Occ(ow:Owner)(j:Nat):Prop:=∃q,ow[j]?=some (some q)
theorem b1L'{ow:Owner}{j:Nat}(hj:j<ow.size)(h:(ow.getD j (some 0)).isNone=false):Occ ow j:=by
 have:ow.getD j (some 0)=ow[j]:=by simp[Array.getD,hj]
 rw[this]at h;cases e:ow[j]with
 |none=>rw[e]at h;cases h
 |some q=>exact⟨q,by rw[ZC hj,e]⟩
theorem a9D'{ow:Owner}{j:Nat}(h:(ow.getD j (some 0)).isNone=true):ow[j]?=some none:=by
 by_cases hj:j<ow.size
 ·have:ow.getD j (some 0)=ow[j]:=by simp[Array.getD,hj]
  rw[this]at h;rw[ZC hj];cases e:ow[j]with
  |none=>rfl
  |some q=>rw[e]at h;cases h
 ·have:ow.getD j (some 0)=some 0:=by simp[Array.getD,hj]
  rw[this]at h;cases h
theorem a6p'{mask:Nat}{ow:Owner}(hs:ow.size=mask+1):∀(fuel i per:Nat),i≤mask→
  (∃j n,SetTable.layClean.free mask ow fuel i per=some j∧(pos mask (mkP mask i per) n).j=j∧ow[j]?=some none∧∀m,m<n→Occ ow (pos mask (mkP mask i per) m).j)∨
  (SetTable.layClean.free mask ow fuel i per=none∧∀r,r<fuel→Occ ow (runs mask r (i,per)).1)
 |0,i,per,hi=>.inr ⟨rfl,λr h=>by omega⟩
 |fuel+1,i,per,hi=>by
  have hre:i+(runEnd mask i-i)=runEnd mask i∧runEnd mask i≤mask:=by unfold runEnd;split<;>omega
  have hlen:runEnd mask i+1-i=(runEnd mask i-i)+1:=by omega
  have occ:∀k,k≤runEnd mask i-i→(ow.getD (i+k) (some 0)).isNone=false→Occ ow (pos mask (mkP mask i per) k).j:=λk hk h=>by unfold mkP;rw[a6o' k _ i hk];exact b1L' (j:=i+k) (by omega) h
  unfold SetTable.layClean.free;cases hf:(List.range (runEnd mask i+1-i)).find? λk=>(ow.getD (i+k) (some 0)).isNone with
  |some k=>
   obtain⟨h1,h2,h3⟩:=List.find?_range_eq_some.mp hf;have hk:=List.mem_range.mp h2;refine .inl ⟨i+k,k,rfl,?_,a9D' h1,λm hm=>occ m (by omega) ?_⟩
   ·unfold mkP;rw[a6o' k _ i (by omega)]
   ·have:=h3 m hm;simpa using this
  |none=>
   have hall:=List.find?_eq_none.mp hf;have o1:∀k,k≤runEnd mask i-i→Occ ow (pos mask (mkP mask i per) k).j:=λk hk=>occ k hk (by have:=hall k (List.mem_range.mpr (by omega));exact Bool.eq_false_iff.mpr this);dsimp only;have hl:(leap mask i per).1≤mask:=by show(i*5+1+per/32)%(mask+1)≤mask;have:=Nat.mod_lt (i*5+1+per/32) (show 0<mask+1 by omega);omega
   have hnx:pos mask (mkP mask i per) (runEnd mask i-i+1)=mkP mask (leap mask i per).1 (leap mask i per).2:=run_next;rcases a6p' hs fuel (leap mask i per).1 (leap mask i per).2 hl with⟨j,n,e1,e2,e3,e4⟩| ⟨e1,e2⟩
   ·refine .inl ⟨j,(runEnd mask i-i+1)+n,e1,by rw[a3U',hnx];exact e2,e3,λm hm=>?_⟩;by_cases z:m≤runEnd mask i-i
    ·exact o1 m z
    ·have:=e4 (m-(runEnd mask i-i+1)) (by omega);rw[←hnx,←a3U']at this;rw[show runEnd mask i-i+1+(m-(runEnd mask i-i+1))=m by omega]at this;exact this
   ·refine .inr ⟨e1,λr hr=>?_⟩;cases r with
    |zero=>exact o1 0 (Nat.zero_le _)
    |succ r=>exact e2 r (by omega)
structure Ow (mask:Nat)(hs:Li)(k:Nat)(ow:Owner):Prop where
 sz:ow.size=mask+1
 ok:∀j q:Nat,ow[j]?=some (some q)→q<k∧∃h,hs[q]?=some h∧Fd mask (Occ ow) h j
 all:∀q:Nat,q<k→∃j:Nat,ow[j]?=some (some q)
 inj:∀j j' q:Nat,ow[j]?=some (some q)→ow[j']?=some (some q)→j=j'
theorem Ow.hole{ow:Owner}(x:Ow mask hs k ow)(hk:k≤mask):∃e,e≤mask∧ow[e]?=some none:=by
 have ha:∀q:Nat,∃j:Nat,q<k→ow[j]?=some (some q):=λq=>by
  by_cases z:q<k
  ·obtain⟨j,e⟩:=x.all q z;exact⟨j,λ_=>e⟩
  ·exact⟨0,λh=>absurd h z⟩
 obtain⟨e,he,hn⟩:=Py.hole (mask+1) ((List.range k).map λq=>Classical.choose (ha q)) (by simp;omega);refine⟨e,by omega,?_⟩;have hsz:e<ow.size:=by rw[x.sz];exact he
 rw[ZC hsz];cases ez:ow[e]with
 |none=>rfl
 |some q=>
  exfalso;have e1:ow[e]?=some (some q):=by rw[ZC hsz,ez]
  have hq:=(x.ok e q e1).1;have e2:=Classical.choose_spec (ha q) hq;exact hn (Zq.mpr ⟨q,List.mem_range.mpr hq,(x.inj _ _ q e1 e2).symm⟩)
theorem Ow.add(hm:MskT mask){ow:Owner}(x:Ow mask hs k ow)(hk:k≤mask){h:Int}(hh:hs[k]?=some h):∃j,SetTable.layClean.free mask ow (turns mask) (bits h%(mask+1)) (bits h)=some j∧Ow mask hs (k+1) (ow.setIfInBounds j (some k)):=by
 have hb:bits h%(mask+1)≤mask:=by have:=Nat.mod_lt (bits h) (show 0<mask+1 by omega);omega
 rcases a6p' x.sz (turns mask) (bits h%(mask+1)) (bits h) hb with⟨j,n,e1,e2,e3,e4⟩| ⟨e1,e2⟩
 ·refine⟨j,e1,?_⟩;have hj:j<ow.size:=(Array.getElem?_eq_some_iff.mp e3).1
  have gs:∀i,(ow.setIfInBounds j (some k))[i]?=if j=i then some (some k)else ow[i]? :=λi=>by
   rw[Array.getElem?_setIfInBounds];split
   ·rename_i z;subst z;first|rfl|rw[if_pos hj]
   ·rfl
  have oc:∀i,Occ ow i→Occ (ow.setIfInBounds j (some k)) i:=λi ⟨q,hq⟩=>by
   unfold Occ;rw[gs];split
   ·exact⟨k,rfl⟩
   ·exact⟨q,hq⟩
  refine⟨by rw[Array.size_setIfInBounds];exact x.sz,λi q hi=>?_,λq hq=>?_,λi i' q hi hi'=>?_⟩
  ·rw[gs]at hi;split at hi
   ·rename_i z;subst z;cases hi;exact⟨Nat.lt_succ_self _,h,hh,n,e2,λm hm=>oc _ (e4 m hm)⟩
   ·obtain⟨h1,h',h2,h3⟩:=x.ok i q hi;exact⟨by omega,h',h2,h3.mono oc⟩
  ·by_cases z:q=k
   ·subst z;exact⟨j,by rw[gs,if_pos rfl]⟩
   ·obtain⟨i,hi⟩:=x.all q (by omega);exact⟨i,by rw[gs,if_neg (λe=>by rw[←e,e3]at hi;cases hi)];exact hi⟩
  ·rw[gs]at hi hi';split at hi
   ·rename_i z;cases hi;split at hi'
    ·rename_i z';omega
    ·have:=(x.ok i' k hi').1;omega
   ·split at hi'
    ·cases hi';have:=(x.ok i k hi).1;omega
    ·exact x.inj i i' q hi hi'
 ·exfalso;obtain⟨e,he,h0⟩:=x.hole hk;obtain⟨r,hr,e3⟩:=cover hm hb (b0r' h) he;obtain⟨q,hq⟩:=e2 r (by unfold turns;omega);rw[e3,h0]at hq;cases hq
theorem a8n'{mask:Nat}(hm:MskT mask){hs:Li}(hl:hs.length≤mask):∀(rest done:Li) (ow:Owner),hs=done++rest→Ow mask hs done.length ow→
  ∃ow',rest.foldl (λacc h=>do
   let(owner,k) ←acc
   let j ←SetTable.layClean.free mask owner (turns mask) (bits h%(mask+1)) (bits h)
   pure (owner.setIfInBounds j (some k),k+1)) (some (ow,done.length))=some (ow',hs.length)∧Ow mask hs hs.length ow'
 | [],done,ow,e,x=>by rw[List.append_nil]at e;subst e;exact⟨ow,rfl,x⟩
 |h::rest,done,ow,e,x=>by
  have hlen:done.length≤mask:=by rw[e,ZG]at hl;omega
  obtain⟨j,e1,y⟩:=x.add hm hlen (h:=h) (by rw[e];simp);have:=a8n' hm hl rest (done++[h]) (ow.setIfInBounds j (some done.length)) (by rw[e];simp) (by rw[ZG];exact y);obtain⟨ow',e2,z⟩:=this;refine⟨ow',?_,z⟩;rw[ZG]at e2;rw[List.foldl_cons,←e2];congr 1;show Option.bind (some (ow,done.length)) _=_;dsimp only[Option.bind];rw[e1];rfl
theorem a9E'(hm:MskT mask)(hl:hs.length≤mask):∃ow,SetTable.layClean mask hs.toArray=some ow∧Ow mask hs hs.length ow:=by
 have hno:∀j q:Nat,(Array.replicate (mask+1) (none:Option Nat))[j]?=some (some q)→False:=λj q h=>by rw[Array.getElem?_replicate]at h;split at h<;>cases h
 have h0:Ow mask hs ([]:Li).length (Array.replicate (mask+1) none):=⟨by simp,λj q h=>(hno j q h).elim,λq h=>(by simp at h),λj j' q h=>(hno j q h).elim⟩;obtain⟨ow,e,x⟩:=a8n' hm hl hs [] _ rfl h0;refine⟨ow,?_,x⟩;unfold SetTable.layClean;rw[List.foldl_toArray];have e':=congrArg (Option.map Prod.fst) e;exact e'
theorem a8o'{mask:Nat}{P:Nat→Prop}{hs:Li}:∀(live:List (Nat×Nat)),(∀x∈live,∃h,hs[x.2]?=some h∧Fd mask P h x.1)→∀z∈(((live.map (·.2)).filterMap (hs[·]?)).zip (live.map (·.1))),Fd mask P z.1 z.2
 | [],_,z,hz=>by cases hz
 |x::live,hx,z,hz=>by
  obtain⟨h,e,f⟩:=hx x Zd;rw[ZE,ZE,List.filterMap_cons_some e,ZT]at hz;rcases Zo.mp hz with rfl|hz
  ·exact f
  ·exact a8o' live (λy hy=>hx y (Zb _ hy)) z hz
theorem a9F'{t:SetTable}(hm:MskT (SetTable.sizeAbove wanted-1))(hl:hs.length*5<(SetTable.sizeAbove wanted-1)*3):
  ∃t' order,t.relaid hs.toArray wanted=some (t',order)∧order.toList.Perm (List.range hs.length)∧t'.led=t.led∧t'.plain=t.plain∧Tk t' (order.toList.filterMap (hs[·]?)):=by
 generalize hmask:SetTable.sizeAbove wanted-1=mask at hm hl;obtain⟨ow,e,x⟩:=a9E' hm (hs:=hs) (by omega)
 have hlive:∀y∈((List.range (mask+1)).filterMap λj=>(ow.getD j none).map (j, ·)),ow[y.1]?=some (some y.2):=λy hy=>by
  obtain⟨j,hj,e1⟩:=List.mem_filterMap.mp hy;have hj:j<ow.size:=by rw[x.sz];exact List.mem_range.mp hj
  have e2:ow.getD j none=ow[j]:=by simp[Array.getD,hj]
  rw[e2]at e1;cases e3:ow[j]with
  |none=>rw[e3]at e1;cases e1
  |some q=>rw[e3]at e1;cases e1;exact(ZC hj).trans (congrArg some e3)
 have hback:∀j q:Nat,ow[j]?=some (some q)→(j,q)∈((List.range (mask+1)).filterMap λj=>(ow.getD j none).map (j, ·)):=λj q h=>by
  obtain⟨hj,e3⟩:=Array.getElem?_eq_some_iff.mp h;refine List.mem_filterMap.mpr ⟨j,List.mem_range.mpr (by rw[←x.sz];exact hj),?_⟩;have e2:ow.getD j none=ow[j]:=by simp[Array.getD,hj]
  rw[e2,e3];rfl
 have hsub:=a2q' (λj=>ow.getD j none) (List.range (mask+1));have hrel:t.relaid hs.toArray wanted=some ({mask:=mask,place:=((((List.range (mask+1)).filterMap λj=>(ow.getD j none).map (j, ·)).map (·.1)).toArray),dummies:= #[],finger:=t.finger,led:=t.led,moves:=t.movedTo mask,plain:=t.plain},(((List.range (mask+1)).filterMap λj=>(ow.getD j none).map (j, ·)).map (·.2)).toArray):=by unfold SetTable.relaid SetTable.laid;rw[hmask,e];rfl
 rw[hrel];generalize((List.range (mask+1)).filterMap λj=>(ow.getD j none).map (j, ·))=live at*;have hpw:=List.pairwise_lt_range.sublist hsub
 have pm:(live.map (·.2)).Perm (List.range hs.length):=by
  refine(List.perm_ext_iff_of_nodup ?_ List.nodup_range).mpr λq=>?_
  ·rw[List.pairwise_map]at hpw;unfold List.Nodup;rw[List.pairwise_map];refine hpw.imp_of_mem λ{a b} ha hb hab z=>?_;have h2:=hlive b hb;rw[←z]at h2;have:=x.inj _ _ _ (hlive a ha) h2;omega
  ·rw[List.mem_range,Zq];constructor
   ·rintro⟨y,hy,rfl⟩;exact(x.ok _ _ (hlive y hy)).1
   ·intro hq;obtain⟨j,hj⟩:=x.all q hq;exact⟨(j,q),hback j q hj,rfl⟩
 have hn:live.length=hs.length:=by have:=pm.length_eq;simpa using this
 have hf:((live.map (·.2)).filterMap (hs[·]?)).length=hs.length:=by rw[(pm.filterMap (hs[·]?)).length_eq];have:=filterMap_getElem?_range hs.toArray;simpa using congrArg List.length this
 refine⟨_,_,rfl,pm,rfl,rfl,rfl,b1I' hpw,?_,hm,?_,a8o' live λy hy=>?_⟩
 ·rw[hf];simpa using hn
 ·unfold SetTable.tooFull SetTable.fill;refine ZM ?_;simp;omega
 ·obtain⟨_,h,h1,h2⟩:=x.ok _ _ (hlive y hy);exact⟨h,h1,h2.mono λj ⟨q,hq⟩=>Zq.mpr ⟨(j,q),hback j q hq,rfl⟩⟩
end Py
variable {ow:Py.Owner}
namespace Py
def byT(w:World):Bool:=w.params.followText "set-order"
open SetTable (Probe turns)
abbrev TupK(prog:Program)(w:World)(h:Heap)(k:Li)(a:Addr):Prop:=IsTupleKey (intKind prog w) h k a
abbrev hK(prog:Program)(w:World)(k:Li):Int:=tupleKeyHash (intKind prog w) k
theorem TupK.kept{k:Li}(x:TupK prog w h k a)(kp:∀o,h.get? a=some o→h'.get? a=some o):TupK prog w h' k a:=by obtain⟨o,items,n,g,r⟩:=x;exact⟨o,items,n,kp o g,r⟩
theorem a4N'{k:Li}{vs:Lv}(h:ItemsAre (intKind prog w) k vs):∀v∈vs,∃i t,v=.int i t:=by
 induction h with
 |nil=>intro v hv;cases hv
 |cons h1 _ ih=>
  intro v hv;rcases Zo.mp hv with rfl|hv
  ·obtain⟨t,ht⟩:=Value.isInt_shape h1;exact⟨_,t,ht⟩
  ·exact ih v hv
theorem b0v'{k:Li}{Q:Bool→Shared→Prop}(x:TupK prog w s.heap k a)(q:Q false s):wpAny (model prog w) A (ofAClassStatement 8 (.ref a)) Q E s:=by
 have hT:=x.typeIs;obtain⟨o,items,n,ho,_,hd,hi⟩:=x;have hall:=a4N' hi;unfold ofAClassStatement;refine Za (wpAny_typeOf hT ?_);dsimp only;refine Za (Ze ?_);rw[if_neg (by decide)];refine Za (wpAny_seqItems ho hd ?_);dsimp only;refine Za ?_;rw[←Array.forIn_toList];refine wpAny_forIn_list _ (λrest r s'=>r.1=none∧s'=s∧∀v∈rest,∃i t,v=Value.int i t) _ ?_ ?_ _ _ ⟨rfl,rfl,hall⟩
 ·rintro v rest r s' ⟨hr,rfl,hv⟩;obtain⟨i,t,rfl⟩:=hv v Zd;refine Za (Ze ?_);rw[if_neg (by decide)];exact Ze ⟨rfl,rfl,λu hu=>hv u (Zb _ hu)⟩
 ·rintro⟨r1,r2⟩ s' ⟨hr,rfl,_⟩;simp only at hr;subst hr;exact Ze q
theorem byVal{k:Li}{Q:Bool→Shared→Prop}(x:TupK prog w s.heap k a)(q:Q true s):wpAny (model prog w) A (hashByValue 8 (.ref a)) Q E s:=by
 have hT:=x.typeIs;obtain⟨o,items,n,ho,_,hd,hi⟩:=x;have hall:=a4N' hi;unfold hashByValue;refine Za (wpAny_specialOf hT F.slot_tuple_hash.lookup ?_);dsimp only;refine Za (wpAny_seqItems ho hd ?_);dsimp only[Option.getD];refine Za ?_;rw[←Array.forIn_toList];refine wpAny_forIn_list _ (λrest r s'=>r.1=none∧s'=s∧∀v∈rest,∃i t,v=Value.int i t) _ ?_ ?_ _ _ ⟨rfl,rfl,hall⟩
 ·rintro v rest r s' ⟨hr,rfl,hv⟩;obtain⟨i,t,rfl⟩:=hv v Zd;refine Za (Ze ?_);rw[if_neg (by decide)];exact Ze ⟨rfl,rfl,λu hu=>hv u (Zb _ hu)⟩
 ·rintro⟨r1,r2⟩ s' ⟨hr,rfl,_⟩;simp only at hr;subst hr;exact Ze q
theorem unseen{k:Li}{b:Addr}(x:TupK prog w s.heap k b)(l:Lv){Q:Bool→Shared→Prop}(hl:∀v∈l,∃k' a',v=.ref a'∧TupK prog w s.heap k' a')(q:Q false s):wpAny (model prog w) A (searchCouldBeSeen (.ref b) l) Q E s:=by
 unfold searchCouldBeSeen;refine Za ?_;refine wpAny_forIn_list _ (λrest r s'=>r.1=none∧s'=s∧∀v∈rest,v∈l) _ ?_ ?_ _ _ ⟨rfl,rfl,λ_ h=>h⟩
 ·rintro v rest r s' ⟨hr,rfl,hv⟩;obtain⟨k',a',rfl,y⟩:=hl v (hv v Zd);have go:∀v∈rest,v∈l:=λu hu=>hv u (Zb _ hu);refine wpAny_ite ?_;by_cases hc:(b==a'||carriedByValue (.ref b)&&carriedByValue (.ref a'))=true
  ·rw[if_pos hc];exact Ze ⟨rfl,rfl,go⟩
  ·rw[if_neg hc];refine Za (wpAny_eqIsQuiet_tuple x ?_);rw[if_neg (by decide)];refine Za (wpAny_eqIsQuiet_tuple y ?_);rw[if_neg (by decide)];refine Za (b0v' x ?_);rw[if_neg (by decide)];refine Za (b0v' y ?_);rw[if_neg (by decide)];exact Ze ⟨rfl,rfl,go⟩
 ·rintro⟨r1,r2⟩ s' ⟨hr,rfl,_⟩;simp only at hr;subst hr;exact Ze q
end Py
namespace Py
open SetTable (Probe turns)
theorem a6q'{t:SetTable}(hr:Ris t.place){hashAt:Nat→Int}{h:Int}{p:Nat→Probe}{n:Nat}(bef:∀m,m<n→(p m).j∈t.place.toList):∀(d m:Nat),n-m=d→m≤n→
  ∃m',m≤m'∧m'≤n∧(∀i,m≤i→i<m'→∃q,t.slot (p i).j=.live q∧hashAt q≠h)∧(m'=n∨∃q,t.slot (p m').j=.live q∧hashAt q=h)
 |0,m,e,hm=>⟨m,Zk _,hm,λi h1 h2=>by omega,.inl (by omega)⟩
 |d+1,m,e,hm=>by
  obtain⟨q,_,_,hq⟩:=b0t' hr (bef m (by omega));by_cases z:hashAt q=h
  ·exact⟨m,Zk _,hm,λi h1 h2=>by omega,.inr ⟨q,hq,z⟩⟩
  ·obtain⟨m',h1,h2,h3,h4⟩:=a6q' hr bef d (m+1) (by omega) (by omega);refine⟨m',by omega,h2,λi hi1 hi2=>?_,h4⟩;by_cases zz:i=m
   ·subst zz;exact⟨q,hq,z⟩
   ·exact h3 i (by omega) hi2
noncomputable def entC(prog:Program)(w:World)(c:Li×Addr):Int×Value:=(hK prog w c.1,.ref c.2)
theorem msk_odd:∀m∈[7,31,127],(m%2==0)=false:=by decide
theorem a9G'{b:Addr}{t:SetTable}(g:s.heap.get? a=some o)(d:o.data=.set (cs.map (entC prog w)).toArray ep t)(x:Tk t (cs.map λc=>hK prog w c.1))(key:∀c∈cs,TupK prog w s.heap c.1 c.2)
  {k:Li} (hx:TupK prog w s.heap k b) (hu:A.units<cLine)  (hn:n<10*turns t.mask) (hol:(pos t.mask (stP t.mask (hK prog w k)) n).j∉t.place.toList) (bef:∀m,m<n→(pos t.mask (stP t.mask (hK prog w k)) m).j∈t.place.toList)
  {Q:SetFound→Shared→Prop} (there:k∈cs.map (·.1)→Q (.there none) s) (free:k∉cs.map (·.1)→Q (.free (pos t.mask (stP t.mask (hK prog w k)) n).j false) s):
  ∀(f m:Nat) (st:Option Probe),n-m<f→m≤n→st.getD (t.probeStart (hK prog w k))=pos t.mask (stP t.mask (hK prog w k)) m→(∀i,i<m→∀(q:Nat) (c),t.slot (pos t.mask (stP t.mask (hK prog w k)) i).j=.live q→cs[q]?=some c→c.1≠k)→
   wpAny (model prog w) A (setSearchFrom a (.ref b) (hK prog w k) true f st) Q E s:=by
 have hsz:(cs.map (entC prog w)).toArray.size=(cs.map λc=>hK prog w c.1).length:=by simp
 have fit:t.fits (cs.map (entC prog w)).toArray.size=true:=by rw[hsz];exact x.fits.2
 have hpl:t.place.size=cs.length:=by rw[x.siz,Zj]
 have hes:∀q:Nat,(cs.map (entC prog w)).toArray[q]?=cs[q]?.map (entC prog w):=λq=>by simp
 generalize hP:(λm=>pos t.mask (stP t.mask (hK prog w k)) m)=p;have hP':∀m,pos t.mask (stP t.mask (hK prog w k)) m=p m:=λm=>congrFun hP m;intro f
 induction f with
 |zero=>intro m st h;omega
 |succ f ih=>
  intro m st hf hm hst hno;obtain⟨m',h1,h2,h3,h4⟩:=a6q' (hashAt:=λi=>(((cs.map (entC prog w)).toArray[i]?).map (·.1)).getD 0) (h:=hK prog w k) x.ris (p:=p) (n:=n) (λm hm=>by rw[←hP'];exact bef m hm) (n-m) m rfl hm;have hpa:∀i,pos t.mask (p m) i=p (m+i):=λi=>by rw[←hP',←hP',a3U']
  obtain⟨g1,g2⟩:=b0u' (t:=t) (hashAt:=λi=>(((cs.map (entC prog w)).toArray[i]?).map (·.1)).getD 0) (h:=hK prog w k) (m'-m) (10*turns t.mask) (p m) (by omega) (by rw[←hP',a4n'];rfl) (λi hi=>by rw[hpa];exact h3 (m+i) (by omega) (by omega));rw[hpa,show m+(m'-m)=m' by omega]at g1 g2;rw[hpa,show m+(m'-m+1)=m'+1 by omega]at g2;have hat:∀(q:Nat) (c),cs[q]?=some c→(((cs.map (entC prog w)).toArray[q]?).map (·.1)).getD 0=hK prog w c.1:=λq c e=>by rw[hes,e];rfl
  unfold setSearchFrom;refine Za (wpAny_setState_of g d fit ?_);dsimp only;refine wpAny_ite ?_;rw[if_neg (by unfold SetTable.gaveWay;rw[msk_odd _ x.msk];decide),hst,hP'];generalize hz:t.probe _ _ _=met;rcases h4 with rfl| ⟨q,hq,hh⟩
  ·have hemp:t.slot (p m').j=.empty:=a8m' x.dum (by rw[←hP'];exact hol);have e:met=some (.empty (p m').j none):=hz.symm.trans (g1 hemp);subst e;dsimp only;rw[hP']at free;refine Ze (free λhk=>?_);obtain⟨c,hc,rfl⟩:=Zq.mp hk;obtain⟨q,hq,e⟩:=ZQ.mp hc;have hqp:q<t.place.size:=by omega
   have hlive:=b0s' x.ris hqp;have hc':cs[q]?=some c:=by rw[Zm hq,e]
   obtain⟨n0,e0,f0⟩:=x.fnd (hK prog w c.1,t.place[q]) (by refine ZQ.mpr ⟨q,by simp;omega,?_⟩;simp[e]);have e0:(p n0).j=t.place[q]:=by rw[←hP'];exact e0
   have hin:(p n0).j∈t.place.toList:=by rw[e0];simp
   have hlt:n0<m':=by
    by_cases z:n0<m'
    ·exact z
    ·by_cases zz:n0=m'
     ·subst zz;exact absurd (by rw[hP'];exact hin) hol
     ·exact absurd (f0 m' (by omega)) hol
   rw[←e0]at hlive;by_cases zz:n0<m
   ·exact hno n0 zz q c (by rw[hP'];exact hlive) hc' rfl
   ·obtain⟨q',hq',hne⟩:=h3 n0 (by omega) hlt;rw[hlive]at hq';cases hq';exact hne (hat q c hc')
  ·have e:met=some (.candidate (p m').j q (p (m'+1))):=hz.symm.trans (g2 q hq hh);subst e;dsimp only
   have hmn:m'<n:=by
    by_cases z:m'=n
    ·subst z;rw[a8m' x.dum (by rw[←hP'];exact hol)]at hq;cases hq
    ·omega
   obtain⟨q',hq1,hq2,hq3⟩:=b0t' x.ris (bef m' hmn);rw[hP',hq]at hq3;cases hq3;have hqc:q<cs.length:=by omega
   obtain⟨c,hc'⟩:∃c,cs[q]?=some c:=⟨_,Zm hqc⟩;have hmem:=Zv hc';have hy:=key c hmem;have heq:(cs.map (entC prog w)).toArray[q]?=some (hK prog w c.1,.ref c.2):=by rw[hes,hc'];rfl
   have rest:wpAny (model prog w) A (do
     let some (_,y):=(cs.map (entC prog w)).toArray[q]? |unsupported "internal:set-entry"
     let equal ←holding [y] (eqBool y (.ref b))
     let(es',_,t') ←setState a
     if true&&equal then return SetFound.there none
     let some same:=t'.sameMemory t.moves t.mask|unsupported "set.changed-during-lookup:is-the-new-block-at-the-old-address"
     let still ←match(if same then t'.slot (p m').j else .empty)with
      | .live i'=>match es'[i']? with
       |some (_,y')=>do pure (if ←isSame y' y then some i' else none)
       |none=>pure none
      |_=>pure none
     match still with
     |none=>rule "set.search.anew";setSearchFrom a (.ref b) (hK prog w k) true f none
     |some i'=>if equal then return .there (some i')else setSearchFrom a (.ref b) (hK prog w k) true f (some (p (m'+1)))) Q E s:=by
    rw[heq];dsimp only;refine Za (ZY (wpAny_eqBool_tuple hu hy hx ?_));refine Za (wpAny_setState_of g d fit ?_);dsimp only;by_cases hk:c.1=k
    ·rw[ZI hk];exact Ze (there (Zq.mpr ⟨c,hmem,hk⟩))
    ·rw[ZM hk];have hsm:t.sameMemory t.moves t.mask=some true:=by unfold SetTable.sameMemory;rw[if_pos (beq_self_eq_true _)]
     rw[hsm];dsimp only;simp only[Bool.and_false,Zr,Z0,if_true];rw[hq];dsimp only;rw[heq];dsimp only;refine Za (wpAny_isSame_ref_self (Za (Ze ?_)));rw[if_pos rfl];dsimp only;refine ih (m'+1) (some (p (m'+1))) (by omega) (by omega) (by rw[hP'];rfl) λi hi q' c' hs' hc2=>?_;rw[hP']at hs';by_cases z:i<m
     ·exact hno i z q' c' (by rw[hP'];exact hs') hc2
     ·by_cases zz:i=m'
      ·subst zz;rw[hq]at hs';cases hs';rw[hc']at hc2;cases hc2;exact hk
      ·obtain⟨q2,hq2',hne⟩:=h3 i (by omega) (by omega);rw[hs']at hq2';cases hq2';rw[hat _ _ hc2]at hne;exact λe=>hne (by rw[e])
   by_cases hl:t.led=true
   ·rw[hl];exact rest
   ·rw[Bool.eq_false_iff.mpr hl];refine wpAny_ite ?_;rw[if_pos (by decide)];refine Za (unseen hx _ (λv hv=>?_) ?_)
    ·obtain⟨e,he,rfl⟩:=Zq.mp hv;have he2:=(Array.mem_filter.mp (Array.mem_toList_iff.mp he)).1;have he3:e∈cs.map (entC prog w):=by simpa using he2
     obtain⟨c2,hc2,rfl⟩:=Zq.mp he3;exact⟨c2.1,c2.2,rfl,key c2 hc2⟩
    ·exact rest
end Py
namespace Py
open SetTable (Probe turns)
def ObK(prog:Program)(w:World)(h:Heap)(a:Addr)(cs:List (Li×Addr)):Prop:=∃o ep t,h.get? a=some o∧o.ExactSet∧o.data=.set (cs.map (entC prog w)).toArray ep t∧t.led=(!byT w)∧t.plain=true∧Tk t (cs.map λc=>hK prog w c.1)
structure SetK (prog:Program)(w:World)(h:Heap)(a:Addr)(cs:List (Li×Addr)):Prop where
 obj:ObK prog w h a cs
 key:∀c∈cs,TupK prog w h c.1 c.2
 nod:(cs.map (·.1)).Nodup
theorem a8p'{es es':Array (Int×Value)}{t t':SetTable}(g:h.get? a=some o)(ex:o.ExactSet)(d:o.data=.set es ep t):
  ∃o',(h.update a (Obj.putSet es' t')).get? a=some o'∧o'.ExactSet∧o'.data=.set es' (ep+1) t':=by
 have e:(h.update a (Obj.putSet es' t')).get? a=some (Obj.putSet es' t' o):=ZZ _ g (by rw[putSet_of es' t' d];rfl);rw[putSet_of es' t' d]at e;exact⟨_,e,ex,rfl⟩
theorem relay_k{t:SetTable}{Q:Unit→Shared→Prop}(g:s.heap.get? a=some o)(ex:o.ExactSet)(d:o.data=.set (cs.map (entC prog w)).toArray ep t)(fit:t.fits cs.length=true)
  (hm:MskT (SetTable.sizeAbove wanted-1)) (hl:cs.length*5<(SetTable.sizeAbove wanted-1)*3) (hw:SetTable.sizeAbove wanted≤128) (led:t.led=(!byT w)) (pl:t.plain=true)
  (fin:∀h' cs',Heap.SameBut a s.heap h'→cs'.Perm cs→ObK prog w h' a cs'→Q () {s with heap:=h'}):wpAny (model prog w) A (setRelay a wanted) Q E s:=by
 have fit':t.fits (cs.map (entC prog w)).toArray.size=true:=by rw[Zi,Zj];exact fit
 obtain⟨t',order,e1,pm,e2,e3,x⟩:=a9F' (t:=t) (hs:=cs.map λc=>hK prog w c.1) (wanted:=wanted) hm (by rw[Zj];exact hl);rw[Zj]at pm;have p1:(order.toList.filterMap (cs[·]?)).Perm cs:=by refine(pm.filterMap _).trans (.of_eq ?_);have:=filterMap_getElem?_range cs.toArray;simpa using this
 have x1:Tk t' ((order.toList.filterMap (cs[·]?)).map λc=>hK prog w c.1):=by
  have:order.toList.filterMap ((cs.map λc=>hK prog w c.1)[·]?)=(order.toList.filterMap (cs[·]?)).map λc=>hK prog w c.1:=by rw[List.map_filterMap];exact congrArg (List.filterMap · _) (funext λi=>ZB)
  rw[←this];exact x
 have e4:order.filterMap ((cs.map (entC prog w)).toArray[·]?)=((order.toList.filterMap (cs[·]?)).map (entC prog w)).toArray:=by apply Array.ext';rw[Array.toList_filterMap,List.map_filterMap];refine congrArg (List.filterMap · _) (funext λi=>?_);rw[List.getElem?_toArray,ZB]
 have hh:(cs.map (entC prog w)).toArray.map (·.1)=(cs.map λc=>hK prog w c.1).toArray:=by rw[List.map_toArray,ZL];rfl
 unfold setRelay;refine Za (wpAny_setState_of g d fit' ?_);dsimp only;refine wpAny_ite ?_;rw[if_neg (by rw[sizeLine_eq];omega),hh,e1];refine Za ?_;show wpAny _ _ (if((order.filterMap ((cs.map (entC prog w)).toArray[·]?)).size !=(cs.map (entC prog w)).toArray.size)=true then _ else _) _ _ _;rw[e4];generalize order.toList.filterMap (cs[·]?)=cs' at p1 x1
 have hsz:(cs'.map (entC prog w)).toArray.size=(cs.map (entC prog w)).toArray.size:=by rw[Zi,Zi,Zj,Zj,p1.length_eq]
 rw[hsz,bne_self_eq_false,if_neg (by decide)];refine Ze (wpAny_storeSet_of g d ?_ ?_)
 ·obtain⟨o1,g1,ex1,d1⟩:=a8p' (es':=(cs'.map (entC prog w)).toArray) (t':=t') g ex d;exact fin _ cs' (ZN ..) p1 ⟨o1,_,t',g1,ex1,d1,e2.trans led,e3.trans pl,x1⟩
 ·refine fits_of_scanBound ?_;rw[Zi,Zj,p1.length_eq];unfold scanBound;have:=(by simpa[MskT]using hm:SetTable.sizeAbove wanted-1=7∨SetTable.sizeAbove wanted-1=31∨SetTable.sizeAbove wanted-1=127);omega
theorem add_k{b:Addr}{k:Li}{Q:Bool→Shared→Prop}(x:SetK prog w s.heap a cs)(hx:TupK prog w s.heap k b)(hu:A.units<cLine)(few:cs.length<76)
  (fin:∀h' cs' r,Heap.SameBut a s.heap h'→SetK prog w h' a cs'→(∀k',k'∈cs'.map (·.1)↔k'∈cs.map (·.1)∨k'=k)→(∀c∈cs',c∈cs∨c=(k,b))→cs'.length≤cs.length+1→Q r {s with heap:=h'}):
  wpAny (model prog w) A (setAddHashed a (.ref b) (hK prog w k)) Q E s:=by
 obtain⟨o,ep,t,g,ex,d,led,pl,tk⟩:=x.obj;have ntup:∀{k':Li} {b':Addr},TupK prog w s.heap k' b'→b'≠a:=λ{k' b'} y e=>by obtain⟨o',_,_,g',_,d',_⟩:=y;subst e;rw[g]at g';cases g';rw[d]at d';cases d'
 have fit:t.fits (cs.map (entC prog w)).toArray.size=true:=by have:=tk.fits.2;rw[Zj]at this;rw[Zi,Zj];exact this
 have hsz:t.place.size=cs.length:=by rw[tk.siz,Zj]
 obtain⟨n,hn,hol,bef⟩:=a8l' tk.msk (pl:=t.place.toList) (by rw[ZF];exact tk.fits.1) (hK prog w k);have hmsk:=(by simpa[MskT]using tk.msk:t.mask=7∨t.mask=31∨t.mask=127);unfold setAddHashed setAddHashedIn;refine ZY (Za (wpAny_setState_of g d fit ?_));dsimp only;refine wpAny_ite ?_;rw[if_neg (show ¬byScan (.ref b) (cs.map (entC prog w)).toArray=true by unfold byScan;rw[show(Value.ref b).scannable=false from rfl];simp)];unfold setSearch;refine Za (a9G' g d tk x.key hx hu hn hol bef (λhin=>?_) (λhout=>?_) 100000 0 none (by unfold turns at hn;omega) (Nat.zero_le _) rfl (λi hi=>by omega))
 ·exact Ze (fin s.heap cs false (Heap.SameBut.refl ..) x (λk'=>⟨.inl,λz=>z.elim id λe=>e▸hin⟩) (λc hc=>.inl hc) (Nat.le_succ _))
 ·dsimp only;refine Za (wpAny_setState_of g d fit ?_);dsimp only;obtain⟨p1,p2,p3,p4,p5,p6,p7,p8⟩:=tk.put hol bef;generalize(pos t.mask (stP t.mask (hK prog w k)) n).j=j at*;rw[Zj]at p3;refine wpAny_ite ?_;rw[if_pos (show(t.put j).1.plain=true from p6.trans pl)];refine Za (byVal hx ?_);simp only[if_true];generalize hput:t.put j=r at*;obtain⟨t1,p⟩:=r;dsimp only at p1 p2 p3 p4 p5 p6 p7 p8⊢;have hes:SetTable.insertAt (cs.map (entC prog w)).toArray p (hK prog w k,Value.ref b)=((cs.take p++(k,b)::cs.drop p).map (entC prog w)).toArray:=by apply Array.ext';rw[SetTable.toList_insertAt,List.map_append,ZE,List.map_take,List.map_drop];rfl
  have hhs:(cs.take p++(k,b)::cs.drop p).map (λc=>hK prog w c.1)=(cs.map λc=>hK prog w c.1).take p++hK prog w k::(cs.map λc=>hK prog w c.1).drop p:=by rw[List.map_append,ZE,List.map_take,List.map_drop]
  rw[←hhs]at p8;rw[hes];have pm:(cs.take p++(k,b)::cs.drop p).Perm ((k,b)::cs):=by refine List.perm_middle.trans (.cons _ (.of_eq (List.take_append_drop p cs)))
  generalize cs.take p++(k,b)::cs.drop p=cs1 at p8 pm⊢;have hlen:cs1.length=cs.length+1:=by rw[pm.length_eq,Zy]
  have few1:(cs1.map (entC prog w)).toArray.size<scanBound:=by rw[Zi,Zj];unfold scanBound;omega
  have hes1:(cs.map (entC prog w)).toArray.size=cs.length:=by simp
  refine Za (wpAny_storeSet_of g d ?_ (fits_of_scanBound few1));obtain⟨o1,g1,ex1,d1⟩:=a8p' (es':=(cs1.map (entC prog w)).toArray) (t':=t1) g ex d;have sb1:=ZN s.heap a (Obj.putSet (cs1.map (entC prog w)).toArray t1)
  have done:∀h' cs',Heap.SameBut a s.heap h'→cs'.Perm cs1→ObK prog w h' a cs'→Q true {s with heap:=h'}:=λh' cs' sb pm' ob=>by
   have pm2:=pm'.trans pm
   have pk:∀c∈cs',c∈cs∨c=(k,b):=λc hc=>by
    rcases Zo.mp (pm2.mem_iff.mp hc)with e|e
    ·exact .inr e
    ·exact .inl e
   refine fin h' cs' true sb ⟨ob,λc hc=>?_,?_⟩ (λk'=>?_) pk (by rw[pm2.length_eq];exact Zk _)
   ·have y:TupK prog w s.heap c.1 c.2:=by
     rcases pk c hc with e|e
     ·exact x.key c e
     ·rw[e];exact hx
    exact y.kept λo e=>by rw[sb.2 c.2 (ntup y)];exact e
   ·refine((pm2.map (·.1)).nodup_iff).mpr ?_;rw[ZE,List.nodup_cons];exact⟨hout,x.nod⟩
   ·rw[(pm2.map (·.1)).mem_iff,ZE,Zo];exact Or.comm
  have hfill:t1.fill=cs.length+1:=by unfold SetTable.fill;rw[p3,p1];rfl
  cases hf:t1.tooFull with
  |false=>rw[if_neg (by decide)];refine Ze (done _ cs1 sb1 (.refl _) ⟨o1,_,t1,g1,ex1,d1,p5.trans led,p6.trans pl,p1,p2,by rw[Zj,p3,hlen],by rw[p4];exact tk.msk,hf,by rw[p4];exact p8⟩)
  |true=>
   rw[if_pos (by decide),hes1];refine Za ?_;have hfull:(cs.length+1)*5≥t.mask*3:=by unfold SetTable.tooFull at hf;rw[hfill,p4]at hf;exact of_decide_eq_true hf
   have hnot:¬(cs.length*5≥t.mask*3):=by have:=tk.ful;unfold SetTable.tooFull SetTable.fill at this;rw[tk.dum,hsz]at this;exact of_decide_eq_false this
   have hfit:t1.fits cs1.length=true:=by
    unfold SetTable.fits;rw[hfill,p3,hlen,p4];have:cs.length+1≤t.mask:=by omega
    simp[this]
   have hc:cs.length+1=5∨cs.length+1=19:=by omega
   refine relay_k (s:={s with heap:=s.heap.update a (Obj.putSet (cs1.map (entC prog w)).toArray t1)}) (cs:=cs1) g1 ex1 d1 hfit ?_ ?_ ?_ (p5.trans led) (p6.trans pl) λh' cs' sb pm' ob=>Ze (done h' cs' (sb1.trans sb) pm' ob)
   ·rcases hc with e|e<;>rw[e]<;>(unfold MskT;decide+kernel)
   ·rw[hlen];rcases hc with e|e<;>rw[e]<;>decide+kernel
   ·rcases hc with e|e<;>rw[e]<;>decide+kernel
end Py
namespace Py
section
variable {R:Result→Shared→Prop}{P:Nat→Value→Prop}{St:Nat→Heap→Prop}
end
section
variable {R:Result→Shared→Prop}{P:Nat→Value→Prop}{St:Nat→Heap→Prop}
end
theorem SetK.born(h:Heap):SetK prog w (h.push (setO (!byT w))) h.objs.size []:=⟨⟨_,0,_,Zl _ rfl,⟨rfl,rfl,rfl⟩,rfl,rfl,rfl,rfl,λi j hi=>absurd hi (Nat.not_lt_zero _),rfl,Zd,rfl,λx hx=>(by cases hx)⟩,λc hc=>(by cases hc),.nil⟩
theorem b0w':∀{xs:List D},xs.all (hasTy .int)=true→xs=(xs.filterMap asInt).map D.int
 | [],_=>rfl
 |x::xs,h=>by
  simp only[List.all_cons,Zt]at h;cases x with
  |int i=>simp only[List.filterMap_cons,asInt,ZE];rw[←b0w' h.2]
  |_=>simp[hasTy]at h
theorem a4o'{K:Fg}{mg:GS}{μ:La}{H:Hp}:∀{ns:Li} {vs:List V},RepL K mg μ H (ns.map D.int) vs→vs=ns.map V.int
 | [],vs,r=>by unfold RepL at r;subst r;rfl
 |n::ns,vs,r=>by obtain⟨v,ws,rfl,r1,r2⟩:=r.uncons;cases a0a' r1;rw[a4o' r2];rfl
theorem a5v':∀(ks acc:List (Li)),acc.Nodup→(ks.foldl (λacc k=>if acc.contains k=true then acc else acc++[k]) acc).Nodup∧∀k,k∈ks.foldl (λacc k=>if acc.contains k=true then acc else acc++[k]) acc↔k∈acc∨k∈ks
 | [],acc,h=>⟨h,λk=>by simp⟩
 |x::ks,acc,h=>by
  rw[List.foldl_cons];by_cases z:acc.contains x=true
  ·rw[if_pos z];obtain⟨a,b⟩:=a5v' ks acc h;refine⟨a,λk=>(b k).trans ?_⟩;have:x∈acc:=List.contains_iff_mem.mp z;constructor
   ·rintro(h|h)
    ·exact .inl h
    ·exact .inr (Zb _ h)
   ·rintro(h|h)
    ·exact .inl h
    ·rcases Zo.mp h with rfl|h
     ·exact .inl this
     ·exact .inr h
  ·rw[if_neg z];have hx:x∉acc:=λh=>z (List.contains_iff_mem.mpr h);obtain⟨a,b⟩:=a5v' ks (acc++[x]) (List.nodup_append.mpr ⟨h,by simp,λa ha b hb=>by simp at hb;subst hb;exact λe=>hx (e▸ha)⟩);refine⟨a,λk=>(b k).trans ?_⟩;simp[or_assoc]
theorem a3a'(ks:List (Li)):(dedT ks).Nodup∧∀k,k∈dedT ks↔k∈ks:=by obtain⟨a,b⟩:=a5v' ks [] List.nodup_nil;exact⟨a,λk=>(b k).trans (by simp)⟩
theorem a4O'{prog:Program}{w:World}:∀{k:Li} {its:Lv},Vals (k.map V.int) its→ItemsAre (intKind prog w) k its
 | [],its,r=>by cases r;exact .nil
 |n::k,its,r=>by
  cases r with
  |cons h1 h2=>obtain⟨t,rfl⟩:=h1;exact .cons (intKind_is _ _ _ _) (a4O' h2)
theorem a4P'{k:Li}(I:Inv X pq σ H s)(h:SqT X.K H a (k.map V.int)):TupK X.prog X.w s.heap k a:=by obtain⟨its,rv,pl,_⟩:=I.tuple h;obtain⟨o,g,c,n,d⟩:=pl;exact⟨o,its.toArray,n,g,c,d,a4O' rv⟩
section
variable {R:Result→Shared→Prop}{P:Nat→Value→Prop}{St:Nat→Heap→Prop}
end
theorem a6r'{α:Type}(f:Nat→Nat):∀(n k:Nat) (left:List α) (out:Array α),left.length=n→(pickOrder.go f n k left out).toList.Perm (out.toList++left)
 |0,k,left,out,h=>by have:left=[]:=ZJ h;subst this;unfold pickOrder.go;simp
 |n+1,k,left,out,h=>by
  have hl:f k%left.length<left.length:=Nat.mod_lt _ (by omega);unfold pickOrder.go;rw[Zm hl];dsimp only;refine(a6r' f n (k+1) _ _ (by rw[List.length_eraseIdx_of_lt hl];omega)).trans ?_;rw[Array.toList_push,List.append_assoc];refine List.Perm.append_left _ ?_;have:left=left.take (f k%left.length)++left[f k%left.length]::left.drop (f k%left.length+1):=by rw[←List.drop_eq_getElem_cons hl,List.take_append_drop]
  rw[List.eraseIdx_eq_take_drop_succ];refine List.Perm.trans ?_ (List.Perm.of_eq this.symm);rw[List.singleton_append];exact(List.perm_middle).symm
theorem b1M'(f:Nat→Nat)(xs:Array α):(pickOrder f xs).toList.Perm xs.toList:=by have:=a6r' f xs.size 0 xs.toList #[] (by simp);simpa[pickOrder]using this
noncomputable def walkE(w:World)(a:Addr)(ep:Nat)(es:Array (Int×Value)):List (Int×Value):=if byT w=true then(pickOrder (w.params.setOrder a ep) es).toList else es.toList
noncomputable def slotE(w:World)(ks:List Nat):Nat→Nat
 |0=>0
 |i+1=>if byT w=true then 0 else ks.getD i 0+1
theorem a2b'(w:World)(a:Addr)(ep:Nat)(es:Array (Int×Value)):(walkE w a ep es).Perm es.toList:=by
 unfold walkE;split
 ·exact b1M' _ _
 ·exact .refl _
structure TB (w:World)(t:SetTable)(n:Nat):Prop where
 fit:t.fits n=true
 led:t.led=(!byT w)
 pl:t.plain=true
 ris:Ris t.place
theorem TB.size{t:SetTable}(x:TB w t n):n=t.place.toList.length:=by have:=x.fit;unfold SetTable.fits at this;rw[Zt]at this;rw[ZF];exact(eq_of_beq this.1).symm
theorem next_c{t:SetTable}{es:Array (Int×Value)}{i:Nat}{Q:Option (Value×Nat)→Shared→Prop}(T:TB w t es.size)(g:s.heap.get? a=some o)(d:o.data=.set es ep t)(hi:i≤es.size)
  (fin:Q (((walkE w a ep es)[i]?).map λe=>(e.2,slotE w t.place.toList (i+1))) s):wpAny (model prog w) A (setNext a (slotE w t.place.toList i) i ep) Q E s:=by
 have hs:=T.size;have fit:=T.fit;unfold setNext;refine Za (wpAny_setState_of g d fit ?_);dsimp only;refine Za (m:=setsByText) (Za (wpAny_askSetting (Ze ?_)));cases hb:byT w with
 |true=>
  have hb':w.params.followText "set-order"=true:=hb;show wpAny _ _ (if(w.params.followText "set-order")=true then _ else _) _ _ _;rw[if_pos hb'];simp only[bne_self_eq_false,Zr,Z0];refine Za ?_;unfold setWalk;refine Za (wpAny_setState_of g d fit ?_);dsimp only;refine Za (m:=setsByText) (Za (wpAny_askSetting (Ze ?_)));show wpAny _ _ (if(w.params.followText "set-order")=true then _ else _) _ _ _;rw[if_pos hb'];refine Za (wpAny_askSetting (Ze (Ze ?_)));have e1:walkE w a ep es=(pickOrder (w.params.setOrder a ep) es).toList:=by unfold walkE;rw[if_pos hb]
  have e2:slotE w t.place.toList (i+1)=slotE w t.place.toList i:=by
   cases i with
   |zero=>simp[slotE,hb]
   |succ i=>simp[slotE,hb]
  rw[e1,e2,Array.getElem?_toList]at fin;exact fin
 |false=>
  have hb':w.params.followText "set-order"=false:=hb;show wpAny _ _ (if(w.params.followText "set-order")=true then _ else _) _ _ _;rw[if_neg (by rw[hb'];simp)];refine wpAny_ite ?_
  rw[if_neg (λz=>by have z:(!t.plain&&decide (es.size>1))=true:=z;rw[T.pl]at z;simp at z)];refine Za ?_;show wpAny _ _ (if(!t.led&& !es.isEmpty)=true then _ else pure ()) _ _ _;rw[if_neg (by rw[T.led,hb];simp)];refine Ze (Ze ?_);have hr:=T.ris;have e1:walkE w a ep es=es.toList:=by unfold walkE;rw[if_neg (by rw[hb];simp)]
  have hbe:SetTable.below t.place (slotE w t.place.toList i)=i:=by
   cases i with
   |zero=>exact a8f' _ hr
   |succ i=>
    have hlt:i<t.place.size:=by rw[ZF]at hs;omega
    have e:slotE w t.place.toList (i+1)=t.place[i]+1:=by show(if byT w=true then 0 else t.place.toList.getD i 0+1)=_;rw[hb];simp[hlt]
    rw[e];exact a8e' hr _
  rw[e1,Array.getElem?_toList]at fin;rw[hbe];by_cases hlt:i<es.size
  ·have hlk:i<t.place.size:=by rw[ZF]at hs;omega
   have e2:slotE w t.place.toList (i+1)=t.place[i]+1:=by show(if byT w=true then 0 else t.place.toList.getD i 0+1)=_;rw[hb];simp[hlk]
   rw[ZC hlt]at fin⊢;rw[e2]at fin;simpa[hlk]using fin
  ·rw[Array.getElem?_eq_none (by omega)]at fin⊢;exact fin
theorem a3V':Slot "set_iterator" "__next__" "set_iterator.__next__":=.of (owner:="set_iterator") (n:="__next__") (by rw[typeLookup_type,builtinLookup_eq_fast];kernel_rfl) (by decide+kernel) (by decide+kernel) (by decide+kernel) (by first|exact .inl (by decide+kernel)|exact .inr (by decide+kernel)) (by rw[isSubtype_type];kernel_rfl)
theorem a8q':Slot "set_iterator" "__iter__" "set_iterator.__iter__":=.of (owner:="set_iterator") (n:="__iter__") (by rw[typeLookup_type,builtinLookup_eq_fast];kernel_rfl) (by decide+kernel) (by decide+kernel) (by decide+kernel) (by first|exact .inl (by decide+kernel)|exact .inr (by decide+kernel)) (by rw[isSubtype_type];kernel_rfl)
theorem a9H':entryFor table "set_iterator.__iter__"=some Builtin.«dict_keyiterator.__iter__»:=entryFor_alias (id':="dict_keyiterator.__iter__") (by kernel_rfl) rfl (by decide+kernel) (by kernel_rfl)
theorem b1N'(v:Value):argsOk "set_iterator.__iter__" ⟨[v],[]⟩:=by unfold argsOk;kernel_rfl
theorem a8r':entryFor table "set_iterator.__next__"=some Builtin.«set_iterator.__next__»:=entryFor_of_tree (by kernel_rfl)
theorem b0x'(v:Value):argsOk "set_iterator.__next__" ⟨[v],[]⟩:=by unfold argsOk;kernel_rfl
theorem a4p':entryFor table "set.__iter__"=some Builtin.«frozenset.__iter__»:=entryFor_alias (id':="frozenset.__iter__") (by kernel_rfl) rfl (by decide+kernel) (by kernel_rfl)
def IsSI(h:Heap)(it a:Addr)(sl i n ep:Nat):Prop:=∃o,h.get? it=some o∧o.cls=.type "set_iterator"∧o.data=.fields #[.int sl 0,.int i 0,.ref a,.int n 0,.int ep 0]
theorem si_new{t:SetTable}{es:Array (Int×Value)}(T:TB w t es.size)(g:s.heap.get? a=some o)(ex:o.ExactSet)(d:o.data=.set es ep (t))
  (fin:Q (.ref s.heap.objs.size) {s with heap:=s.heap.push {cls:=.type "set_iterator",data:=.fields #[.int 0 0,.int 0 0,.ref a,.int es.size 0,.int ep 0]}}):wpAny (model prog w) A (pyIter (.ref a)) Q E s:=by
 have fit:=T.fit;have ty:s.TypeIs (.ref a) "set":=⟨o,g,ex.1⟩;refine wpAny_pyIter_slot ty F.slot_set_iter (ZH F.slot_set_iter ty a4p' ?_ (F.args_set_iter_1 _));unfold Builtin.«frozenset.__iter__» Builtin.Frozenset.slot0 Builtin.Frozenset.sizeOf;refine Za (Za (Ze (Ze ?_)));refine Za (Za (wpAny_setEntries_of g d fit (Ze ?_)));refine Za ?_;unfold setDrawn;refine Za (wpAny_setState_of g d fit ?_);dsimp only;refine Za (m:=setsByText) (Za (wpAny_askSetting (Ze (Ze ?_))))
 rw[if_neg (show ¬_ from λz=>by have z:(!(w.params.followText "set-order")&&(!t.plain&&decide (es.size>1)))=true:=z;rw[T.pl]at z;simp at z)];refine Za (Ze (Za (wpAny_setEpoch_of g d fit ?_)));exact Za (ZD (Ze ⟨_,rfl,"set_iterator",_,⟨_,Zl _ rfl,rfl⟩,a3V'.lookup,fin⟩))
theorem si_item{t:SetTable}{es:Array (Int×Value)}{i:Nat}{e:Int×Value}{Q:Ov→Shared→Prop}(hit:IsSI s.heap it a (slotE w t.place.toList i) i es.size ep)(T:TB w t es.size)(g:s.heap.get? a=some o)(d:o.data=.set es ep (t))
  (hx:(walkE w a ep es)[i]?=some e) (fin:∀h',IsSI h' it a (slotE w t.place.toList (i+1)) (i+1) es.size ep→Heap.SameBut it s.heap h'→Q (some e.2) {s with heap:=h'}):wpAny (model prog w) A (pyNext (.ref it)) Q E s:=by
 obtain⟨oi,gi,ci,di⟩:=id hit;have fit:=T.fit;have ty:s.TypeIs (.ref it) "set_iterator":=⟨oi,gi,ci⟩
 have hi:i≤es.size:=by have h1:=(Zh.mp hx).1;rw[(a2b' w a ep es).length_eq,ZF]at h1;omega
 unfold pyNext;refine Za (wpAny_attempt (ZP (name:=Str.ofString "__next__") ty a3V' (ZH a3V' ty a8r' ?_ (b0x' _))));unfold Builtin.«set_iterator.__next__»;refine Za (Ze ?_);refine Za (wpAny_fieldsOf gi di ?_);dsimp only;refine Za (wpAny_setEntries_of g d fit ?_);rw[if_neg (by simp)];refine Za (m:=setNext a (Int.toNat (slotE w t.place.toList i:Nat)) (Int.toNat (i:Nat)) (Int.toNat (ep:Nat))) ?_;rw[ZK,ZK,ZK];refine next_c T g d hi ?_;rw[hx];dsimp only[Option.map_some];refine Za (wpAny_setField gi di (by simp) ?_);have g1:=ZZ (Obj.mapFields (·.setIfInBounds 0 (rawInt (slotE w t.place.toList (i+1):Nat)))) gi (Obj.isFreed_of_fields (Obj.data_mapFields di _));have d1:=Obj.data_mapFields di (·.setIfInBounds 0 (rawInt (slotE w t.place.toList (i+1):Nat)));refine Za (wpAny_setField (s:={s with heap:=s.heap.update it (Obj.mapFields (·.setIfInBounds 0 (rawInt (slotE w t.place.toList (i+1):Nat))))}) g1 d1 (by simp) ?_);have g2:=ZZ (Obj.mapFields (·.setIfInBounds 1 (rawInt ((i:Int)+1)))) g1 (Obj.isFreed_of_fields (Obj.data_mapFields d1 _));have d2:=Obj.data_mapFields d1 (·.setIfInBounds 1 (rawInt ((i:Int)+1)));refine Ze ⟨_,rfl,Ze (fin _ ⟨_,g2,?_,?_⟩ ((ZN _ it _).trans (ZN _ it _)))⟩
 ·rw[Obj.cls_mapFields,Obj.cls_mapFields];exact ci
 ·rw[d2];simp[rawInt]
theorem si_end{t:SetTable}{es:Array (Int×Value)}{Q:Ov→Shared→Prop}(calm:A.handled=none)(hit:IsSI s.heap it a (slotE w t.place.toList es.size) es.size es.size ep)(T:TB w t es.size)(g:s.heap.get? a=some o)(d:o.data=.set es ep (t))
  (fin:∀h',Heap.ExtBut it s.heap h'→Q none {s with heap:=h'}):wpAny (model prog w) A (pyNext (.ref it)) Q E s:=by
 obtain⟨oi,gi,ci,di⟩:=id hit;have fit:=T.fit;have ty:s.TypeIs (.ref it) "set_iterator":=⟨oi,gi,ci⟩;unfold pyNext;refine Za (wpAny_attempt (ZP (name:=Str.ofString "__next__") ty a3V' (ZH a3V' ty a8r' ?_ (b0x' _))));unfold Builtin.«set_iterator.__next__»;refine Za (Ze ?_);refine Za (wpAny_fieldsOf gi di ?_);dsimp only;refine Za (wpAny_setEntries_of g d fit ?_);rw[if_neg (by simp)];refine Za (m:=setNext a (Int.toNat (slotE w t.place.toList es.size:Nat)) (Int.toNat (es.size:Nat)) (Int.toNat (ep:Nat))) ?_;rw[ZK,ZK,ZK];refine next_c T g d (Zk _) ?_;rw[List.getElem?_eq_none (by rw[(a2b' w a ep es).length_eq,ZF];exact Zk _)];dsimp only[Option.map_none];refine Za (wpAny_setField gi di (by simp) (Za ?_));simp only[newExc,newTuple];refine Za (ZD (Za (m:=firstArgMember _ _) (wpAny_of_eq (a:=Value.none) (by first|rfl| (simp only[firstArgMember];rfl)) (ZD ?_ (by size_fits)))) (by size_fits));simp only[raiseNew];refine Za (wpAny_handled ?_);rw[show A.in1.handled=none from calm];refine Za (Ze (wpAny_throw ?_));exact Za (wpAny_isInstance (T:="StopIteration") (b:=true) ⟨_,Zl _ rfl,rfl⟩ isSubtype_stop (Ze (fin _ (((ZN ..).extBut.push _).push _))))
theorem Walks.setC(calm:A.handled=none)(hne:a≠it){t:SetTable}{es:Array (Int×Value)}(T:TB w t es.size)(d:o.data=.set es ep (t)):
  Walks prog w A it [it,a] [it] es.size (λi v=>∃e,(walkE w a ep es)[i]?=some e∧v=e.2) (λi h=>IsSI h it a (slotE w t.place.toList i) i es.size ep∧h.get? a=some o) where
 sub:=λb hb=>by simp at hb;simp[hb]
 frame:=λi h h' st k=>by obtain⟨⟨oi,gi,ri⟩,g⟩:=st;exact⟨⟨oi,k it (by simp) oi gi,ri⟩,k a (by simp) o g⟩
 item:=λi s Q E hi st hQ=>by
  have hl:i<(walkE w a ep es).length:=by rw[(a2b' w a ep es).length_eq,ZF];exact hi
  refine si_item st.1 T st.2 d (e:=(walkE w a ep es)[i]) (Zm hl) λh' hit' sb=>?_;refine hQ _ h' s.toks ⟨_,Zm hl,rfl⟩ ⟨hit',sb.extBut a o hne st.2⟩ λb o hb e=>sb.extBut b o (λh=>hb (by simp[h])) e
 done:=λs Q E st hQ=>si_end calm st.1 T st.2 d λh' he=>hQ h' s.toks λb o hb e=>he b o (λh=>hb (by simp[h])) e
 self:=λi s Q E st hQ=>by obtain⟨⟨oi,gi,ci,di⟩,_⟩:=st;have ty:s.TypeIs (.ref it) "set_iterator":=⟨oi,gi,ci⟩;exact wpAny_pyIter_slot ty a8q' (ZH a8q' ty a9H' (Ze ⟨_,rfl,"set_iterator",_,ty,a3V'.lookup,hQ⟩) (b1N' _))
theorem a6P'{t:SetTable}{es:Array (Int×Value)}{Q:Lv→Shared→Prop}(calm:A.handled=none)(T:TB w t es.size)(g:s.heap.get? a=some o)(ex:o.ExactSet)(d:o.data=.set es ep t)(few:es.size<1000)
  (fin:∀(h':Heap) (tk:Nat) (vs:Lv),(∀b o,s.heap.get? b=some o→h'.get? b=some o)→vs.Perm (es.toList.map (·.2))→Q vs {s with heap:=h',toks:=tk}):wpAny (model prog w) A (collect (.ref a)) Q E s:=by
 have ha:=Zn g;unfold collect;refine Za (wpAny_runValue (codeAny_builtin F.entry_proto_collect ?_));rw[Around.under_plainId F.plain_proto_collect];refine Za (m:=newList []) (ZD (Ze ⟨plainId_quiet F.plain_list_iadd _,codeAny_builtin F.entry_list_iadd ?_⟩));rw[Around.under_plainId F.plain_list_iadd];generalize hS:s.heap.objs.size=S;have hl:(s.heap.push {cls:=.type "list",data:=.seq ([]:Lv).toArray}).get? S=some {cls:=.type "list",data:=.seq #[]}:=by rw[←hS];exact Zl _ rfl
 have g1:(s.heap.push {cls:=.type "list",data:=.seq ([]:Lv).toArray}).get? a=some o:=Zc _ g;have k1:∀b o,s.heap.get? b=some o→(s.heap.push {cls:=.type "list",data:=.seq ([]:Lv).toArray}).get? b=some o:=λ_ _ e=>Zc _ e;generalize s.heap.push {cls:=.type "list",data:=.seq ([]:Lv).toArray}=h1 at hl g1 k1⊢;have ty:Shared.TypeIs {s with heap:=h1} (.ref a) "set":=⟨o,g1,ex.1⟩;show wpAny _ A.in1 (Builtin.List.listExtendWith (.ref S) (.ref a) (.ref S)) _ _ _;unfold Builtin.List.listExtendWith;refine Za (wpAny_typeOf ty ?_)
 rw[if_neg (by
  have:S≠a:=by rw[←hS];exact Nat.ne_of_gt ha
  simp[Builtin.List.listSameRef,this])]
 refine Za (si_new T g1 ex d ?_);have hn1:S<h1.objs.size:=Zn hl;have ha1:a<h1.objs.size:=Zn g1;have k2:∀b o,h1.get? b=some o→(h1.push {cls:=.type "set_iterator",data:=.fields #[.int 0 0,.int 0 0,.ref a,.int es.size 0,.int ep 0]}).get? b=some o:=λ_ _ e=>Zc _ e;have hit:IsSI (h1.push {cls:=.type "set_iterator",data:=.fields #[.int 0 0,.int 0 0,.ref a,.int es.size 0,.int ep 0]}) h1.objs.size a (slotE w t.place.toList 0) 0 es.size ep:=⟨_,Zl _ rfl,rfl,rfl⟩;show wpAny _ A.in1 _ _ _ {s with heap:=h1.push {cls:=.type "set_iterator",data:=.fields #[.int 0 0,.int 0 0,.ref a,.int es.size 0,.int ep 0]}};generalize h1.push {cls:=.type "set_iterator",data:=.fields #[.int 0 0,.int 0 0,.ref a,.int es.size 0,.int ep 0]}=h2 at k2 hit⊢;have ty2:Shared.TypeIs {s with heap:=h2} (.ref a) "set":=⟨o,k2 a o g1,ex.1⟩;refine Za (ZY ?_);unfold Builtin.List.listLengthHint;refine Za (wpAny_specialOf ty2 F.slot_set_len.lookup ?_);have sp:splitId "set.__len__"=some ("set","__len__"):=by decide+kernel
 dsimp only;rw[sp];dsimp only;refine Za (wpAny_isInstance (b:=true) ty2 (by rw[isSubtype_type];kernel_rfl) ?_);rw[if_neg (show ¬((!true)=true)by decide)];refine wpAny_ite ?_;rw[if_pos]
 rotate_left
 ·decide+kernel
 refine Za (wpAny_typeOf ty2 (Ze ?_));refine wpAny_ite ?_;rw[if_pos]
 rotate_left
 ·decide+kernel
 refine Za (wpAny_rule ?_);have hl2:=k2 S _ hl;refine Za (m:=Builtin.List.listTouch (.ref S)) (Za (m:=updateSeq S (·.push .none)) (wpAny_updateSeq hl2 rfl ?_));have hl3:=ZZ (Obj.mapSeq (·.push Value.none)) hl2 rfl;refine wpAny_updateSeq hl3 rfl ?_;have hl4:=ZZ (Obj.mapSeq (·.pop)) hl3 rfl;have k4:∀b o,b≠S→h2.get? b=some o→((h2.update S (Obj.mapSeq (·.push Value.none))).update S (Obj.mapSeq (·.pop))).get? b=some o:=λb o nb e=>(Heap.get?_update_other _ _ (Ne.symm nb)).trans ((Heap.get?_update_other _ _ (Ne.symm nb)).trans e);have hSa:a≠S:=by rw[←hS];exact Zw ha
 have hSi:h1.objs.size≠S:=Nat.ne_of_gt hn1;have out:S∉[h1.objs.size,a]:=by simp only[Zo,ZO,or_false,not_or];exact⟨Ne.symm hSi,Ne.symm hSa⟩
 have W:=(Walks.setC (A:=A.in1) (prog:=prog) (w:=w) (by simpa using calm) (Zw ha1) (it:=h1.objs.size) (o:=o) (ep:=ep) T d).toS;refine Ze ⟨plainId_quiet F.plain_extend_loop _,codeAny_extend_loopS W (by rw[sizeLine_eq];omega) S out _ es.size 0 _ _ _ rfl (Nat.zero_le _) ⟨?_,k4 a o hSa (k2 a o g1)⟩ hl4 ?_ λs' acc' c' mv hS' it'=>?_⟩
 ·obtain⟨oi,gi,ri⟩:=hit;exact⟨oi,k4 _ oi hSi gi,ri⟩
 ·exact ItemsOf.nil _
 ·refine Za (wpAny_load hS' (Ze ?_));obtain⟨h',g',d',tk',os'⟩:=s';obtain⟨mh,mg,md,mo,_⟩:=mv;have eg:g'=s.gens:=mg;have ed:d'=s.drawn:=md;have eo:os'=s.os:=mo;subst eg ed eo;refine fin h' tk' _ (λb o' e=>?_) ?_
  ·have hb:=Zn (k1 b o' e);have hb0:=Zn e;have nS:b≠S:=by rw[←hS];exact Zw hb0
   refine mh b o' ?_ (k4 b o' nS (k2 b o' (k1 b o' e)));simp only[Zo,ZO,or_false,not_or];exact⟨nS,Zw hb⟩
  ·have el:acc'.toList=(walkE w a ep es).map (·.2):=by
    refine List.ext_getElem? λj=>?_;rw[Array.getElem?_toList,ZB];have hz:(walkE w a ep es).length=es.size:=by rw[(a2b' w a ep es).length_eq,ZF]
    by_cases hj:j<acc'.size
    ·obtain⟨e,h1,h2⟩:=it'.2 j _ (ZC hj);rw[ZC hj,h1,h2];rfl
    ·have h0:=it'.1;rw[Array.getElem?_eq_none (by omega),List.getElem?_eq_none (by omega)];rfl
   rw[el];exact(a2b' w a ep es).map _
open PySem PySem.W PyProof.Rows
noncomputable def kRun{α:Type}(c:Nat→Nat→Bool):KasT α→α
 | .ret a=>a
 | .ask i j k=>kRun c (k (c i j))
def kIn{α:Type}(n:Nat)(c:Nat→Nat→Bool):KasT α→Prop
 | .ret _=>True
 | .ask i j k=>i<n∧j<n∧kIn n c (k (c i j))
theorem a1H'{α β:Type}(c:Nat→Nat→Bool)(f:α→KasT β):∀t:KasT α,kRun c (t.bind f)=kRun c (f (kRun c t))
 | .ret _=>rfl
 | .ask i j k=>a1H' c f (k (c i j))
theorem a1u'{α β:Type}{n:Nat}{c:Nat→Nat→Bool}{f:α→KasT β}:∀{t:KasT α},kIn n c t→kIn n c (f (kRun c t))→kIn n c (t.bind f)
 | .ret _,_,h=>h
 | .ask i j k,h1,h2=>⟨h1.1,h1.2.1,a1u' h1.2.2 h2⟩
theorem kWp{α:Type}{n:Nat}{c:Nat→Nat→Bool}{cmp:Nat→Nat→(Bool→Shared→Prop)→Shared→Prop}{s:Shared}(h:∀i j C,i<n→j<n→C (c i j) s→cmp i j C s){G:α→Shared→Prop}:∀{t:KasT α},kIn n c t→G (kRun c t) s→t.kasWp cmp G s
 | .ret _,_,g=>g
 | .ask i j k,hi,g=>h i j _ hi.1 hi.2.1 (kWp h hi.2.2 g)
structure SOrd (n:Nat)(c:Nat→Nat→Bool):Prop where
 irr:∀i,i<n→c i i=false
 asym:∀i j,i<n→j<n→c i j=true→c j i=false
 ntr:∀i j k,i<n→j<n→k<n→c i j=false→c j k=false→c i k=false
structure PA' (n:Nat)(p:Array Nat):Prop where
 size:p.size=n
 perm:p.Perm (List.range n).toArray
theorem PA'.lt{p:Array Nat}(h:PA' n p)(hn:0<n)(k:Nat):p.getD k 0<n:=by
 unfold Array.getD;split
 ·rename_i hk;have hm:p[k]∈p:=Array.getElem_mem hk;have h2:p[k]∈(List.range n).toArray:=h.perm.mem_iff.mp hm;simpa using h2
 ·exact hn
theorem b0y'{p q:Array Nat}{i j:Nat}(h:p[i]?=q[j]?):p.getD i 0=q.getD j 0:=by rw[Array.getD_eq_getD_getElem?,Array.getD_eq_getD_getElem?,h]
section
variable {c:Nat→Nat→Bool}
def Up(c:Nat→Nat→Bool)(p:Array Nat)(k:Nat):Prop:=∀i,i+1<k→c (p.getD (i+1) 0) (p.getD i 0)=false
def Dn(c:Nat→Nat→Bool)(p:Array Nat)(k:Nat):Prop:=∀i,i+1<k→c (p.getD i 0) (p.getD (i+1) 0)=false
theorem Up.all(o:SOrd n c)(hn:0<n){p:Array Nat}(P:PA' n p)(h:Up c p k):∀d i,i+d<k→c (p.getD (i+d) 0) (p.getD i 0)=false:=by
 intro d
 induction d with
 |zero=>intro i hi;exact o.irr _ (P.lt hn _)
 |succ d ih=>intro i hi;exact o.ntr _ (p.getD (i+d) 0) _ (P.lt hn _) (P.lt hn _) (P.lt hn _) (h (i+d) (by omega)) (ih i (by omega))
theorem Up.le(o:SOrd n c)(hn:0<n){p:Array Nat}(P:PA' n p)(h:Up c p k){i j:Nat}(hij:i≤j)(hj:j<k):c (p.getD j 0) (p.getD i 0)=false:=by
 have:=h.all o hn P (j-i) i (by omega)
 rwa [show i+(j-i)=j by omega]at this
theorem a9I'{p:Array Nat}(P:PA' n p)(i j:Nat):PA' n (kas_rev p i j):=⟨by unfold kas_rev;rw[mirror_size];exact P.size,(mirror_perm _ _ _ _).trans P.perm⟩
theorem a4Q'{p:Array Nat}(P:PA' n p){i j:Nat}(hj:j≤n)(hk:i≤k∧k<j):(kas_rev p i j).getD k 0=p.getD (i+j-1-k) 0:=b0y' (by unfold kas_rev;rw[getElem?_mirror_all (by rw[P.size];exact hj),if_pos hk])
theorem a3W'{p:Array Nat}(P:PA' n p){i j:Nat}(hj:j≤n)(hk:¬(i≤k∧k<j)):(kas_rev p i j).getD k 0=p.getD k 0:=b0y' (by unfold kas_rev;rw[getElem?_mirror_all (by rw[P.size];exact hj),if_neg hk])
theorem b1O'(hn:0<n){p:Array Nat}(P:PA' n p):∀(f m:Nat),Up c p m→1≤m→kIn n c (kas_asc p f m)∧m≤kRun c (kas_asc p f m)∧kRun c (kas_asc p f m)≤m+f∧Up c p (kRun c (kas_asc p f m))∧
  (kRun c (kas_asc p f m)<m+f→c (p.getD (kRun c (kas_asc p f m)) 0) (p.getD (kRun c (kas_asc p f m)-1) 0)=true)
 |0,m,h,h1=>⟨trivial,Zk _,Zk _,h,λz=>absurd z (Z1 _)⟩
 |f+1,m,h,h1=>by
  unfold kas_asc;simp only[kIn,kRun];cases e:c (p.getD m 0) (p.getD (m-1) 0)with
  |true=>simp only[if_true,kRun,kIn,and_true];exact⟨⟨P.lt hn _,P.lt hn _⟩,Zk _,by omega,h,λ_=>e⟩
  |false=>
   simp only[Zr,Z0]
   have h':Up c p (m+1):=λi hi=>by
    by_cases z:i+1<m
    ·exact h i z
    ·have:i=m-1:=by omega
     subst this;rw[show m-1+1=m by omega];exact e
   obtain⟨a1,a2,a3,a4,a5⟩:=b1O' hn P f (m+1) h' (by omega);exact⟨⟨P.lt hn _,P.lt hn _,a1⟩,by omega,by omega,a4,λz=>a5 (by omega)⟩
def Eqs(c:Nat→Nat→Bool)(p:Array Nat)(i j:Nat):Prop:=∀a b,i≤a→a<j→i≤b→b<j→c (p.getD a 0) (p.getD b 0)=false
theorem b0z'{p:Array Nat}(P:PA' n p){i j:Nat}(hj:j≤n)(h:Eqs c p i j):Eqs c (kas_rev p i j) i j:=λa b h1 h2 h3 h4=>by rw[a4Q' P hj ⟨h1,h2⟩,a4Q' P hj ⟨h3,h4⟩];exact h _ _ (by omega) (by omega) (by omega) (by omega)
theorem dn_rev(o:SOrd n c)(hn:0<n){p:Array Nat}(P:PA' n p){i j:Nat}(hj:j≤n)(hk:k≤n)(h:Dn c p k)(e:Eqs c p i j):Dn c (kas_rev p i j) k:=λa ha=>by
 by_cases z1:i≤a∧a<j
 ·by_cases z2:i≤a+1∧a+1<j
  ·exact b0z' P hj e a (a+1) z1.1 z1.2 z2.1 z2.2
  ·rw[a4Q' P hj z1,a3W' P hj z2];have q1:=e (i+j-1-a) a (by omega) (by omega) z1.1 z1.2;exact o.ntr _ _ _ (P.lt hn _) (P.lt hn _) (P.lt hn _) q1 (h a ha)
 ·by_cases z2:i≤a+1∧a+1<j
  ·rw[a3W' P hj z1,a4Q' P hj z2];have q1:=e (a+1) (i+j-1-(a+1)) z2.1 z2.2 (by omega) (by omega);exact o.ntr _ _ _ (P.lt hn _) (P.lt hn _) (P.lt hn _) (h a ha) q1
  ·rw[a3W' P hj z1,a3W' P hj z2];exact h a ha
theorem a6s'(o:SOrd n c)(hn:0<n):∀(f:Nat) (p:Array Nat) (m q:Nat),PA' n p→Dn c p m→Eqs c p (m-(q+1)) m→q+1≤m→m+f≤n→
  kIn n c (kas_desc f p m q)∧PA' n (kRun c (kas_desc f p m q)).1∧Dn c (kRun c (kas_desc f p m q)).1 (kRun c (kas_desc f p m q)).2.1∧
   Eqs c (kRun c (kas_desc f p m q)).1 ((kRun c (kas_desc f p m q)).2.1-((kRun c (kas_desc f p m q)).2.2+1)) (kRun c (kas_desc f p m q)).2.1∧(kRun c (kas_desc f p m q)).2.2+1≤(kRun c (kas_desc f p m q)).2.1∧m≤(kRun c (kas_desc f p m q)).2.1∧(kRun c (kas_desc f p m q)).2.1≤m+f
 |0,p,m,q,P,h,e,hq,hm=>⟨trivial,P,h,e,hq,Zk _,Zk _⟩
 |f+1,p,m,q,P,h,e,hq,hm=>by
  unfold kas_desc;simp only[kIn,kRun];cases ec:c (p.getD m 0) (p.getD (m-1) 0)with
  |true=>
   simp only[if_true];have as:=o.asym _ _ (P.lt hn _) (P.lt hn _) ec
   have one:∀(p':Array Nat),PA' n p'→Dn c p' m→c (p'.getD (m-1) 0) (p'.getD m 0)=false→Dn c p' (m+1)∧Eqs c p' (m+1-(0+1)) (m+1):=λp' P' d' z=>⟨λi hi=>by
    by_cases y:i+1<m
    ·exact d' i y
    ·have:i=m-1:=by omega
     subst this;rw[show m-1+1=m by omega];exact z,λa b h1 h2 h3 h4=>by
    have:a=m:=by omega
    have:b=m:=by omega
    subst a;subst b;exact o.irr _ (P'.lt hn _)⟩
   by_cases hz:q>0
   ·rw[if_pos hz];have P':=a9I' P (m-(q+1)) m;have d':=dn_rev o hn P (by omega:m≤n) (by omega:m≤n) h e
    have z:c ((kas_rev p (m-(q+1)) m).getD (m-1) 0) ((kas_rev p (m-(q+1)) m).getD m 0)=false:=by rw[a4Q' P (by omega) (by omega),a3W' P (by omega) (by omega)];exact o.ntr _ (p.getD (m-1) 0) _ (P.lt hn _) (P.lt hn _) (P.lt hn _) (e _ (m-1) (by omega) (by omega) (by omega) (by omega)) as
    obtain⟨k1,k2⟩:=one _ P' d' z;obtain⟨a1,a2,a3,a4,a5,a6,a7⟩:=a6s' o hn f _ (m+1) 0 P' k1 k2 (by omega) (by omega);exact⟨⟨P.lt hn _,P.lt hn _,a1⟩,a2,a3,a4,a5,by omega,by omega⟩
   ·rw[if_neg hz];obtain⟨k1,k2⟩:=one p P h as;obtain⟨a1,a2,a3,a4,a5,a6,a7⟩:=a6s' o hn f p (m+1) 0 P k1 k2 (by omega) (by omega);exact⟨⟨P.lt hn _,P.lt hn _,a1⟩,a2,a3,a4,a5,by omega,by omega⟩
  |false=>
   simp only[Zr,Z0,kIn,kRun];cases ed:c (p.getD (m-1) 0) (p.getD m 0)with
   |true=>simp only[if_true,kRun,kIn,and_true];exact⟨⟨P.lt hn _,P.lt hn _,P.lt hn _,P.lt hn _⟩,P,h,e,hq,Zk _,by omega⟩
   |false=>
    simp only[Zr,Z0]
    have d':Dn c p (m+1):=λi hi=>by
     by_cases y:i+1<m
     ·exact h i y
     ·have:i=m-1:=by omega
      subst this;rw[show m-1+1=m by omega];exact ed
    have e':Eqs c p (m+1-(q+1+1)) (m+1):=λa b h1 h2 h3 h4=>by
     have r1:∀a,m+1-(q+1+1)≤a→a<m+1→c (p.getD a 0) (p.getD (m-1) 0)=false:=λa h1 h2=>by
      by_cases y:a=m
      ·subst y;exact ec
      ·exact e a (m-1) (by omega) (by omega) (by omega) (by omega)
     have r2:∀a,m+1-(q+1+1)≤a→a<m+1→c (p.getD (m-1) 0) (p.getD a 0)=false:=λa h1 h2=>by
      by_cases y:a=m
      ·subst y;exact ed
      ·exact e (m-1) a (by omega) (by omega) (by omega) (by omega)
     exact o.ntr _ _ _ (P.lt hn _) (P.lt hn _) (P.lt hn _) (r1 a h1 h2) (r2 b h3 h4)
    obtain⟨a1,a2,a3,a4,a5,a6,a7⟩:=a6s' o hn f p (m+1) (q+1) P d' e' (by omega) (by omega);exact⟨⟨P.lt hn _,P.lt hn _,P.lt hn _,P.lt hn _,a1⟩,a2,a3,a4,a5,by omega,by omega⟩
structure Cnt (n:Nat)(c:Nat→Nat→Bool)(r:Nat×Array Nat):Prop where
 pa:PA' n r.2
 up:Up c r.2 r.1
 pos:1≤r.1
 le:r.1≤n
theorem a8s'(hn:0<n){p:Array Nat}(P:PA' n p){m:Nat}(h:Dn c p m)(h1:1≤m)(hm:m≤n):kIn n c (kas_tail3 m n p)∧Cnt n c (kRun c (kas_tail3 m n p)):=by
 have P':=a9I' P 0 m
 have u:Up c (kas_rev p 0 m) m:=λi hi=>by
  rw[a4Q' P hm (by omega),a4Q' P hm (by omega)];have:=h (0+m-1-(i+1)) (by omega)
  rwa [show 0+m-1-(i+1)+1=0+m-1-i by omega]at this
 obtain⟨a1,a2,a3,a4,a5⟩:=b1O' (c:=c) hn P' (n-m) m u h1;unfold kas_tail3;rw[a1H'];exact⟨a1u' a1 trivial,P',a4,ZS h1 a2,by show kRun c (kas_asc (kas_rev p 0 m) (n-m) m)≤n;omega⟩
theorem a3X'(o:SOrd n c)(hn:0<n){p:Array Nat}(P:PA' n p){m:Nat}(h:Dn c p (m+1))(hm:m+1≤n):kIn n c (kas_descPart m n p)∧Cnt n c (kRun c (kas_descPart m n p)):=by
 obtain⟨a1,a2,a3,a4,a5,a6,a7⟩:=a6s' o hn (n-(m+1)) p (m+1) 0 P h (λa b h1 h2 h3 h4=>by
  have:a=b:=by omega
  subst this;exact o.irr _ (P.lt hn _)) (by omega) (by omega)
 unfold kas_descPart;rw[a1H'];by_cases z:(kRun c (kas_desc (n-(m+1)) p (m+1) 0)).2.2>0
 ·have P':=a9I' a2 ((kRun c (kas_desc (n-(m+1)) p (m+1) 0)).2.1-((kRun c (kas_desc (n-(m+1)) p (m+1) 0)).2.2+1)) (kRun c (kas_desc (n-(m+1)) p (m+1) 0)).2.1;have d':=dn_rev o hn a2 (by omega) (by omega:(kRun c (kas_desc (n-(m+1)) p (m+1) 0)).2.1≤n) a3 a4;have t:=a8s' (c:=c) hn P' d' (by omega) (by omega);rw[if_pos z];exact⟨a1u' a1 (by rw[if_pos z];exact t.1),t.2⟩
 ·have t:=a8s' (c:=c) hn a2 a3 (by omega) (by omega);rw[if_neg z];exact⟨a1u' a1 (by rw[if_neg z];exact t.1),t.2⟩
theorem b1P'(o:SOrd n c)(h2:2≤n){p:Array Nat}(P:PA' n p):kIn n c (kas_count n p)∧Cnt n c (kRun c (kas_count n p)):=by
 have hn:0<n:=by omega
 obtain⟨a1,a2,a3,a4,a5⟩:=b1O' (c:=c) hn P (n-1) 1 (λi hi=>by omega) (Zk 1);unfold kas_count;rw[a1H'];generalize em:kRun c (kas_asc p (n-1) 1)=m at*
 have key:kIn n c (if(m==n)=true then KasT.ret (m,p)else if m>1 then .ask (p.getD 0 0) (p.getD (m-1) 0) λc=>if c=true then .ret (m,p)else kas_descPart m n (kas_rev p 0 m)else kas_descPart m n p)∧
   Cnt n c (kRun c (if(m==n)=true then KasT.ret (m,p)else if m>1 then .ask (p.getD 0 0) (p.getD (m-1) 0) λc=>if c=true then .ret (m,p)else kas_descPart m n (kas_rev p 0 m)else kas_descPart m n p)):=by
  by_cases e:(m==n)=true
  ·rw[if_pos e];exact⟨trivial,P,a4,a2,by show m≤n;omega⟩
  ·rw[if_neg e];have hmn:m≠n:=by simpa using e
   have gt:=a5 (by omega);have as:=o.asym _ _ (P.lt hn _) (P.lt hn _) gt;by_cases z:m>1
   ·rw[if_pos z];simp only[kIn,kRun];cases ec:c (p.getD 0 0) (p.getD (m-1) 0)with
    |true=>simp only[if_true,kIn,kRun,and_true];exact⟨⟨P.lt hn _,P.lt hn _⟩,P,a4,a2,by show m≤n;omega⟩
    |false=>
     simp only[Zr,Z0];have eq:Eqs c p 0 m:=λa b _ h2 _ h4=>by have r1:=a4.le o hn P (Nat.zero_le a) h2;have r2:=a4.le o hn P (show b≤m-1 by omega) (by omega);exact o.ntr _ (p.getD (m-1) 0) _ (P.lt hn _) (P.lt hn _) (P.lt hn _) (o.ntr _ (p.getD 0 0) _ (P.lt hn _) (P.lt hn _) (P.lt hn _) r1 ec) r2
     have P':=a9I' P 0 m;have eq':=b0z' P (by omega:m≤n) eq
     have d':Dn c (kas_rev p 0 m) (m+1):=λi hi=>by
      by_cases y:i+1<m
      ·exact eq' i (i+1) (by omega) (by omega) (by omega) y
      ·have:i=m-1:=by omega
       subst this;rw[a4Q' P (by omega) (by omega),a3W' P (by omega) (by omega),show m-1+1=m by omega];exact o.ntr _ (p.getD (m-1) 0) _ (P.lt hn _) (P.lt hn _) (P.lt hn _) (eq _ (m-1) (by omega) (by omega) (by omega) (by omega)) as
     obtain⟨t1,t2⟩:=a3X' o hn P' d' (by omega);exact⟨⟨P.lt hn _,P.lt hn _,t1⟩,t2⟩
   ·rw[if_neg z];have e1:m=1:=by omega
    subst e1;refine a3X' o hn P (λi hi=>?_) (by omega);have:i=0:=by omega
    subst this;exact as
 exact⟨a1u' a1 (by rw[em];exact key.1),key.2⟩
theorem a5w'(o:SOrd n c)(hn:0<n){p:Array Nat}(P:PA' n p){k:Nat}(u:Up c p k):∀(f l r:Nat),r≤k→l≤r→r-l≤f→(∀i,i<l→c (p.getD k 0) (p.getD i 0)=false)→(∀i,r≤i→i<k→c (p.getD k 0) (p.getD i 0)=true)→
  kIn n c (kas_place p k f l r)∧kRun c (kas_place p k f l r)≤k∧(∀i,i<kRun c (kas_place p k f l r)→c (p.getD k 0) (p.getD i 0)=false)∧(∀i,kRun c (kas_place p k f l r)≤i→i<k→c (p.getD k 0) (p.getD i 0)=true)
 |0,l,r,hr,hl,hf,h1,h2=>by
  have:l=r:=by omega
  subst this;exact⟨trivial,hr,h1,h2⟩
 |f+1,l,r,hr,hl,hf,h1,h2=>by
  unfold kas_place;by_cases z:l≥r
  ·rw[if_pos z];have:l=r:=by omega
   subst this;exact⟨trivial,hr,h1,h2⟩
  ·rw[if_neg z];simp only[kIn,kRun];cases ec:c (p.getD k 0) (p.getD ((l+r)/2) 0)with
   |true=>
    simp only[if_true]
    have h2':∀i,(l+r)/2≤i→i<k→c (p.getD k 0) (p.getD i 0)=true:=λi hi hk=>by
     cases e:c (p.getD k 0) (p.getD i 0)with
     |true=>rfl
     |false=>have:=o.ntr _ (p.getD i 0) _ (P.lt hn _) (P.lt hn _) (P.lt hn _) e (u.le o hn P hi hk);rw[ec]at this;cases this
    obtain⟨b1,b2⟩:=a5w' o hn P u f l ((l+r)/2) (by omega) (by omega) (by omega) h1 h2';exact⟨⟨P.lt hn _,P.lt hn _,b1⟩,b2⟩
   |false=>
    simp only[Zr,Z0]
    have h1':∀i,i<(l+r)/2+1→c (p.getD k 0) (p.getD i 0)=false:=λi hi=>
     o.ntr _ (p.getD ((l+r)/2) 0) _ (P.lt hn _) (P.lt hn _) (P.lt hn _) ec (u.le o hn P (by omega) (by omega))
    obtain⟨b1,b2⟩:=a5w' o hn P u f ((l+r)/2+1) r hr (by omega) (by omega) h1' h2;exact⟨⟨P.lt hn _,P.lt hn _,b1⟩,b2⟩
theorem bin_ok(o:SOrd n c)(hn:0<n):∀(f:Nat) (p:Array Nat) (k:Nat),PA' n p→Up c p k→k+f=n→kIn n c (kas_bin f p k)∧PA' n (kRun c (kas_bin f p k))∧Up c (kRun c (kas_bin f p k)) n
 |0,p,k,P,u,h=>by
  have:k=n:=by omega
  subst this;exact⟨trivial,P,u⟩
 |f+1,p,k,P,u,h=>by
  unfold kas_bin;rw[a1H'];obtain⟨a1,a2,a3,a4⟩:=a5w' o hn P u k 0 k (Zk _) (Nat.zero_le _) (by omega) (λi hi=>absurd hi (Nat.not_lt_zero _)) (λi h1 h2=>by omega);generalize el:kRun c (kas_place p k k 0 k)=l at*;have P':PA' n (bubble p k (k-l)):=⟨by rw[bubble_size];exact P.size,(bubble_perm _ _ _).trans P.perm⟩
  have at_:∀i,(bubble p k (k-l)).getD i 0=if i=l then p.getD k 0 else if l<i∧i≤k then p.getD (i-1) 0 else p.getD i 0:=λi=>by
   have e:=getElem?_bubble (xs:=p) (src:=k) (by rw[P.size];omega) (k-l) (by omega) i;rw[show k-(k-l)=l by omega]at e;rw[Array.getD_eq_getD_getElem?,e];by_cases z1:i=l
   ·rw[if_pos z1,if_pos z1,Array.getD_eq_getD_getElem?]
   ·rw[if_neg z1,if_neg z1];by_cases z2:l<i∧i≤k
    ·rw[if_pos z2,if_pos z2,Array.getD_eq_getD_getElem?]
    ·rw[if_neg z2,if_neg z2,Array.getD_eq_getD_getElem?]
  have u':Up c (bubble p k (k-l)) (k+1):=λi hi=>by
   rw[at_,at_];by_cases z1:i+1=l
   ·rw[if_pos z1,if_neg (by omega),if_neg (by omega)];exact a3 i (by omega)
   ·rw[if_neg z1];by_cases z2:l<i+1∧i+1≤k
    ·rw[if_pos z2];by_cases z3:i=l
     ·rw[if_pos z3];have:=a4 i (by omega) (by omega);rw[show i+1-1=i by omega];exact o.asym _ _ (P.lt hn _) (P.lt hn _) this
     ·rw[if_neg z3,if_pos (by omega)];have:=u (i-1) (by omega)
      rwa [show i-1+1=i+1-1 by omega]at this
    ·rw[if_neg z2,if_neg (by omega),if_neg (by omega)];exact u i (by omega)
  obtain⟨b1,b2,b3⟩:=bin_ok o hn f (bubble p k (k-l)) (k+1) P' u' (by omega);exact⟨a1u' a1 (by rw[el];exact b1),b2,b3⟩
theorem sort_ok(o:SOrd n c)(h2:2≤n):kIn n c (kas_sort n)∧PA' n (kRun c (kas_sort n))∧Up c (kRun c (kas_sort n)) n:=by
 have P0:PA' n (List.toArray (List.range n)):=⟨by simp,.refl _⟩;obtain⟨a1,a2⟩:=b1P' o h2 P0;unfold kas_sort;rw[a1H'];by_cases z:(kRun c (kas_count n (List.toArray (List.range n)))).1<n
 ·have e:max (kRun c (kas_count n (List.toArray (List.range n)))).1 1=(kRun c (kas_count n (List.toArray (List.range n)))).1:=Nat.max_eq_left a2.pos;obtain⟨b1,b2,b3⟩:=bin_ok o (by omega) (n-max (kRun c (kas_count n (List.toArray (List.range n)))).1 1) _ (max (kRun c (kas_count n (List.toArray (List.range n)))).1 1) a2.pa (by rw[e];exact a2.up) (by omega);rw[if_pos z];exact⟨a1u' a1 (by rw[if_pos z];exact b1),b2,b3⟩
 ·rw[if_neg z];have e:(kRun c (kas_count n (List.toArray (List.range n)))).1=n:=by have:=a2.le;omega
  refine⟨a1u' a1 (by rw[if_neg z];trivial),a2.pa,?_⟩;have:=a2.up
  rwa [e]at this
end
end Py
section
set_option autoImplicit false
namespace Py
open PySem PySem.W PySem.Spec PyProof.Rows
noncomputable def rankN(n:Nat)(c:Nat→Nat→Bool)(i:Nat):Nat:=((List.range n).filter λj=>c j i).length
section
variable {κ:SortKind}
theorem run_any{c:Nat→Nat→Bool}(o:SOrd its.length c)(same:∀i j,i<its.length→j<its.length→its.getD i Value.none=its.getD j Value.none→rankN its.length c i=rankN its.length c j)(h2:2≤its.length)(h63:its.length<64)
  (ask:∀i j C,i<its.length→j<its.length→C (c i j) s→kas_ask prog w A κ its i j C s) {Q:SortSt→Shared→Prop}
  (h:∀(st':SortSt) (p:List Nat),failedOf st'=none→(arrOf st').map (·.2)=List.toArray (p.map λi=>its.getD i Value.none)→p.Perm (List.range its.length)→p.Pairwise (λi j=>c j i=false)→Q st' s):
  wpAny (model prog w) A ((sortRuns').run (SortSt.mk' κ (its.toArray.zip its.toArray) #[] 7 none)) (λr s'=>Q r.2 s') E s:=by
 obtain⟨q1,q2,q3⟩:=sort_ok o h2;have pp:(kRun c (kas_sort its.length)).toList.Perm (List.range its.length):=Array.perm_iff_toList_perm.mp q2.perm
 have pw:(kRun c (kas_sort its.length)).toList.Pairwise (λi j=>c j i=false):=by
  rw[List.pairwise_iff_getElem];intro i j hi hj hij;have hsz:(kRun c (kas_sort its.length)).size=its.length:=q2.size;have hi':i<(kRun c (kas_sort its.length)).size:=by simpa using hi
  have hj':j<(kRun c (kas_sort its.length)).size:=by simpa using hj
  have:=q3.le o (by omega) q2 (Nat.le_of_lt hij) (by omega:j<its.length);simpa[Array.getD,hi',hj']using this
 have ask':(kas_sort its.length).kasWp (kas_ask prog w A κ its) (λp s'=>p=kRun c (kas_sort its.length)∧s'=s) s:=kWp ask q1 ⟨rfl,rfl⟩
 have run:=kat_run (E:=E) (ks:=its) rfl h2 h63 (Q:=Q)
  (λp st' s' z1 z2 z3 z4=>by obtain⟨rfl,rfl⟩:=z4;exact h st' _ z3 (kat_snds rfl z2) pp pw) ask'
 exact wpAny_mono run (λr s' hr=>hr) λ_ _ e=>e
end
end Py
end
namespace Py
structure LOrd (P:D→Prop)(f:D→D→Bool):Prop where
 irr:∀x,P x→f x x=false
 asym:∀x y,P x→P y→f x y=true→f y x=false
 ntr:∀x y z,P x→P y→P z→f x y=false→f y z=false→f x z=false
 tot:∀x y,P x→P y→f x y=false→f y x=false→x=y
section
variable {P:D→Prop}{f:D→D→Bool}
theorem b0A'(o:LOrd P f):∀(xs:List D),(∀x∈xs,P x)→lexB f xs xs=false
 | [],_=>rfl
 |x::xs,h=>by unfold lexB;rw[o.irr x (h x Zd)];simpa using b0A' o xs λy hy=>h y (Zb _ hy)
theorem a8t'(o:LOrd P f):∀(xs ys:List D),(∀x∈xs,P x)→(∀x∈ys,P x)→lexB f xs ys=true→lexB f ys xs=false
 | [],[],_,_,h=>by cases h
 | [],_::_,_,_,_=>rfl
 |_::_,[],_,_,h=>by cases h
 |x::xs,y::ys,h1,h2,h=>by
  unfold lexB at h⊢;have px:=h1 x Zd;have py:=h2 y Zd;cases e:f x y with
  |true=>rw[o.asym x y px py e];simp
  |false=>
   rw[e]at h;cases e2:f y x with
   |true=>rw[e2]at h;simp at h
   |false=>rw[e2]at h;simp only[Zr,Z0]at h⊢;exact a8t' o xs ys (λz hz=>h1 z (Zb _ hz)) (λz hz=>h2 z (Zb _ hz)) h
theorem lex_tot(o:LOrd P f):∀(xs ys:List D),(∀x∈xs,P x)→(∀x∈ys,P x)→lexB f xs ys=false→lexB f ys xs=false→xs=ys
 | [],[],_,_,_,_=>rfl
 | [],_::_,_,_,h,_=>by cases h
 |_::_,[],_,_,_,h=>by cases h
 |x::xs,y::ys,h1,h2,h,h'=>by
  unfold lexB at h h';have px:=h1 x Zd;have py:=h2 y Zd;cases e:f x y with
  |true=>rw[e]at h;simp at h
  |false=>
   cases e2:f y x with
   |true=>rw[e2]at h';simp at h'
   |false=>rw[e,e2]at h h';simp only[Zr,Z0]at h h';rw[o.tot x y px py e e2,lex_tot o xs ys (λz hz=>h1 z (Zb _ hz)) (λz hz=>h2 z (Zb _ hz)) h h']
theorem b0B'(o:LOrd P f):∀(xs ys zs:List D),(∀x∈xs,P x)→(∀x∈ys,P x)→(∀x∈zs,P x)→lexB f xs ys=false→lexB f ys zs=false→lexB f xs zs=false
 | [],[],zs,_,_,_,_,h=>h
 | [],_::_,_,_,_,_,h,_=>by cases h
 |_::_,_,[],_,_,_,_,_=>rfl
 |x::xs,[],z::zs,_,_,_,_,h=>by cases h
 |x::xs,y::ys,z::zs,h1,h2,h3,ha,hb=>by
  have px:=h1 x Zd;have py:=h2 y Zd;have pz:=h3 z Zd;unfold lexB at ha hb⊢;cases e1:f x y with
  |true=>rw[e1]at ha;simp at ha
  |false=>
   cases e2:f y z with
   |true=>rw[e2]at hb;simp at hb
   |false=>
    rw[e1]at ha;rw[e2]at hb;simp only[Zr,Z0]at ha hb;rw[o.ntr x y z px py pz e1 e2];simp only[Zr,Z0];cases e3:f z x with
    |true=>rfl
    |false=>have e4:f y x=false:=o.ntr y z x py pz px e2 e3;have e5:f z y=false:=o.ntr z x y pz px py e3 e1;rw[e4]at ha;rw[e5]at hb;simp only[Zr,Z0]at ha hb⊢;exact b0B' o xs ys zs (λw hw=>h1 w (Zb _ hw)) (λw hw=>h2 w (Zb _ hw)) (λw hw=>h3 w (Zb _ hw)) ha hb
end
theorem a1P'(h:hasTy .int d=true):∃i,d=.int i:=by cases d<;>first|exact⟨_,rfl⟩| (simp[hasTy]at h)
theorem a2c'{t:KTy}(h:hasTy (.seq t) d=true):∃xs,d=.tup xs∧∀x∈xs,hasTy t x=true:=by
 cases d with
 |tup xs=>unfold hasTy at h;exact⟨xs,rfl,λx hx=>Zz.mp h x hx⟩
 |_=>simp[hasTy]at h
theorem lordK:∀(t:KTy),noStr t=true→LOrd (λd=>hasTy t d=true) (ltK t)
 | .int,_=>by
  refine⟨λx h=>?_,λx y h1 h2 h=>?_,λx y z h1 h2 h3 ha hb=>?_,λx y h1 h2 ha hb=>?_⟩
  ·obtain⟨i,rfl⟩:=a1P' h;simp[ltK]
  ·obtain⟨i,rfl⟩:=a1P' h1;obtain⟨j,rfl⟩:=a1P' h2;simp[ltK]at h⊢;omega
  ·obtain⟨i,rfl⟩:=a1P' h1;obtain⟨j,rfl⟩:=a1P' h2;obtain⟨k,rfl⟩:=a1P' h3;simp[ltK]at ha hb⊢;omega
  ·obtain⟨i,rfl⟩:=a1P' h1;obtain⟨j,rfl⟩:=a1P' h2;simp[ltK]at ha hb;congr 1;omega
 | .seq t,h=>by
  have o:=lordK t h;refine⟨λx h=>?_,λx y h1 h2 h=>?_,λx y z h1 h2 h3 ha hb=>?_,λx y h1 h2 ha hb=>?_⟩
  ·obtain⟨xs,rfl,k⟩:=a2c' h;exact b0A' o xs k
  ·obtain⟨xs,rfl,k1⟩:=a2c' h1;obtain⟨ys,rfl,k2⟩:=a2c' h2;exact a8t' o xs ys k1 k2 h
  ·obtain⟨xs,rfl,k1⟩:=a2c' h1;obtain⟨ys,rfl,k2⟩:=a2c' h2;obtain⟨zs,rfl,k3⟩:=a2c' h3;exact b0B' o xs ys zs k1 k2 k3 ha hb
  ·obtain⟨xs,rfl,k1⟩:=a2c' h1;obtain⟨ys,rfl,k2⟩:=a2c' h2;exact congrArg D.tup (lex_tot o xs ys k1 k2 ha hb)
def eqK(t:KTy)(d e:D):Bool:= !ltK t d e&& !ltK t e d
theorem b1Q'{t:KTy}(hs:noStr t=true){e:D}(h1:hasTy t d=true)(h2:hasTy t e=true)(h:eqK t d e=true):d=e:=by unfold eqK at h;simp at h;exact(lordK t hs).tot d e h1 h2 h.1 h.2
theorem a3b'{f:D→D→Bool}{x y:D}:lexB f (x::xs) (y::ys)=if f x y=true then true else if f y x=true then false else lexB f xs ys:=rfl
theorem b0C'{t:KTy}(hs:noStr t=true):∀(xs ys:List D),(∀x∈xs,hasTy t x=true)→(∀x∈ys,hasTy t x=true)→eqK (.seq t) (.tup xs) (.tup ys)=((List.zipWith (eqK t) xs ys).all id&&xs.length==ys.length)
 | [],[],_,_=>rfl
 | [],y::ys,_,_=>by simp[eqK,ltK,lexB]
 |x::xs,[],_,_=>by simp[eqK,ltK,lexB]
 |x::xs,y::ys,h1,h2=>by
  have ih:=b0C' hs xs ys (λw hw=>h1 w (Zb _ hw)) (λw hw=>h2 w (Zb _ hw));have px:=h1 x Zd;have py:=h2 y Zd;cases e:ltK t x y with
  |true=>
   have:eqK t x y=false:=by simp[eqK,e]
   simp[eqK,ltK,lexB,e]
  |false=>
   cases e2:ltK t y x with
   |true=>simp[eqK,ltK,lexB,e,e2]
   |false=>
    have e3:eqK t x y=true:=by simp[eqK,e,e2]
    have e4:eqK (.seq t) (.tup (x::xs)) (.tup (y::ys))=eqK (.seq t) (.tup xs) (.tup ys):=by show(!lexB (ltK t) (x::xs) (y::ys)&& !lexB (ltK t) (y::ys) (x::xs))=(!lexB (ltK t) xs ys&& !lexB (ltK t) ys xs);rw[a3b',a3b',e,e2];simp
    rw[e4,ih];simp[e3]
theorem allO_map(f:D→D→Bool):∀(xs ys:List D) (g:D→D→Option Bool),(∀x∈xs,∀y∈ys,g x y=some (f x y))→allO (List.zipWith g xs ys)=some ((List.zipWith f xs ys).all id)
 | [],_,_,_=>rfl
 |_::_,[],_,_=>rfl
 |x::xs,y::ys,g,h=>by
  have ih:=allO_map f xs ys g λa ha b hb=>h a (Zb _ ha) b (Zb _ hb)
  show(match g x y,allO (List.zipWith g xs ys)with
   |some b,some c=>some (b&&c)
   |_,_=>none)=_
  rw[h x Zd y Zd,ih];rfl
theorem b0D'{t:KTy}(hs:noStr t=true){eq lt:D→D→Option Bool}:∀(xs ys:List D),(∀x∈xs,hasTy t x=true)→(∀x∈ys,hasTy t x=true)→(∀x∈xs,∀y∈ys,eq x y=some (eqK t x y)∧lt x y=some (ltK t x y))→ltL eq lt xs ys=some (lexB (ltK t) xs ys)
 | [],[],_,_,_=>rfl
 | [],_::_,_,_,_=>rfl
 |_::_,[],_,_,_=>rfl
 |x::xs,y::ys,h1,h2,h=>by
  have ih:=b0D' hs xs ys (λw hw=>h1 w (Zb _ hw)) (λw hw=>h2 w (Zb _ hw)) λa ha b hb=>h a (Zb _ ha) b (Zb _ hb);obtain⟨k1,k2⟩:=h x Zd y Zd;have px:=h1 x Zd;have py:=h2 y Zd;unfold ltL;rw[k1,a3b'];cases e:ltK t x y with
  |true=>
   have e1:eqK t x y=false:=by simp[eqK,e]
   rw[e1];show lt x y=_;rw[k2,e];rfl
  |false=>
   cases e2:ltK t y x with
   |true=>
    have e1:eqK t x y=false:=by simp[eqK,e,e2]
    rw[e1];show lt x y=_;rw[k2,e];rfl
   |false=>
    have e1:eqK t x y=true:=by simp[eqK,e,e2]
    rw[e1];exact ih
theorem asK(S:Store):∀(t:KTy),noStr t=true→∀n,depth t≤n→∀d e,hasTy t d=true→hasTy t e=true→eqF S n d e=some (eqK t d e)∧ltF S n d e=some (ltK t d e)
 | .int,_,0,h,_,_,_,_=>by simp[depth]at h
 | .int,_,n+1,_,d,e,h1,h2=>by
  obtain⟨i,rfl⟩:=a1P' h1;obtain⟨j,rfl⟩:=a1P' h2;refine⟨?_,rfl⟩;show some (i==j)=some (!decide (i<j)&& !decide (j<i));congr 1;by_cases z:i=j
  ·subst z;simp
  ·rcases Int.lt_or_gt_of_ne z with y|y
   ·simp[z,y]
   ·have:¬i<j:=by omega
    simp[z,y]
 | .seq t,hs,0,h,_,_,_,_=>by simp[depth]at h
 | .seq t,hs,n+1,h,d,e,h1,h2=>by obtain⟨xs,rfl,k1⟩:=a2c' h1;obtain⟨ys,rfl,k2⟩:=a2c' h2;have ih:=asK S t hs n (by simpa[depth]using h);refine⟨?_,b0D' (t:=t) hs xs ys k1 k2 λx hx y hy=>ih x y (k1 x hx) (k2 y hy)⟩;show(allO (List.zipWith (eqF S n) xs ys)).map (· &&xs.length==ys.length)=_;rw[allO_map (eqK t) xs ys _ λx hx y hy=>(ih x y (k1 x hx) (k2 y hy)).1,b0C' (t:=t) hs xs ys k1 k2];rfl
theorem a4q'(f:D→D→Bool)(x:D):∀l,(insB f x l).Perm (x::l)
 | []=>.refl _
 |y::ys=>by
  unfold insB;split
  ·exact .refl _
  ·exact((a4q' f x ys).cons y).trans (.swap _ _ _)
theorem a1a'(f:D→D→Bool)(xs:List D):(a3j' f xs).Perm xs:=by
 have key:∀(xs acc:List D),(xs.foldl (λacc x=>insB f x acc) acc).Perm (acc++xs):=by
  intro xs
  induction xs with
  |nil=>intro acc;simp
  |cons x xs ih=>intro acc;refine(ih (insB f x acc)).trans ?_;refine((a4q' f x acc).append_right xs).trans ?_;exact List.perm_middle.symm
 simpa[a3j']using key xs []
theorem a4R'{P:D→Prop}{f:D→D→Bool}(o:LOrd P f)(x:D)(px:P x):∀l,(∀y∈l,P y)→l.Pairwise (λa b=>f b a=false)→(insB f x l).Pairwise (λa b=>f b a=false)
 | [],_,_=>by simp[insB]
 |y::ys,hp,h=>by
  unfold insB;have py:=hp y Zd;obtain⟨h1,h2⟩:=ZW.mp h;split
  ·rename_i hlt;refine ZW.mpr ⟨λz hz=>?_,h⟩;have yx:=o.asym x y px py hlt;rcases Zo.mp hz with rfl|hz
   ·exact yx
   ·exact o.ntr z y x (hp z (Zb _ hz)) py px (h1 z hz) yx
  ·rename_i hlt;refine ZW.mpr ⟨λz hz=>?_,a4R' o x px ys (λw hw=>hp w (Zb _ hw)) h2⟩;rcases Zo.mp ((a4q' f x ys).mem_iff.mp hz)with rfl|hz
   ·simpa using hlt
   ·exact h1 z hz
theorem a3m'{P:D→Prop}{f:D→D→Bool}(o:LOrd P f)(xs:List D)(hp:∀x∈xs,P x):(a3j' f xs).Pairwise (λa b=>f b a=false):=by
 have key:∀(xs acc:List D),(∀x∈xs,P x)→(∀x∈acc,P x)→acc.Pairwise (λa b=>f b a=false)→(xs.foldl (λacc x=>insB f x acc) acc).Pairwise (λa b=>f b a=false):=by
  intro xs
  induction xs with
  |nil=>intro acc _ _ h;exact h
  |cons x xs ih=>
   intro acc h1 h2 h;have px:=h1 x Zd;refine ih (insB f x acc) (λy hy=>h1 y (Zb _ hy)) (λy hy=>?_) (a4R' o x px acc h2 h);rcases Zo.mp ((a4q' f x acc).mem_iff.mp hy)with rfl|hy
   ·exact px
   ·exact h2 y hy
 exact key xs [] hp (by simp) .nil
theorem a3n'{t:KTy}(hs:noStr t=true)(hp:∀x∈xs,hasTy t x=true)(p:ys.Perm xs)(s:ys.Pairwise (λa b=>ltK t b a=false)):ys=a3j' (ltK t) xs:=by have o:=lordK t hs;refine List.Perm.eq_of_pairwise (le:=λa b=>ltK t b a=false) (λa b ha hb h1 h2=>?_) s (a3m' o xs hp) (p.trans (a1a' _ _).symm);exact o.tot a b (hp a (p.mem_iff.mp ha)) (hp b ((a1a' _ _).mem_iff.mp hb)) h2 h1
open PySem PySem.W PySem.Spec PyProof.Rows
def Outs(its:Lv)(c:Nat→Nat→Bool)(out:Lv):Prop:=∃p:List Nat,out=p.map (λi=>its.getD i Value.none)∧p.Perm (List.range its.length)∧p.Pairwise (λi j=>c j i=false)
theorem a3o'{n0:Nat}{c:Nat→Nat→Bool}{P:PySem.Fin→Shared→Prop}(ho:s.heap.get? a=some (seqObj "list" its.toArray n0))(h63:its.length<64)
  (hk:2≤its.length→∃κ:SortKind,SOrd its.length c∧(∀i j,i<its.length→j<its.length→its.getD i Value.none=its.getD j Value.none→rankN its.length c i=rankN its.length c j)∧∀h':Heap,(∀b o,b≠a→s.heap.get? b=some o→h'.get? b=some o)→
   (∀(Q':SortKind→Shared→Prop),Q' κ {s with heap:=h'}→wpAny (model prog w) A (keyKind' its.toArray) Q' E {s with heap:=h'})∧
   ∀i j C,i<its.length→j<its.length→C (c i j) {s with heap:=h'}→kas_ask prog w A κ its i j C {s with heap:=h'})
  (hP:∀h' c2 out,(∀b o,b≠a→s.heap.get? b=some o→h'.get? b=some o)→h'.get? a=some (seqObj "list" (List.toArray out) c2)→Outs its c out→P (.done (.ret .none)) {s with heap:=h'}):
  wpAny (model prog w) A (Builtin.«list.sort» ⟨[.ref a],[]⟩) P E s:=by
 have h64:its.length≤sizeLine:=by rw[sizeLine_eq];omega
 have ha:a<s.heap.objs.size:=Zn ho;have s1:=ZN s.heap a (Obj.mapSeq λ_=>(#[]:Av));obtain⟨e1,ho1⟩:∃e1,(s.heap.update a (Obj.mapSeq λ_=>(#[]:Av))).get? a=some (seqObj "list" #[] e1):=⟨_,get?_update_seq ho λ_=> #[]⟩
 have keep:∀b o,b≠a→s.heap.get? b=some o→(((s.heap.update a (Obj.mapSeq λ_=>(#[]:Av))).push (seqObj "tuple" its.toArray 0)).push (seqObj "list" #[] 0)).get? b=some o:=λb o hb e=>
  Zc _ (Zc _ ((s1.2 b hb).trans e))
 have ho2:(((s.heap.update a (Obj.mapSeq λ_=>(#[]:Av))).push (seqObj "tuple" its.toArray 0)).push (seqObj "list" #[] 0)).get? a=some (seqObj "list" #[] e1):=Zc _ (Zc _ ho1);rw[list_sort_plain];refine Za (listItems_at ho rfl ?_);refine Za (listUpdate_at ho rfl ?_ (by rw[Zi];exact h64) (Nat.zero_le _));refine Za (seqEpoch_at ho1 rfl ?_);refine Za (wpAny_newTuple ?_ (by show its.length≤_;exact h64));refine Za (wpAny_newList ?_ (Nat.zero_le _));refine ZY ?_;show wpAny (model prog w) A _ P E {s with heap:=((s.heap.update a (Obj.mapSeq λ_=>(#[]:Av))).push (seqObj "tuple" its.toArray 0)).push (seqObj "list" #[] 0)};generalize((s.heap.update a (Obj.mapSeq λ_=>(#[]:Av))).push (seqObj "tuple" its.toArray 0)).push (seqObj "list" #[] 0)=h1 at*
 have fin:∀(st':SortSt) (out:Lv),(arrOf st').map (·.2)=List.toArray out→failedOf st'=none→out.length=its.length→Outs its c out→
   wpAny (model prog w) A (do
    let touched:=(←seqEpoch a) !=e1
    Builtin.List.listUpdate (.ref a) λ_=>(arrOf st').map (·.2)
    if let some e:=failedOf st' then rule "list.sort.comparison-raised";throw e
    if touched then rule "list.sort.modified";raiseError "ValueError" "list modified during sort"
    ret .none) P E {s with heap:=h1}:=by
  intro st' out hout hf hlen hO;have s2:=ZN h1 a (Obj.mapSeq λ_=>List.toArray out);obtain⟨c2,hc2⟩:∃c2,(h1.update a (Obj.mapSeq λ_=>List.toArray out)).get? a=some (seqObj "list" (List.toArray out) c2):=⟨_,get?_update_seq ho2 λ_=>List.toArray out⟩;rw[hout];refine Za (seqEpoch_at ho2 rfl ?_);refine Za (listUpdate_at ho2 rfl ?_ (Nat.zero_le _) (by rw[Zi,hlen];exact Nat.le_succ_of_le h64));rw[hf];simp only[bne_self_eq_false,Zr,Z0];exact Ze (hP _ c2 out (λb o hb e=>(s2.2 b hb).trans (keep b o hb e)) hc2 hO)
 by_cases h2:2≤its.length
 ·have hn2:¬its.toArray.size<2:=by rw[Zi];omega
  rw[if_neg hn2,if_neg hn2];obtain⟨κ,o,same,hk⟩:=hk h2;obtain⟨k1,k2⟩:=hk h1 keep;refine Za (k1 _ ?_)
  have run:=run_any (E:=E) o same h2 h63 k2 (Q:=λst' s'=>s'={s with heap:=h1}∧failedOf st'=none∧∃out:Lv,(arrOf st').map (·.2)=List.toArray out∧out.length=its.length∧Outs its c out)
   (λst' p hf hout hp hs=>⟨rfl,hf,_,hout,by rw[Zj,hp.length_eq,List.length_range],p,rfl,hp,hs⟩)
  refine Za (wpAny_mono run (λr s' hr=>?_) λ_ _ e=>e);obtain⟨⟨⟩,st'⟩:=r;obtain⟨rfl,hf,out,hout,hlen,hO⟩:=hr;exact fin st' _ hout hf hlen hO
 ·have hn2:its.toArray.size<2:=by rw[Zi];omega
  rw[if_pos hn2,if_pos hn2];refine Za (Ze ?_)
  show wpAny (model prog w) A (do
    let touched:=(←seqEpoch a) !=e1
    Builtin.List.listUpdate (.ref a) λ_=>(arrOf (SortSt.mk' general' (its.toArray.zip its.toArray) #[] 7 none)).map (·.2)
    if let some e:=failedOf (SortSt.mk' general' (its.toArray.zip its.toArray) #[] 7 none)then rule "list.sort.comparison-raised";throw e
    if touched then rule "list.sort.modified";raiseError "ValueError" "list modified during sort"
    ret .none) P E {s with heap:=h1}
  refine fin _ its ?_ rfl rfl ⟨List.range its.length,?_,.refl _,?_⟩
  ·show(its.toArray.zip its.toArray).map (·.2)=its.toArray;apply Array.toList_inj.mp;rw[Array.toList_map,Array.toList_zip];exact List.map_snd_zip (Zk _)
  ·refine List.ext_getElem (by simp) λi h1 h2=>?_;simp[h1]
  ·match its,h2 with
   | [],_=>simp
   | [_],_=>simp
   |_::_::_,h2=>simp at h2
end Py
namespace Py
open PySem PySem.W PySem.Spec PyProof.Rows L2
theorem a6Q'{b:Bool}{l:Addr}{c:Nat→Nat→Bool}{Q:Vs}(hl:IsSq b s.heap l its.toArray)(h63:its.length<64)
  (hk:2≤its.length→∃κ:SortKind,SOrd its.length c∧(∀i j,i<its.length→j<its.length→its.getD i Value.none=its.getD j Value.none→rankN its.length c i=rankN its.length c j)∧∀h':Heap,(∀b o,s.heap.get? b=some o→h'.get? b=some o)→
   (∀(E':Vs) (Q':SortKind→Shared→Prop),Q' κ {s with heap:=h'}→wpAny (model prog w) A.in1.in1 (keyKind' its.toArray) Q' E' {s with heap:=h'})∧
   ∀i j C,i<its.length→j<its.length→C (c i j) {s with heap:=h'}→kas_ask prog w A.in1.in1 κ its i j C {s with heap:=h'})
  (hQ:∀(h1 h':Heap) c2 out,(∀b o,s.heap.get? b=some o→h1.get? b=some o)→(∀b o,h1.get? b=some o→h'.get? b=some o)→h'.get? h1.objs.size=some (seqObj "list" (List.toArray out) c2)→Outs its c out→Q (.ref h1.objs.size) {s with heap:=h'}):
  wpAny (model prog w) A (call (.builtin "sorted") [.ref l]) Q E s:=by
 refine Calls.call_function_entry kind_sorted plain_sorted entry_sorted (args_sorted1 _) ?_;unfold Builtin.«sorted»;refine Za (m:=checkCount "sorted" 1 1 _) (Ze ?_);have h64:its.length≤sizeLine:=by rw[sizeLine_eq];omega
 have hsz:its.toArray.size≤sizeLine:=by rw[Zi];exact h64
 have go:∀h1:Heap,(∀b o,s.heap.get? b=some o→h1.get? b=some o)→wpAny (model prog w) A.in1 (do
   let l ←newList its
   let _ ←holding [l] (call (.builtin "list.sort") [l])
   ret l) (λfin s'=>∃v,fin=.done (.ret v)∧Q v s') E {s with heap:=h1}:=by
  intro h1 k1;refine Za (wpAny_newList ?_ h64);have hoL:(h1.push (seqObj "list" its.toArray 0)).get? h1.objs.size=some (seqObj "list" its.toArray 0):=Zl _ rfl;refine Za (ZY (ZH slot_list_sort ⟨_,hoL,rfl⟩ entry_list_sort ?body (args_list_sort _)))
  case body=>
   refine a3o' (c:=c) (s:={s with heap:=h1.push (seqObj "list" its.toArray 0)}) hoL h63 (λh2=>?_) λh' c2 out kp e O=>?_
   ·obtain⟨κ,o,same,hk⟩:=hk h2;refine⟨κ,o,same,λh' kp=>?_⟩;obtain⟨q1,q2⟩:=hk h' λb o e=>kp b o (Zw (Zn (k1 b o e))) (Zc _ (k1 b o e));exact⟨q1 _,q2⟩
   ·exact⟨_,rfl,Ze ⟨_,rfl,hQ h1 h' c2 out k1 (λb o e=>kp b o (Zw (Zn e)) (Zc _ e)) e O⟩⟩
 cases b with
 |true=>obtain⟨o,ho,hc,n,hd⟩:=hl;exact Za (wpAny_collect_seq l (.inl rfl) ho hc hd (λh1 k1=>by simpa using go h1 k1) hsz)
 |false=>obtain⟨o,ho,hc,n,hd⟩:=hl;exact Za (wpAny_collect_seq l (.inr rfl) ho hc hd (λh1 k1=>by simpa using go h1 k1) hsz)
theorem cmpK(I:Inv X pq σ H s)(sk:SOk X.K ⟨X.mg,F⟩ μ S H){t:KTy}(hs:noStr t=true)(hd:depth t≤40)(hu:A.units+40<cLine){e:D}{v':V}{z:Value}(h1:hasTy t d=true)(h2:hasTy t e=true)
  (r1:Rep X.K ⟨X.mg,F⟩ μ H d v) (q1:RelV v u) (r2:Rep X.K ⟨X.mg,F⟩ μ H e v') (q2:RelV v' z):PySem.SeqAt.EqAt A s u z (eqK t d e)∧LtAt A s u z (ltK t d e):=by
 obtain⟨a1,a2⟩:=asK S t hs 40 hd d e h1 h2;exact⟨(rcF I sk 40 A hu d e v v' u z _ r1 q1 r2 q2 a1).2.2,ltF_at I sk 40 A hu d e v v' u z _ r1 q1 r2 q2 a2⟩
theorem a8u'{prog:Program}{w:World}{A:Around}{Q:Bool→Shared→Prop}{t:KTy}{b:Bool}(hb:b=true→t=.int):∀(ds es:List D) (us zs:Lv) (i:Nat),(∀d∈ds,hasTy t d=true)→(∀e∈es,hasTy t e=true)→ds.length=us.length→es.length=zs.length→
  (∀(j:Nat) d e u z,ds[j]?=some d→es[j]?=some e→us[j]?=some u→zs[j]?=some z→PySem.SeqAt.EqAt A s u z (eqK t d e)∧LtAt A s u z (ltK t d e)∧(t=.int→∃a b ta tb,d=.int a∧e=.int b∧u=.int a ta∧z=.int b tb))→
  Q (lexB (ltK t) ds es) s→KatLex prog w A b (decide (us.length<zs.length)) Q (us.zip zs) i s
 | [],[],us,zs,i,_,_,l1,l2,_,q=>by have e1:us=[]:=ZJ l1.symm;have e2:zs=[]:=ZJ l2.symm;subst e1;subst e2;exact kat_nil q
 | [],e::es,us,zs,i,_,_,l1,l2,_,q=>by
  have e1:us=[]:=ZJ l1.symm;subst e1;have:decide (([]:Lv).length<zs.length)=true:=by simp at l2⊢;omega
  rw[this,List.zip_nil_left];exact kat_nil q
 |d::ds,[],us,zs,i,_,_,l1,l2,_,q=>by
  have e1:zs=[]:=ZJ l2.symm;subst e1;have:decide (us.length<([]:Lv).length)=false:=by simp
  rw[this,List.zip_nil_right];exact kat_nil q
 |d::ds,e::es,[],zs,i,_,_,l1,_,_,_=>by simp at l1
 |d::ds,e::es,_::_,[],i,_,_,_,l2,_,_=>by simp at l2
 |d::ds,e::es,u::us,z::zs,i,h1,h2,l1,l2,h,q=>by
  obtain⟨k1,k2,k3⟩:=h 0 d e u z rfl rfl rfl rfl;have e0:decide ((u::us).length<(z::zs).length)=decide (us.length<zs.length):=by simp
  rw[e0,ZT];refine kat_cons (k1 prog w _ _ ?_);rw[a3b']at q
  have no:∀{k:Bool},ltK t d e=k→eqK t d e=false→Q k s→KatGo prog w A b (decide (us.length<zs.length)) Q u z (us.zip zs) i false s:=λ{k} hk _ qk=>by
   clear q;refine kat_no ?_;cases hbi:(b&&i==0)with
   |false=>exact kat_one u z (k2 prog w _ _ (by rw[hk];exact qk))
   |true=>simp only[Zt]at hbi;obtain⟨a,b',ta,tb,rfl,rfl,rfl,rfl⟩:=k3 (hb hbi.1);have ht:=hb hbi.1;subst ht;exact oneLt_int (by rw[show decide (a<b')=k from hk];exact qk)
  cases e1:ltK t d e with
  |true=>
   have ee:eqK t d e=false:=by simp[eqK,e1]
   rw[e1]at q;rw[ee];exact no e1 ee (by simpa using q)
  |false=>
   cases e2:ltK t e d with
   |true=>
    have ee:eqK t d e=false:=by simp[eqK,e1,e2]
    rw[e1,e2]at q;rw[ee];exact no e1 ee (by simpa using q)
   |false=>
    have ee:eqK t d e=true:=by simp[eqK,e1,e2]
    rw[e1,e2]at q;rw[ee];refine kat_yes (a8u' hb ds es us zs (i+1) (λx hx=>h1 x (Zb _ hx)) (λx hx=>h2 x (Zb _ hx)) (by simpa using l1) (by simpa using l2) (λj d' e' u' z' a1 a2 a3 a4=>h (j+1) d' e' u' z' a1 a2 a3 a4) (by simpa using q))
end Py
namespace Py
open PySem PySem.W PySem.Spec PyProof.Rows L2
end Py
namespace Py
open PySem PySem.W PySem.Spec PyProof.Rows L2
def tyOf:KTy→String
 | .int=>"int"
 |_=>"tuple"
theorem looksK(I:Inv X pq σ H s){t:KTy}(hs:noStr t=true)(h:hasTy t d=true)(r:Rep X.K ⟨X.mg,F⟩ μ H d v)(q:RelV v u):Looks (model X.prog X.w) s.heap (typeOf u) (.type (tyOf t)):=by
 have tup:∀xs,d=.tup xs→Looks (model X.prog X.w) s.heap (typeOf u) (.type "tuple"):=by
  rintro xs rfl;obtain⟨a,vs,rfl,hq,_⟩:=a0r' r;cases q;obtain⟨its,_,p,_⟩:=I.tuple hq;obtain⟨o,ho,hc,_⟩:=p;have:=(show Looks (model X.prog X.w) s.heap (typeOf (.ref a)) o.cls from(Looks.ld ho).andThen .now)
  rwa [hc]at this
 cases t with
 |int=>obtain⟨i,rfl⟩:=a1P' h;cases a0a' r;obtain⟨tk,rfl⟩:=q;exact(show Looks (model X.prog X.w) s.heap (typeOf (.int i tk)) (.type "int")from .now)
 |seq t=>obtain⟨xs,rfl,_⟩:=a2c' h;exact tup xs rfl
theorem a4S'(I:Inv X pq σ H s){t:KTy}(hs:noStr t=true):∀(ys:List D) (vs:List V) (its:Lv),(∀d∈ys,hasTy (.seq t) d=true∧d≠.tup [])→RepL X.K ⟨X.mg,F⟩ μ H ys vs→Vals vs its→
  ∃fs,KatTups s.heap its fs∧fs.length=its.length∧∀f∈fs,Looks (model X.prog X.w) s.heap (typeOf f) (.type (tyOf t))
 | [],vs,its,_,r,q=>by unfold RepL at r;subst r;cases q;exact⟨[],KatTups.nil,rfl,λ_ h=>nomatch h⟩
 |d::ys,vs,its,h,r,q=>by
  obtain⟨v,ws,rfl,rd,rr⟩:=r.uncons;cases q with
  |cons q1 q2=>
   rename_i u its';obtain⟨fs,k1,k2,k3⟩:=a4S' I hs ys ws its' (λe he=>h e (Zb _ he)) rr q2;obtain⟨h1,h2⟩:=h d Zd;obtain⟨xs,rfl,hx⟩:=a2c' h1;cases xs with
   |nil=>exact absurd rfl h2
   |cons x xs=>
    obtain⟨a,as,rfl,hq,ra⟩:=a0r' rd;cases q1;obtain⟨us,ru,p,_⟩:=I.tuple hq;obtain⟨w,ws',rfl,rx,_⟩:=ra.uncons;cases ru with
    |cons p1 p2=>
     rename_i f us';obtain⟨o,ho,hc,n,hd⟩:=p;refine⟨f::fs,KatTups.cons ho hc hd (by simp) k1,by simp[k2],λg hg=>?_⟩;rcases Zo.mp hg with rfl|hg
     ·exact looksK I hs (hx x Zd) rx p1
     ·exact k3 g hg
theorem askK(I:Inv X pq σ H s)(sk:SOk X.K ⟨X.mg,F⟩ μ S H){t:KTy}(hs:noStr t=true)(hd:depth t≤40)(hu:A.units+42<cLine){e:D}{v':V}{z:Value}(h1:hasTy (.seq t) d=true)(h2:hasTy (.seq t) e=true)
  (r1:Rep X.K ⟨X.mg,F⟩ μ H d v) (q1:RelV v u) (r2:Rep X.K ⟨X.mg,F⟩ μ H e v') (q2:RelV v' z) {C:Bool→Shared→Prop}  (hC:C (ltK (.seq t) d e) s):wpAny (model X.prog X.w) A (keyLt' (tuples' (Value.type (tyOf t) !=Value.type "tuple")) u z) C E s:=by
 obtain⟨xs,rfl,hx⟩:=a2c' h1;obtain⟨ys,rfl,hy⟩:=a2c' h2;obtain⟨a,as,rfl,ha,ra⟩:=a0r' r1;obtain⟨b,bs,rfl,hb,rb⟩:=a0r' r2;cases q1;cases q2;obtain⟨us,ru,pa,_⟩:=I.tuple ha;obtain⟨zs,rz,pb,_⟩:=I.tuple hb;obtain⟨oa,ea,_,na,da⟩:=pa;obtain⟨ob,eb,_,nb,db⟩:=pb;refine kat_lt ea da eb db ?_;have l1:xs.length=us.length:=by rw[ra.length,ru.length]
 have l2:ys.length=zs.length:=by rw[rb.length,rz.length]
 have:=a8u' (prog:=X.prog) (w:=X.w) (A:=A) (s:=s) (Q:=C) (t:=t) (b:=(Value.type (tyOf t) !=Value.type "tuple")) (λhb=>?_) xs ys us zs 0 hx hy l1 l2 (λj d e u z g1 g2 g3 g4=>?_) hC
 ·simpa using this
 ·cases t with
  |int=>rfl
  |seq t=>exact absurd hb (by show ¬((Value.type "tuple" !=Value.type "tuple")=true);decide)
 ·obtain⟨w1,e1,k1⟩:=ra.get g1;obtain⟨w2,e2,k2⟩:=rb.get g2;obtain⟨u',e3,k3⟩:=ru.get e1;obtain⟨z',e4,k4⟩:=rz.get e2;rw[g3]at e3;cases e3;rw[g4]at e4;cases e4;obtain⟨c1,c2⟩:=cmpK I sk hs hd (A:=A) (by omega) (hx d (Zv g1)) (hy e (Zv g2)) k1 k3 k2 k4;refine⟨c1,c2,λht=>?_⟩;subst ht;obtain⟨i,rfl⟩:=a1P' (hx d (Zv g1));obtain⟨j,rfl⟩:=a1P' (hy e (Zv g2));cases a0a' k1;cases a0a' k2;obtain⟨ta,rfl⟩:=k3;obtain⟨tb,rfl⟩:=k4;exact⟨i,j,ta,tb,rfl,rfl,rfl,rfl⟩
section
variable {t:KTy}{vs:List V}
theorem no_str(hso:a1r' t ys=true):noStr t=true:=by
 cases t with
 |int=>rfl
 |seq t=>unfold a1r' at hso;simp only[Zt]at hso;exact hso.1
theorem atK(hty':∀y∈ys,hasTy t y=true)(rr:RepL X.K ⟨X.mg,F⟩ μ H ys vs)(hv:Vals vs its):∀i,i<its.length→∃d v u,ys[i]?=some d∧vs[i]?=some v∧its[i]?=some u∧hasTy t d=true∧Rep X.K ⟨X.mg,F⟩ μ H d v∧RelV v u∧ys.getD i .non=d∧its.getD i Value.none=u:=λi hi=>by have l1:ys.length=vs.length:=rr.length;have l2:vs.length=its.length:=hv.length;have e1:ys[i]?=some ys[i]:=Zm (by omega);obtain⟨v,e2,k⟩:=rr.get e1;obtain⟨u,e3,k2⟩:=hv.get e2;exact⟨_,v,u,e1,e2,e3,hty' _ (List.getElem_mem _),k,k2,by simp[List.getD,e1],by simp[List.getD,e3]⟩
theorem askS(I:Inv X pq σ H s)(sk:SOk X.K ⟨X.mg,F⟩ μ S H)(hu:X.A.units+64<cLine)(hdt:depth t≤40)(hty':∀y∈ys,hasTy t y=true)(hso:a1r' t ys=true)(rr:RepL X.K ⟨X.mg,F⟩ μ H ys vs)(hv:Vals vs its)(h2:2≤its.length):
  ∃κ:SortKind,SOrd its.length (λi j=>ltK t (ys.getD i .non) (ys.getD j .non))∧(∀i j,i<its.length→j<its.length→its.getD i Value.none=its.getD j Value.none→rankN its.length (λi j=>ltK t (ys.getD i .non) (ys.getD j .non)) i=rankN its.length (λi j=>ltK t (ys.getD i .non) (ys.getD j .non)) j)∧∀h':Heap,(∀b o,s.heap.get? b=some o→h'.get? b=some o)→
   (∀(E':Vs) (Q':SortKind→Shared→Prop),Q' κ {s with heap:=h'}→wpAny (model X.prog X.w) X.A.in1.in1 (keyKind' its.toArray) Q' E' {s with heap:=h'})∧
   ∀i j C,i<its.length→j<its.length→C (ltK t (ys.getD i .non) (ys.getD j .non)) {s with heap:=h'}→kas_ask X.prog X.w X.A.in1.in1 κ its i j C {s with heap:=h'}:=by
 have hs:noStr t=true:=no_str hso;have lo:=lordK t hs;have at_:=atK hty' rr hv
 have ord:SOrd its.length (λi j=>ltK t (ys.getD i .non) (ys.getD j .non)):=by
  have ty:∀i,i<its.length→hasTy t (ys.getD i .non)=true:=λi hi=>by obtain⟨d,v,u,e1,e2,e3,k1,k2,k3,k4,k5⟩:=at_ i hi;rw[k4];exact k1
  exact⟨λi hi=>lo.irr _ (ty i hi),λi j hi hj=>lo.asym _ _ (ty i hi) (ty j hj),λi j k hi hj hk=>lo.ntr _ _ _ (ty i hi) (ty j hj) (ty k hk)⟩
 have same:∀i j,i<its.length→j<its.length→its.getD i Value.none=its.getD j Value.none→rankN its.length (λi j=>ltK t (ys.getD i .non) (ys.getD j .non)) i=rankN its.length (λi j=>ltK t (ys.getD i .non) (ys.getD j .non)) j:=λi j hi hj hij=>by obtain⟨d,v,u,e1,e2,e3,g1,g2,g3,g4,g5⟩:=at_ i hi;obtain⟨d',v',u',e1',e2',e3',g1',g2',g3',g4',g5'⟩:=at_ j hj;rw[g5,g5']at hij;subst hij;have ev:v=v':=g3.inj g3';subst ev;have:=b0k' I sk 40 d d' v _ g2 g2' (asK S t hs 40 hdt d d' g1 g1').1;have hde:=b1Q' hs g1 g1' this;subst hde;unfold rankN;simp only[g4,g4']
 have hu2:(X.A.in1.in1).units+42<cLine:=by show X.A.units+1+1+42<cLine;omega
 cases t with
 |int=>
  refine⟨oneType',ord,same,λh' kp=>⟨λE' Q' q=>?_,λi j C hi hj hC=>?_⟩⟩
  ·have I':Inv X pq σ H {s with heap:=h'}:=I.kept (t':=s.toks) kp;refine kas_kind (T:=.type "int") h2 (λu hu=>?_) (by decide) (by decide) q;obtain⟨i,hi,rfl⟩:=ZQ.mp hu;obtain⟨d,v,u,e1,e2,e3,g1,g2,g3,g4,g5⟩:=at_ i hi;rw[Zm hi]at e3;cases e3;exact looksK (t:=.int) I' rfl g1 g2 g3
  ·obtain⟨d,v,u,e1,e2,e3,g1,g2,g3,g4,g5⟩:=at_ i hi;obtain⟨d',v',u',e1',e2',e3',g1',g2',g3',g4',g5'⟩:=at_ j hj;unfold kas_ask;rw[g5,g5'];rw[g4,g4']at hC;obtain⟨x,rfl⟩:=a1P' g1;obtain⟨y,rfl⟩:=a1P' g1';cases a0a' g2;cases a0a' g2';obtain⟨ta,rfl⟩:=g3;obtain⟨tb,rfl⟩:=g3';exact kat_lt_int hC
 |seq t=>
  unfold a1r' at hso;have hso2:=(Bool.and_eq_true_iff.mp hso).2;have hso3:=hso2
  have hne:∀y∈ys,hasTy (.seq t) y=true∧y≠.tup []:=λy hy=>⟨hty' y hy,λz=>by have:=Zz.mp hso3 y hy;rw[z]at this;cases this⟩;refine⟨tuples' (Value.type (tyOf t) !=Value.type "tuple"),ord,same,λh' kp=>⟨λE' Q' q=>?_,λi j C hi hj hC=>?_⟩⟩
  ·have I':Inv X pq σ H {s with heap:=h'}:=I.kept (t':=s.toks) kp;obtain⟨fs,f1,f2,f3⟩:=a4S' (t:=t) I' hs ys vs its hne rr hv;exact kat_kind (T:=.type (tyOf t)) f1 (by omega) f3 (by simp) q
  ·have I':Inv X pq σ H {s with heap:=h'}:=I.kept (t':=s.toks) kp;obtain⟨d,v,u,e1,e2,e3,g1,g2,g3,g4,g5⟩:=at_ i hi;obtain⟨d',v',u',e1',e2',e3',g1',g2',g3',g4',g5'⟩:=at_ j hj;unfold kas_ask;rw[g5,g5'];rw[g4,g4']at hC;exact askK (t:=t) I' sk hs (by simp[depth]at hdt;omega) hu2 g1 g1' g2 g3 g2' g3' hC
theorem outK(hso:a1r' t ys=true)(hty':∀y∈ys,hasTy t y=true)(rr:RepL X.K ⟨X.mg,F⟩ μ H ys vs)(hv:Vals vs its){out:Lv}(O:Outs its (λi j=>ltK t (ys.getD i .non) (ys.getD j .non)) out):∃ws,ws.length=its.length∧RepL X.K ⟨X.mg,F⟩ μ H (a3j' (ltK t) ys) ws∧Vals ws out:=by
 have hs:noStr t=true:=no_str hso;have at_:=atK hty' rr hv;have l1:ys.length=vs.length:=rr.length;have l2:vs.length=its.length:=hv.length;obtain⟨p,rfl,pp,pw⟩:=O;have hp:∀i∈p,i<its.length:=λi hi=>by simpa using pp.mem_iff.mp hi
 have hlen:p.length=its.length:=by rw[pp.length_eq];simp
 have fin:RepL X.K ⟨X.mg,F⟩ μ H (p.map λi=>ys.getD i .non) (p.map λi=>vs.getD i .non):=RepL.of (by simp) λj d v h1 h2=>by
  rw[ZB]at h1 h2;cases ej:p[j]? with
  |none=>rw[ej]at h1;cases h1
  |some i=>
   rw[ej]at h1 h2;obtain⟨d',v',u',e1',e2',e3',g1',g2',g3',g4',g5'⟩:=at_ i (hp i (Zv ej));cases h1;cases h2;show Rep X.K ⟨X.mg,F⟩ μ H (ys.getD i .non) (vs.getD i .non);rw[g4'];have:vs.getD i .non=v':=by simp[List.getD,e2']
   rw[this];exact g2'
 have fin2:Vals (p.map λi=>vs.getD i .non) (p.map λi=>its.getD i Value.none):=by
  have:∀(l:List Nat),(∀i∈l,i<its.length)→Vals (l.map λi=>vs.getD i .non) (l.map λi=>its.getD i Value.none):=by
   intro l
   induction l with
   |nil=>exact λ_=>.nil
   |cons i l ih=>
    intro h;obtain⟨d',v',u',e1',e2',e3',g1',g2',g3',g4',g5'⟩:=at_ i (h i Zd);refine .cons ?_ (ih λj hj=>h j (Zb _ hj));have:vs.getD i .non=v':=by simp[List.getD,e2']
    show RelV (vs.getD i .non) (its.getD i Value.none);rw[this,g5'];exact g3'
  exact this p hp
 have srt:(p.map λi=>ys.getD i .non)=a3j' (ltK t) ys:=by
  refine a3n' hs hty' ?_ ?_
  ·have:=pp.map λi=>ys.getD i .non;refine this.trans (.of_eq ?_);refine List.ext_getElem (by simp;omega) λi h1 h2=>?_;simp[h2]
  ·rw[List.pairwise_map];exact pw
 rw[←srt];exact⟨_,by rw[Zj];exact hlen,fin,fin2⟩
end
theorem b1R'(hu:X.A.units+64<cLine)(box:Bool)(t:KTy)(hdt:depth t≤40):CallR X (.builtin "sorted") (rC X.K X.mg (a4J' box t)):=by
 intro pq s σ H xs us Q I r h;obtain⟨F,μ,S,ds,sk,rl,w⟩:=h;unfold a4J' at w;split at w
 ·rename_i d;obtain⟨v,rfl,rd⟩:=rl.one;obtain⟨u,rfl,ru⟩:=vals1 r;split at w
  ·rename_i ys e;split at w
   ·rename_i hc;obtain⟨hty,h64,hso⟩:=hc;have hty':∀y∈ys,hasTy t y=true:=λy hy=>Zz.mp hty y hy;obtain⟨a,vs,rfl,hq,rr⟩:=a3N' sk rd e;cases ru
    obtain⟨b,its,hl,hv⟩:∃b its,IsSq b s.heap a (List.toArray its)∧Vals vs its:=by
     rcases hq with hq|hq
     ·obtain⟨its,r',p,_⟩:=I.list hq;exact⟨true,its,p.isList,r'⟩
     ·obtain⟨its,r',p,_⟩:=I.tuple hq;exact⟨false,its,p,r'⟩
    refine a6Q' (c:=λi j=>ltK t (ys.getD i .non) (ys.getD j .non)) hl (by have:its.length=ys.length:=(rr.length.trans hv.length).symm;omega) (λh2=>askS I sk hu hdt hty' hso rr hv h2) λh1 h' c2 out k1 k2 eo O=>?_;obtain⟨ws,hlen,fin,fin2⟩:=outK (X:=X) hso hty' rr hv O;have I1:Inv X pq σ H {s with heap:=h1}:=I.kept (t':=s.toks) k1;have I2:Inv X pq σ (upd H h1.objs.size (.lst ws)) {s with heap:=h'}:=I1.laid (t':=s.toks) k2 (Zk _) ⟨by have:its.length=ys.length:=(rr.length.trans hv.length).symm;rw[hlen,sizeLine_eq];omega,_,c2,fin2,eo⟩;have hfr:H h1.objs.size=none:=I1.hok.fresh (Zk _);refine⟨.ref h1.objs.size,_,I2,rfl,?_⟩;cases box with
    |true=>exact Want.box w sk fin _ hfr
    |false=>exact Want.lst w sk fin _ hfr
   ·exact w.elim
  ·exact w.elim
 ·exact w.elim
end Py
namespace Py
open PySem PySem.W PySem.Spec PyProof.Rows L2
theorem b1S'{f:α→β}:∀{l:List α} {us:List β},us.Perm (l.map f)→∃l':List α,l'.Perm l∧us=l'.map f:=λ{l us} p=>by
 generalize hm:l.map f=ms at p
 induction p generalizing l with
 |nil=>exact⟨[],by rw[List.map_eq_nil_iff.mp hm],rfl⟩
 |cons x p ih=>obtain⟨a,l1,rfl,rfl,h2⟩:=List.map_eq_cons_iff.mp hm;obtain⟨l',q,rfl⟩:=ih h2;exact⟨a::l',q.cons a,rfl⟩
 |swap x y l0=>obtain⟨a,l1,rfl,rfl,h2⟩:=List.map_eq_cons_iff.mp hm;obtain⟨b,l2,rfl,rfl,rfl⟩:=List.map_eq_cons_iff.mp h2;exact⟨b::a::l2,List.Perm.swap _ _ _,rfl⟩
 |trans p q ih1 ih2=>obtain⟨l1,q1,e⟩:=ih2 hm;obtain⟨l2,q2,e2⟩:=ih1 e.symm;exact⟨l2,q2.trans q1,e2⟩
theorem a6t'{K:Fg}{mg:GS}{μ:La}{H:Hp}:∀ns:Li,RepL K mg μ H (ns.map D.int) (ns.map V.int)
 | []=>.nil
 |n::ns=>.cons a0L' (a6t' ns)
theorem a8v'{K:Fg}{mg:GS}{μ:La}{H:Hp}:∀{cs:List (Li×Addr)},(∀c∈cs,SqT K H c.2 (c.1.map V.int))→RepL K mg μ H (cs.map λc=>D.tup (c.1.map D.int)) (cs.map λc=>V.ref c.2)
 | [],_=>.nil
 |c::cs,h=>.cons (by unfold Rep;exact⟨_,_,rfl,h c Zd,a6t' c.1⟩) (a8v' λd hd=>h d (Zb _ hd))
theorem a4T':∀cs:List (Li×Addr),Vals (cs.map λc=>V.ref c.2) (cs.map λc=>Value.ref c.2)
 | []=>.nil
 |c::cs=>.cons rfl (a4T' cs)
theorem b0E'(k:Li):hasTy (.seq .int) (.tup (k.map D.int))=true:=by show(k.map D.int).all (hasTy .int)=true;rw[Zz];intro x hx;obtain⟨i,_,rfl⟩:=Zq.mp hx;rfl
theorem a8w'{a:Addr}{L:Lv}(hcol:∀{Q:Lv→Shared→Prop} {E':Vs},(∀(h':Heap) (tk:Nat) (vs:Lv),(∀b o,s.heap.get? b=some o→h'.get? b=some o)→vs.Perm L→Q vs {s with heap:=h',toks:=tk})→wpAny (model prog w) A.in1 (collect (.ref a)) Q E' s)(few:L.length<64)
  (hk:∀(h1:Heap) (tk:Nat) (vs:Lv),(∀b o,s.heap.get? b=some o→h1.get? b=some o)→vs.Perm L→∃c,(2≤vs.length→∃κ:SortKind,SOrd vs.length c∧(∀i j,i<vs.length→j<vs.length→vs.getD i Value.none=vs.getD j Value.none→rankN vs.length c i=rankN vs.length c j)∧∀h':Heap,(∀b o,h1.get? b=some o→h'.get? b=some o)→
   (∀(E':Vs) (Q':SortKind→Shared→Prop),Q' κ {s with heap:=h',toks:=tk}→wpAny (model prog w) A.in1.in1 (keyKind' vs.toArray) Q' E' {s with heap:=h',toks:=tk})∧
   ∀i j C,i<vs.length→j<vs.length→C (c i j) {s with heap:=h',toks:=tk}→kas_ask prog w A.in1.in1 κ vs i j C {s with heap:=h',toks:=tk})∧
   ∀(h':Heap) (c2:Nat) (out:Lv),(∀b o,h1.get? b=some o→h'.get? b=some o)→h'.get? h1.objs.size=some (seqObj "list" out.toArray c2)→Outs vs c out→Q (.ref h1.objs.size) {s with heap:=h',toks:=tk}):
  wpAny (model prog w) A (call (.builtin "sorted") [.ref a]) Q E s:=by
 refine Calls.call_function_entry kind_sorted plain_sorted entry_sorted (args_sorted1 _) ?_;unfold Builtin.«sorted»;refine Za (m:=checkCount "sorted" 1 1 _) (Ze (Za (hcol λh1 tk vs k1 pm=>?_)));obtain⟨c,hk,fin⟩:=hk h1 tk vs k1 pm;have h63:vs.length<64:=by rw[pm.length_eq];exact few
 have hz:vs.length≤sizeLine:=by rw[sizeLine_eq];omega
 refine Za (wpAny_newList ?_ hz);have hoL:(h1.push (seqObj "list" vs.toArray 0)).get? h1.objs.size=some (seqObj "list" vs.toArray 0):=Zl _ rfl;refine Za (ZY (ZH slot_list_sort ⟨_,hoL,rfl⟩ entry_list_sort ?body (args_list_sort _)))
 case body=>
  refine a3o' (c:=c) (s:={s with heap:=h1.push (seqObj "list" vs.toArray 0),toks:=tk}) hoL h63 (λh2=>?_) λh' c2 out kp e O=>?_
  ·obtain⟨κ,o,same,hk⟩:=hk h2;refine⟨κ,o,same,λh' kp=>?_⟩;obtain⟨q1,q2⟩:=hk h' λb o e=>kp b o (Zw (Zn e)) (Zc _ e);exact⟨q1 _,q2⟩
  ·exact⟨_,rfl,Ze ⟨_,rfl,fin h' c2 out (λb o e=>kp b o (Zw (Zn e)) (Zc _ e)) e O⟩⟩
theorem a3Y'{p:Addr}{ks:List (Li×Addr)}{E:Vs}(hc:X.calm=true)(hu:X.A.units+64<cLine)(I:Inv X pq σ H s)(sk:SOk X.K ⟨X.mg,F⟩ μ S H)(hk:∀c∈ks,SqT X.K H c.2 (c.1.map V.int))(hn:∀c∈ks,c.1≠[])(few:ks.length<64)
  (hcol:∀{Q:Lv→Shared→Prop} {E':Vs},(∀(h':Heap) (tk:Nat) (vs:Lv),(∀b o,s.heap.get? b=some o→h'.get? b=some o)→vs.Perm (cs.map λc=>Value.ref c.2)→Q vs {s with heap:=h',toks:=tk})→wpAny (model X.prog X.w) X.A.in1 (collect (.ref p)) Q E' s) (nod:(cs.map (·.1)).Nodup) (e1:∀k,k∈cs.map (·.1)↔k∈ks.map (·.1)) (e2:∀c∈cs,c∈ks)
  (fin:∀(h1 h':Heap) (tk c2:Nat) (out:Lv) (ws:List V),(∀b o,s.heap.get? b=some o→h1.get? b=some o)→(∀b o,h1.get? b=some o→h'.get? b=some o)→h'.get? h1.objs.size=some (seqObj "list" out.toArray c2)→ws.length≤76→RepL X.K ⟨X.mg,F⟩ μ H (sortT (ks.map (·.1))) ws→Vals ws out→Q (.ref h1.objs.size) {s with heap:=h',toks:=tk}):
  wpAny (model X.prog X.w) X.A (call (.builtin "sorted") [.ref p]) Q E s:=by
 have hl:cs.length<64:=by have h1:=nod.length_le_of_subset λk hk=>(e1 k).mp hk;rw[Zj,Zj]at h1;omega
 refine a8w' hcol (by rw[Zj];exact hl) λh1 tk us k1 pm=>?_;have I1:Inv X pq σ H {s with heap:=h1,toks:=tk}:=I.kept (t':=tk) k1
 obtain⟨cs',pc,rfl⟩:∃cs':List (Li×Addr),cs'.Perm cs∧us=cs'.map λc=>Value.ref c.2:=by exact b1S' pm
 have mem:∀c∈cs',c∈ks:=λc hc=>e2 c (pc.mem_iff.mp hc);have rr:RepL X.K ⟨X.mg,F⟩ μ H (cs'.map λc=>D.tup (c.1.map D.int)) (cs'.map λc=>V.ref c.2):=a8v' λc hc=>hk c (mem c hc);have hv:Vals (cs'.map λc=>V.ref c.2) (cs'.map λc=>Value.ref c.2):=a4T' cs'
 have hty:∀y∈(cs'.map λc=>D.tup (c.1.map D.int)),hasTy (.seq .int) y=true:=λy hy=>by obtain⟨c,_,rfl⟩:=Zq.mp hy;exact b0E' c.1
 have hso:a1r' (.seq .int) (cs'.map λc=>D.tup (c.1.map D.int))=true:=by
  show(true&&((cs'.map λc=>D.tup (c.1.map D.int)).all λd=> !isNil d))=true;rw[Zz.mpr]
  ·rfl
  ·intro y hy;obtain⟨c,hc,rfl⟩:=Zq.mp hy;have:=hn c (mem c hc);cases h:c.1 with
   |nil=>exact absurd h this
   |cons a l=>rfl
 refine⟨_,λh2=>askS I1 sk hu (by decide) hty hso rr hv h2,λh' c2 out k2 e O=>?_⟩;obtain⟨ws,w1,w2,w3⟩:=outK (X:=X) hso hty rr hv O;refine fin h1 h' tk c2 out ws k1 k2 e (by rw[w1,Zj,pc.length_eq];omega) ?_ w3
 have:sortT (ks.map (·.1))=a3j' (ltK (.seq .int)) (cs'.map λc=>D.tup (c.1.map D.int)):=by
  unfold sortT;refine(a3n' (t:=.seq .int) rfl (λy hy=>?_) ((a1a' _ _).trans ?_) (a3m' (lordK (.seq .int) rfl) _ hty)).symm
  ·obtain⟨k,_,rfl⟩:=Zq.mp hy;exact b0E' k
  ·have p1:(cs'.map (·.1)).Perm (dedT (ks.map (·.1))):=by
    obtain⟨a,b⟩:=a3a' (ks.map (·.1));refine(pc.map _).trans ((List.perm_ext_iff_of_nodup nod a).mpr λk=>(e1 k).trans (b k).symm)
   have:=p1.map λk=>D.tup (k.map D.int);rw[ZL]at this;exact this
 rw[this];exact w2
theorem a6R'{p:Addr}{ks:List (Li×Addr)}{E:Vs}(hc:X.calm=true)(hu:X.A.units+64<cLine)(I:Inv X pq σ H s)(sk:SOk X.K ⟨X.mg,F⟩ μ S H)(hk:∀c∈ks,SqT X.K H c.2 (c.1.map V.int))(hn:∀c∈ks,c.1≠[])(few:ks.length<64)
  (x:SetK X.prog X.w s.heap p cs) (e1:∀k,k∈cs.map (·.1)↔k∈ks.map (·.1)) (e2:∀c∈cs,c∈ks)
  (fin:∀(h1 h':Heap) (tk c2:Nat) (out:Lv) (ws:List V),(∀b o,s.heap.get? b=some o→h1.get? b=some o)→(∀b o,h1.get? b=some o→h'.get? b=some o)→h'.get? h1.objs.size=some (seqObj "list" out.toArray c2)→ws.length≤76→RepL X.K ⟨X.mg,F⟩ μ H (sortT (ks.map (·.1))) ws→Vals ws out→Q (.ref h1.objs.size) {s with heap:=h',toks:=tk}):
  wpAny (model X.prog X.w) X.A (call (.builtin "sorted") [.ref p]) Q E s:=by
 obtain⟨o,ep,t,g,ex,d,led,pl,tt⟩:=x.obj;have fit:=tt.fits.2;rw[Zj]at fit;have hsz:(cs.map (entC X.prog X.w)).toArray.size=cs.length:=by simp
 have hl:cs.length<64:=by have h1:=x.nod.length_le_of_subset λk hk=>(e1 k).mp hk;rw[Zj,Zj]at h1;omega
 refine a3Y' hc hu I sk hk hn few (λfin=>a6P' (by simpa using I.ok.hd hc) ⟨by rw[hsz];exact fit,led,pl,tt.ris⟩ g ex d (by rw[hsz];omega) λh' tk vs k pm=>fin h' tk vs k ?_) x.nod e1 e2 fin;have:(List.map (λe:Int×Value=>e.2) (cs.map (entC X.prog X.w)).toArray.toList)=cs.map λc=>Value.ref c.2:=by rw[ZL];exact List.map_congr_left λc _=>rfl
 rw[←this];exact pm
end Py
namespace Py
theorem new_set(q:Q (.ref s.heap.objs.size) {s with heap:=s.heap.push (setO (!byT w))}):wpAny (model prog w) A (newSet (.type "set")) Q E s:=by unfold newSet setsByText;refine Za ?_;refine Za (wpAny_askSetting (Ze ?_));exact ZD q
theorem b1T'{b:Addr}{k:Li}(x:SetK prog w s.heap a cs)(hx:TupK prog w s.heap k b)(hu:A.units+64<cLine)(few:cs.length<76)
  (fin:∀h' tk cs',Heap.SameBut a s.heap h'→SetK prog w h' a cs'→(∀k',k'∈cs'.map (·.1)↔k'∈cs.map (·.1)∨k'=k)→(∀c∈cs',c∈cs∨c=(k,b))→Q .none {s with heap:=h',toks:=tk}):
  wpAny (model prog w) A (call (.builtin "set.add") [.ref a,.ref b]) Q E s:=by
 obtain⟨o,ep,t,g,ex,r⟩:=id x.obj;refine ZH F.slot_set_add ⟨o,g,ex.1⟩ F.entry_set_add ?_ (F.args_set_add_2 _ _);unfold Builtin.«set.add» Builtin.Frozenset.oneOther;simp only[List.isEmpty_nil,bind_assoc];unfold Builtin.Frozenset.addrOf setAdd;refine Za (Ze ?_)
 try dsimp only
 refine Za (Ze ?_)
 try dsimp only
 refine Za (ZY (Za (wpAny_pyHash_tuple (by show A.units+1<cLine;omega) hx ?_)));refine add_k (s:={s with toks:=s.toks+(k.length+1)}) x hx (by show A.units+1<cLine;omega) few λh' cs' b sb x' e1 e2 _=>?_;exact Ze ⟨_,rfl,fin h' _ cs' sb x' e1 e2⟩
def oS(prog:Program)(w:World)(acc:Addr)(ds:List D)(vs:List V)(o:HO):Prop:=∃ks cs:List (Li×Addr),ds=(ks.map λc=>D.tup (c.1.map D.int))∧vs=(ks.map λc=>V.ref c.2)∧o=.ext (λh=>ObK prog w h acc cs)∧(cs.map (·.1)).Nodup∧(∀k,k∈cs.map (·.1)↔k∈ks.map (·.1))∧(∀c∈cs,c∈ks)∧(∀c∈ks,c.1≠[])∧ks.length<64
theorem a3p'{K:Fg}{mg:GS}{μ:La}{H:Hp}:∀{ks:List (Li×Addr)},RepL K mg μ H (ks.map λc=>D.tup (c.1.map D.int)) (ks.map λc=>V.ref c.2)→∀c∈ks,SqT K H c.2 (c.1.map V.int)
 | [],_,c,h=>by cases h
 |k::ks,r,c,h=>by
  obtain⟨v,vs,e,r1,r2⟩:=r.uncons;injection e with e1 e2
  subst e1 e2;rcases Zo.mp h with rfl|h
  ·obtain⟨a,ws,e,hq,rl⟩:=a0r' r1;cases e;rw[←a4o' rl];exact hq
  ·exact a3p' r2 c h
theorem ob_ext(x:ObK prog w h a cs):ObjOk prog w H h a (.ext (λh=>ObK prog w h a cs)):=
 ⟨x,let⟨o,_,_,g,_⟩:=x;⟨o,g⟩,λh1 h2 ⟨o,ep,t,g,r⟩ k=>⟨o,ep,t,k o g,r⟩⟩
theorem ty_tup{y:D}(h:hasTy (.seq .int) y=true):∃k:Li,y=.tup (k.map D.int):=by
 cases y with
 |tup ds=>exact⟨ds.filterMap asInt,congrArg D.tup (b0w' h)⟩
 |_=>cases h
noncomputable def ceK(kd:Bool)(el:Expr)(gens:List Comprehension)(sc:Scope)(p:Pos):Expr:=match kd with
 |true=>.SetComp el gens sc p
 |false=>.ListComp el gens sc p
noncomputable def emK(kd:Bool)(el:Expr)(acc:Value)(env:Env):Sem Unit:=match kd with
 |true=>emS1 el acc env
 |false=>emL1 el acc env
def oK(X:Cx)(kd:Bool):Addr→List D→List V→HO→Prop:=match kd with
 |true=>oS X.prog X.w
 |false=>oL
theorem a9J'{kd:Bool}{pos:Pos}{d:Nat}{it acc:Value}{t i:Expr}{fs:Lx}(h:gens[d]?=some ⟨t,i,fs,0⟩):
  compTurn (ceK kd elt gens scope pos) d it acc env=(standAt i.pos>>=λ_=>pyNext it>>=λr=>match r with
   |none=>pure (.done .next)
   |some v=>letOwnedTupleGo t it v>>=λ_=>assign t env v>>=λ_=>(a2T' fs env>>=λok=>if ok=true then cRest (ceK kd elt gens scope pos) (emK kd elt acc env) gens d acc env else pure ())>>=λ_=>
    again (.compLoop (ceK kd elt gens scope pos) d it acc env)):=by cases kd<;>exact b1E' h
section
variable {E:XK}
theorem c_emitK{d:Nat}{c:CE}(hu:X.A.units+64<cLine)(hg:gens[d+1]?=none)(he:PE X elt (tE X.K X.mg E Φ Γ c)):
  PB X (cRest ce (emS1 elt (.ref acc) X.env) gens d (.ref acc) X.env) (tB X.K X.mg (oS X.prog X.w) Φ Γ (.emitK c) acc):=by
 intro pq s σ H Q I zz;obtain⟨F,B,μ0,H0,μ,ρ,S,ds,vs,hB,st,w⟩:=zz;unfold cRest;rw[hg];show wpAny _ _ (eval elt X.env>>=λv=>standAt elt.pos>>=λ_=>call (.builtin "set.add") [.ref acc,v]>>=λ_=>pure ()) _ _ s;simp only[denB]at w;cases e:den Φ Γ c ρ S with
 |ok y S1=>
  rw[e]at w;have w':WantB X.K X.mg F acc (oS X.prog X.w acc) B μ0 H0 ρ Q (if ds.length<63∧hasTy (.seq .int) y=true∧isNil y=false then .ok (ds++[y]) S1 else .fail):=w;by_cases hl:ds.length<63∧hasTy (.seq .int) y=true∧isNil y=false
  ·rw[if_pos hl]at w';refine Za (thn (he pq s σ H (λv H1=>∃μ1,Ext μ H μ1 H1∧SOk X.K ⟨X.mg,acc::F⟩ μ1 S1 H1∧Rep X.K ⟨X.mg,acc::F⟩ μ1 H1 y v) I ⟨acc::F,μ,ρ,S,st.sok,st.env,?_⟩) λu s2 ⟨v,H2,I2,r2,μ1,x1,s1,r1⟩=>?_)
   ·rw[e];exact λμ1 H1 v x s r=>⟨μ1,x,s,r⟩
   ·have st1:=st.next hB x1 s1;obtain⟨k,rfl⟩:=ty_tup hl.2.1;obtain⟨a,ws,rfl,hq,rl⟩:=a0r' r1;cases a4o' rl;cases r2;obtain⟨o,ea,ks,cs,e1,e2,e3,e4,e5,e6,e7,e8⟩:=st1.at_;subst e1 e2 e3;have hks:=a3p' st1.rep;have ob:ObK X.prog X.w s2.heap acc cs:=(I2.hok acc _ ea).1;have sx:SetK X.prog X.w s2.heap acc cs:=⟨ob,λc hc=>a4P' I2 (hks c (e6 c hc)),e4⟩
    have few:cs.length<76:=by have h1:=e4.length_le_of_subset λk hk=>(e5 k).mp hk;have h2:=hl.1;simp only[Zj]at h1 h2;omega
    refine Za (wpAny_standAt (Za (b1T' sx (a4P' I2 hq) hu few λh' tk cs' sb x' f1 f2=>Ze ?_)));refine⟨σ,upd H2 acc (.ext λh=>ObK X.prog X.w h acc cs'),I2.write (t':=tk) (x:=acc) (e:=acc) (by rw[ea];trivial) (.inl rfl) (λb u hb e=>(sb.2 b hb).trans e) (let⟨o,_,_,g,_⟩:=x'.obj;⟨o,g⟩) (ob_ext x'.obj),?_⟩;refine w' μ1 _ σ (ks.map (λc=>V.ref c.2)++[.ref a]) (st1.put hB ea rfl r1 ?_);refine⟨ks++[(k,a)],cs',by simp,by simp,rfl,x'.nod,λk'=>?_,λc hc=>?_,λc hc=>?_,by have:=hl.1;simp at this⊢;omega⟩
    ·rw[f1 k',e5 k'];simp
    ·rcases f2 c hc with z|rfl
     ·exact List.mem_append_left _ (e6 c z)
     ·exact Zx _ Zd
    ·rcases ZX.mp hc with z|z
     ·exact e7 c z
     ·obtain rfl:=List.mem_singleton.mp z;exact λz=>by have z:k=[]:=z;subst z;cases hl.2.2
  ·rw[if_neg hl]at w';exact w'.elim
 |err y S1=>rw[e]at w;exact w.elim
 |fail=>rw[e]at w;exact w.elim
def rSC(X:Cx)(v:V)(H:Hp)(Q:VK):Prop:=∃(acc:Addr) (F μ:La) (S:Store) (ks cs:List (Li×Addr)),v=.ref acc∧SOk X.K ⟨X.mg,F⟩ μ S H∧H acc=some (.ext (λh=>ObK X.prog X.w h acc cs))∧(∀c∈ks,SqT X.K H c.2 (c.1.map V.int))∧(cs.map (·.1)).Nodup∧(∀k,k∈cs.map (·.1)↔k∈ks.map (·.1))∧(∀c∈cs,c∈ks)∧(∀c∈ks,c.1≠[])∧ks.length<64∧Want X.K ⟨X.mg,F⟩ μ H Q (.ok (.lst (sortT (ks.map (·.1)))) S)
def o0S(X:Cx)(a:Addr):HO:=.ext λh=>ObK X.prog X.w h a []
theorem asTups(ks:List (Li×Addr)):(ks.map λc=>D.tup (c.1.map D.int)).map asTup=ks.map (·.1):=by rw[ZL];refine List.map_congr_left λc _=>?_;show(c.1.map D.int).filterMap asInt=c.1;rw[List.filterMap_map];exact List.filterMap_some
theorem c_ssc{tg:CT}{it:CE}{ifs:List CE}{body:CE}{Q:VK}(h:tE X.K X.mg E Φ Γ (.ssc N' fr tg it ifs body) σ H Q):
  tComp (o0S X) (csOf fr) (tI X.K X.mg E Φ Γ it) (gCT X.K tg) (tC X.K X.mg (oS X.prog X.w) Φ Γ ifs body) σ H (λv H1=>rSC X v H1 Q):=by
 obtain⟨F,μ,ρ,S,sk,en,w⟩:=h;refine⟨F,μ,ρ,S,sk,en,?_⟩;simp only[den]at w;refine WantG.mono (Rel:=λμ' H' its J=>ItOk X.K ⟨X.mg,F⟩ J (getOf its) μ' H') (WantG.bind w) λJ H1 h acc hacc=>?_;obtain⟨μ1,S1,its,x1,s1,ok,w1⟩:=h
 have st:CSt X.K X.mg F acc (oS X.prog X.w acc) (λμ H=>Chg X.K F μ1 H1 (acc::F) μ H) μ1 H1 μ1 S1 (upd H1 acc (o0S X acc)) (fr.map λj=>j.bind λj=>(ρ[j]?).join) (csOf fr σ) [] []:={
  n0:=hacc
  ext:=.laid hacc
  sok:=s1.start hacc
  nin:=s1.notin hacc
  env:=(env_cs (en.mono x1)).chg (.start hacc)
  at_:=⟨_,a0y',[],[],rfl,rfl,rfl,.nil,λ_=>Iff.rfl,λ_ h=>h,λ_ h=>(nomatch h),by decide⟩
  rep:=.nil
  b:=.start hacc}
 refine a8d' (Q:=λ_ H=>rSC X (.ref acc) H Q) (B:=λμ H=>Chg X.K F μ1 H1 (acc::F) μ H) (n:=a5t' its) (λμa Ha μb Hb q c=>q.trans c) ok (.start hacc) st ?_;have w2:WantG X.K ⟨X.mg,F⟩ E (Rep X.K ⟨X.mg,F⟩) μ1 H1 Q ((compI (stepN Φ Γ tg ifs body (fr.map λj=>j.bind λj=>(ρ[j]?).join)) its [] S1).noErr.bind λys S5=>.ok (.lst (sortT (ys.map asTup))) S5):=w1;rw[a5u']at w2;cases e:compB (stepN Φ Γ tg ifs body (fr.map λj=>j.bind λj=>(ρ[j]?).join)) (getOf its) (a5t' its) 0 [] S1 with
 |ok ys S5=>rw[e]at w2;intro μ' H' σ' vs' st';obtain⟨o,ea,ks,cs,e1,e2,e3,e4,e5,e6,e7,e8⟩:=st'.at_;subst e1 e2 e3;have w3:WantG X.K ⟨X.mg,F⟩ E (Rep X.K ⟨X.mg,F⟩) μ1 H1 Q (.ok (.lst (sortT ((ks.map λc=>D.tup (c.1.map D.int)).map asTup))) S5):=w2;rw[asTups]at w3;exact⟨acc,F,μ',S5,ks,cs,rfl,st'.sok.out,ea,a3p' st'.rep,e4,e5,e6,e7,e8,λμ2 H2 v x s r=>w3 μ2 H2 v (st'.ext.trans x) s r⟩
 |err y S5=>rw[e]at w2;exact w2.elim
 |fail=>rw[e]at w2;exact w2.elim
theorem a8x'{pos:Pos}{cs:L2.St→L2.St}{g:TG}(hc:X.calm=true)(sc:CScope X scope)(hcs:CsOk X scope N cs)(hi:PI X tg iter wi)(body:Addr→Env→Sem Unit)
  (heq:∀(it acc:Addr) (env:Env),compTurn (.SetComp elt (⟨tg,iter,ifs,0⟩::rest) scope pos) 0 (.ref it) (.ref acc) env=(standAt iter.pos>>=λ_=>pyNext (.ref it)>>=λr=>match r with
   |none=>pure (.done .next)
   |some v=>letOwnedTupleGo tg (.ref it) v>>=λ_=>assign tg env v>>=λ_=>body acc env>>=λ_=>again (.compLoop (.SetComp elt (⟨tg,iter,ifs,0⟩::rest) scope pos) 0 (.ref it) (.ref acc) env)))
  (hin:∀(C:Addr) (s0:Shared) (H0:Hp) (fp:La) (acc:Addr),PG (cxC X scope N C s0 H0 fp) tg g∧PB (cxC X scope N C s0 H0 fp) (body acc (cxC X scope N C s0 H0 fp).env) (tb acc))
  (hs:∀x,foldedSetIterable iter X.env x=pure x):PE X (.SetComp elt (⟨tg,iter,ifs,0⟩::rest) scope pos) (tComp (o0S X) cs wi g tb):=by
 intro pq s σ H Q I h;show wpAny _ _ (comprehension (.SetComp elt (⟨tg,iter,ifs,0⟩::rest) scope pos) scope X.env _ (newSet (.type "set")) false (eval iter X.env)) _ _ s;refine wpAny_comprehension_free (use:=none) rfl hs (a7K' I sc) sc.kind sc.loc (wpAny_mono (hi pq s σ H _ I h) (λv s1 h1=>wpAny_mono h1 (λitv s2 h2=>?_) λ_ _ e=>e) λ_ _ e=>e);obtain⟨it,fp,tn,J,H2,e,I2,T,st2,f2,W⟩:=h2;subst e;refine a4g' (o0:=o0S X) rfl rfl (λq=>new_set q) (ob_ext (SetK.born s2.heap).obj) (R:=λacc C=>compPost (model X.prog X.w) X.A X.xe none (EP X pq σ Q) acc C) (Fin:=Q) hc sc hcs I2 T st2 f2 body (heq it) hin W ?_;intro acc C s' H' m hm _ _ _ _ _ hI fin;exact⟨m,hm,λh' hs'=>⟨.ref acc,H',hI h' hs',rfl,fin⟩⟩
theorem a5x'{ta:VK→L2.St→Hp→Prop}(hc:X.calm=true)(hu:X.A.units+64<cLine)(hg1:Gl X "sorted")(hm1:X.mg "sorted"=none)(hb:bootBuiltins "sorted"=some (.builtin "sorted"))(ha:PE X z (λσ H Q=>ta Q σ H))(hn:starEach [z] X.env=(false,eval z X.env)::starEach [] X.env):
  PE X (.Call (.Name "sorted" p1) [z] [] p4) (λσ H Q=>ta (λv H1=>rSC X v H1 Q) σ H):=by
 intro pq s σ H Q I h;refine wpAny_Call_Name_kw (a4D' I hg1 hm1 hb ?_ (by decide) (by decide));have hA:PA X [z] (tCons (λσ H Q=>ta Q σ H) tNil):=a7u' ha b1a' hn
 refine PyProof.Rows.callWith_builtin1 (thn (hA p4 pq s σ H (λvs H1=>match vs with
  | [x]=>rSC X x H1 Q
  |_=>False) I h) λus s1 ⟨vs,H1,I1,r,q⟩=>?_) hn rfl
 obtain⟨v,rfl⟩:∃v,vs=[v]:=by
  match vs,q with
  | [v],_=>exact⟨v,rfl⟩
 obtain⟨acc,F,μ,S,ks,cs,e,sk,ea,hk,e4,e5,e6,e7,e8,q⟩:=q;subst e;obtain⟨u,rfl,ru⟩:=r.one;cases ru;have ob:ObK X.prog X.w s1.heap acc cs:=(I1.hok acc _ ea).1;refine a6R' hc hu I1 sk hk e7 e8 ⟨ob,λc hc=>a4P' I1 (hk c (e6 c hc)),e4⟩ e5 e6 λh1 h2 tk2 c2 out ws k1 k2 g hl rw_ rv=>?_;have I3:Inv X pq σ H1 {s1 with heap:=h1,toks:=tk2}:=I1.kept (t':=tk2) k1;exact⟨.ref h1.objs.size,upd H1 h1.objs.size (.lst ws),I3.laid (t':=tk2) k2 (Zk _) ⟨by rw[sizeLine_eq];omega,out,c2,rv,g⟩,rfl,Want.lst q sk rw_ _ (I3.hok.fresh (Zk _))⟩
end
def enD(c:Li×Addr):Li×Addr×Value:=(c.1,c.2,.bool true)
theorem ObD.dictH(x:ObD h a cs)(key:∀c∈cs,TupK prog w h c.1 c.2)(nod:(cs.map (·.1)).Nodup):h.DictOfH (tupleKind (intKind prog w)) a (cs.map enD):=by
 obtain⟨_,o,es,ep,g,ex,d,e⟩:=x;refine⟨o,es,ep,g,ex,d,?_,λy hy=>?_,?_⟩
 ·rw[e,ZL];rfl
 ·obtain⟨c,hc,rfl⟩:=Zq.mp hy;exact key c hc
 ·rw[ZL];exact nod
theorem b1U'(hs:(a==sysModules)=false)(x:h.DictOfH (tupleKind (intKind prog w)) a (cs.map enD)):ObD h a cs:=by obtain⟨o,es,ep,g,ex,d,e,_⟩:=x;refine⟨hs,o,es,ep,g,ex,d,?_⟩;rw[e,ZL];rfl
theorem b1V'{k:Li}:(atKey (cs.map enD) k).isSome=decide (k∈cs.map (·.1)):=by
 unfold atKey;rw[Option.isSome_map,Bool.eq_iff_iff,List.find?_isSome,decide_eq_true_eq,Zq];constructor
 ·rintro⟨x,hx,e⟩;obtain⟨c,hc,rfl⟩:=Zq.mp hx;exact⟨c,hc,of_decide_eq_true e⟩
 ·rintro⟨c,hc,e⟩;exact⟨enD c,Zq.mpr ⟨c,hc,rfl⟩,ZI e⟩
theorem b1W'{k:Li}{b:Addr}:storedH (cs.map enD) k b (.bool true)=((if k∈cs.map (·.1)then cs else cs++[(k,b)]).map enD):=by
 unfold storedH;rw[b1V'];by_cases z:k∈cs.map (·.1)
 ·rw[if_pos (by simpa using z),if_pos z,ZL];refine List.map_congr_left λc _=>?_;show putAt k (.bool true) (enD c)=enD c;unfold putAt enD;split<;>rfl
 ·rw[if_neg (by simpa using z),if_neg z];simp[enD]
theorem put_D{b:Addr}{k:Li}{Q:Unit→Shared→Prop}(x:ObD s.heap a cs)(key:∀c∈cs,TupK prog w s.heap c.1 c.2)(nod:(cs.map (·.1)).Nodup)(hx:TupK prog w s.heap k b)(hu:A.units+64<cLine)(few:cs.length<100)
  (fin:∀h' tk,Heap.SameBut a s.heap h'→ObD h' a (if k∈cs.map (·.1)then cs else cs++[(k,b)])→Q () {s with heap:=h',toks:=tk}):wpAny (model prog w) A (setItem (.ref a) (.ref b) (.bool true)) Q E s:=by
 refine wpAny_setItem_heap (knd:=tupleKind (intKind prog w)) (show A.units+1<cLine by omega) hx (x.dictH key nod) (λh' m sb=>?_) (by rw[Zj,sizeLine_eq];omega);rw[b1W']at m;exact fin h' _ sb (b1U' x.1 m)
theorem di_new{es:Array DictEntry}(hs:(a==sysModules)=false)(g:s.heap.get? a=some o)(ex:o.ExactDict)(d:o.data=.dict es ep)
  (fin:Q (.ref s.heap.objs.size) {s with heap:=s.heap.push {cls:=.type "dict_keyiterator",data:=.fields #[.ref a,.int 0 0,.int es.size 0,.int ep 0]}}):wpAny (model prog w) A (pyIter (.ref a)) Q E s:=by
 have ty:s.TypeIs (.ref a) "dict":=⟨o,g,ex.1⟩;refine wpAny_pyIter_slot ty F.slot_dict_iter (ZH F.slot_dict_iter ty F.entry_dict_iter ?_ (F.args_dict_iter_1 _));unfold Builtin.«dict.__iter__» Builtin.Dict.dictSlotNone;refine Za (Za (wpAny_notOrdered_dict ty (Ze ?_)));show wpAny _ _ (Builtin.Dict.showsAll a>>=_) _ _ s;unfold Builtin.Dict.showsAll;rw[if_neg (by rw[hs];decide)];refine Za (Ze (Za (wpAny_dictEntries g d (Za (wpAny_dictEpoch g d ?_)))));exact Za (ZD (Ze ⟨_,rfl,"dict_keyiterator",_,⟨_,Zl _ rfl,rfl⟩,F.slot_dict_keyiterator_next.lookup,fin⟩))
theorem di_pre{es:Array DictEntry}{i:Nat}{Q:Ov→Shared→Prop}(hit:s.heap.IsKeyIter it a i es.size ep)(g:s.heap.get? a=some o)(d:o.data=.dict es ep)
  (some_:∀e,es[i]?=some e→∀h',h'.IsKeyIter it a (i+1) es.size ep→Heap.SameBut it s.heap h'→Q (some e.key) {s with heap:=h'}) (none_:es[i]?=none→A.handled=none∧∀h',Heap.ExtBut it s.heap h'→Q none {s with heap:=h'}):wpAny (model prog w) A (pyNext (.ref it)) Q E s:=by
 obtain⟨oi,gi,ci,di⟩:=id hit;unfold pyNext;refine Za (wpAny_attempt (ZP (name:=Str.ofString "__next__") hit.typeIs F.slot_dict_keyiterator_next (ZH F.slot_dict_keyiterator_next hit.typeIs F.entry_dict_keyiterator_next ?_ (F.args_dict_keyiterator_next_1 _))));refine Za (Ze (Za (Za ?_)))
 first|refine Za (wpAny_typeNameOfWhole_keyiter hit.typeIs (Ze ?_))|refine Za (wpAny_typeNameOf_keyiter hit.typeIs (Ze ?_))
 refine Za (wpAny_fieldsOf gi di ?_);simp only[show Builtin.Dict_items.ownsTuple "dict_keyiterator"=false by decide,Zr,Z0];show wpAny _ _ (if(Value.ref a==Value.none)=true then _ else _) _ _ s;rw[if_neg (show ¬((Value.ref a==Value.none)=true)from Bool.false_ne_true)];refine Za (Ze (Za (wpAny_dictEntries g d ?_)));rw[if_neg (by simp)];refine Za (Ze (Za (wpAny_dictEpoch g d ?_)));rw[if_neg (by simp)];refine Ze ?_;cases he:es[i]? with
 |some e=>
  simp only[show ¬((i:Int)<0)from by omega,Z0,ZK,he];refine Za ?_
  first|refine Za (wpAny_typeNameOfWhole_keyiter hit.typeIs (Ze ?_))|refine Za (wpAny_typeNameOf_keyiter hit.typeIs (Ze ?_))
  refine Za (wpAny_isOneOf_keyiter hit.typeIs ?_);show wpAny _ _ (setField (.ref it) 1 (rawInt ((i:Int)+1))>>=_) _ _ s;refine Za (wpAny_setField gi di (by simp) ?_)
  have hit':(s.heap.update it (Obj.mapFields (·.setIfInBounds 1 (rawInt ((i:Int)+1))))).IsKeyIter it a (i+1) es.size ep:=
   ⟨_,ZZ _ gi (Obj.isFreed_of_fields (Obj.data_mapFields di _)),(Obj.cls_mapFields ..).trans ci,by rw[Obj.data_mapFields di];simp[rawInt]⟩
  refine Za (ZY (Za (wpAny_isOneOf_keyiter (s:={s with heap:=s.heap.update it (Obj.mapFields (·.setIfInBounds 1 (rawInt ((i:Int)+1))))}) hit'.typeIs ?_)));show wpAny _ _ (pure e.key) _ _ _;exact Ze (Ze ⟨_,rfl,Ze (some_ e he _ hit' (ZN ..))⟩)
 |none=>
  obtain⟨hh,fin⟩:=none_ he;simp only[show ¬((i:Int)<0)from by omega,Z0,ZK,he];refine Za ?_
  first|refine Za (wpAny_typeNameOfWhole_keyiter hit.typeIs (Ze ?_))|refine Za (wpAny_typeNameOf_keyiter hit.typeIs (Ze ?_))
  show wpAny _ _ (setField (.ref it) 0 .none>>=_) _ _ s;refine Za (wpAny_setField gi di (by simp) ?_);show wpAny _ _ (newExc (.type "StopIteration") []>>=_) _ _ _;refine Za ?_;simp only[newExc,newTuple];refine Za (ZD (Za (m:=firstArgMember _ _) (wpAny_of_eq (a:=Value.none) (by first|rfl| (simp only[firstArgMember];rfl)) (ZD ?_ (by size_fits)))) (by size_fits));simp only[raiseNew];refine Za (wpAny_handled ?_);rw[show A.in1.handled=none from hh];refine Za (Ze (wpAny_throw ?_));exact Za (wpAny_isInstance (T:="StopIteration") (b:=true) ⟨_,Zl _ rfl,rfl⟩ isSubtype_stop (Ze (fin _ (((ZN ..).extBut.push _).push _))))
theorem Walks.dictD(calm:A.handled=none)(hne:a≠it){es:Array DictEntry}(d:o.data=.dict es ep):
  Walks prog w A it [it,a] [it] es.size (λi v=>∃e,es[i]?=some e∧v=e.key) (λi h=>h.IsKeyIter it a i es.size ep∧h.get? a=some o) where
 sub:=λb hb=>by simp at hb;simp[hb]
 frame:=λ_ _ _ st k=>⟨st.1.at λo e=>k it (by simp) o e,k a (by simp) o st.2⟩
 item:=λi s Q E hi st hQ=>by refine di_pre st.1 st.2 d (λe he h' hit' sb=>hQ _ h' s.toks ⟨e,he,rfl⟩ ⟨hit',sb.extBut a o hne st.2⟩ λb o hb e=>sb.extBut b o (λh=>hb (by simp[h])) e) λhe=>?_;rw[ZC hi]at he;cases he
 done:=λs Q E st hQ=>by refine di_pre st.1 st.2 d (λe he=>?_) λ_=>⟨calm,λh' he=>hQ h' s.toks λb o hb e=>he b o (λh=>hb (by simp[h])) e⟩;rw[Array.getElem?_eq_none (Zk _)]at he;cases he
 self:=λ_ _ _ _ st hQ=>wpAny_pyIter_keyiter st.1 hQ
theorem a5y'{es:Array DictEntry}{Q:Lv→Shared→Prop}(calm:A.handled=none)(hs:(a==sysModules)=false)(g:s.heap.get? a=some o)(ex:o.ExactDict)(d:o.data=.dict es ep)(few:es.size<1000)
  (fin:∀(h':Heap) (tk:Nat) (vs:Lv),(∀b o,s.heap.get? b=some o→h'.get? b=some o)→vs.Perm (es.toList.map (·.key))→Q vs {s with heap:=h',toks:=tk}):wpAny (model prog w) A (collect (.ref a)) Q E s:=by
 have ha:=Zn g;unfold collect;refine Za (wpAny_runValue (codeAny_builtin F.entry_proto_collect ?_));rw[Around.under_plainId F.plain_proto_collect];refine Za (m:=newList []) (ZD (Ze ⟨plainId_quiet F.plain_list_iadd _,codeAny_builtin F.entry_list_iadd ?_⟩));rw[Around.under_plainId F.plain_list_iadd];generalize hS:s.heap.objs.size=S;have hl:(s.heap.push {cls:=.type "list",data:=.seq ([]:Lv).toArray}).get? S=some {cls:=.type "list",data:=.seq #[]}:=by rw[←hS];exact Zl _ rfl
 have g1:(s.heap.push {cls:=.type "list",data:=.seq ([]:Lv).toArray}).get? a=some o:=Zc _ g;have k1:∀b o,s.heap.get? b=some o→(s.heap.push {cls:=.type "list",data:=.seq ([]:Lv).toArray}).get? b=some o:=λ_ _ e=>Zc _ e;generalize s.heap.push {cls:=.type "list",data:=.seq ([]:Lv).toArray}=h1 at hl g1 k1⊢;have ty:Shared.TypeIs {s with heap:=h1} (.ref a) "dict":=⟨o,g1,ex.1⟩;show wpAny _ A.in1 (Builtin.List.listExtendWith (.ref S) (.ref a) (.ref S)) _ _ _;unfold Builtin.List.listExtendWith;refine Za (wpAny_typeOf ty ?_)
 rw[if_neg (by
  have:S≠a:=by rw[←hS];exact Nat.ne_of_gt ha
  simp[Builtin.List.listSameRef,this])]
 refine Za (di_new hs g1 ex d ?_);have hn1:S<h1.objs.size:=Zn hl;have ha1:a<h1.objs.size:=Zn g1;have k2:∀b o,h1.get? b=some o→(h1.push {cls:=.type "dict_keyiterator",data:=.fields #[.ref a,.int 0 0,.int es.size 0,.int ep 0]}).get? b=some o:=λ_ _ e=>Zc _ e;have hit:(h1.push {cls:=.type "dict_keyiterator",data:=.fields #[.ref a,.int 0 0,.int es.size 0,.int ep 0]}).IsKeyIter h1.objs.size a 0 es.size ep:=⟨_,Zl _ rfl,rfl,rfl⟩;show wpAny _ A.in1 _ _ _ {s with heap:=h1.push {cls:=.type "dict_keyiterator",data:=.fields #[.ref a,.int 0 0,.int es.size 0,.int ep 0]}};generalize h1.push {cls:=.type "dict_keyiterator",data:=.fields #[.ref a,.int 0 0,.int es.size 0,.int ep 0]}=h2 at k2 hit⊢;have ty2:Shared.TypeIs {s with heap:=h2} (.ref a) "dict":=⟨o,k2 a o g1,ex.1⟩;refine Za (ZY ?_);unfold Builtin.List.listLengthHint;refine Za (wpAny_specialOf ty2 F.slot_dict_len.lookup ?_);have sp:splitId "dict.__len__"=some ("dict","__len__"):=by decide+kernel
 dsimp only;rw[sp];dsimp only;refine Za (wpAny_isInstance (b:=true) ty2 (by rw[isSubtype_type];kernel_rfl) ?_);rw[if_neg (show ¬((!true)=true)by decide)];refine wpAny_ite ?_;rw[if_pos]
 rotate_left
 ·decide+kernel
 refine Za (wpAny_typeOf ty2 (Ze ?_));refine wpAny_ite ?_;rw[if_pos]
 rotate_left
 ·decide+kernel
 refine Za (wpAny_rule ?_);have hl2:=k2 S _ hl;refine Za (m:=Builtin.List.listTouch (.ref S)) (Za (m:=updateSeq S (·.push .none)) (wpAny_updateSeq hl2 rfl ?_));have hl3:=ZZ (Obj.mapSeq (·.push Value.none)) hl2 rfl;refine wpAny_updateSeq hl3 rfl ?_;have hl4:=ZZ (Obj.mapSeq (·.pop)) hl3 rfl;have k4:∀b o,b≠S→h2.get? b=some o→((h2.update S (Obj.mapSeq (·.push Value.none))).update S (Obj.mapSeq (·.pop))).get? b=some o:=λb o nb e=>(Heap.get?_update_other _ _ (Ne.symm nb)).trans ((Heap.get?_update_other _ _ (Ne.symm nb)).trans e);have hSa:a≠S:=by rw[←hS];exact Zw ha
 have hSi:h1.objs.size≠S:=Nat.ne_of_gt hn1;have out:S∉[h1.objs.size,a]:=by simp only[Zo,ZO,or_false,not_or];exact⟨Ne.symm hSi,Ne.symm hSa⟩
 have W:=(Walks.dictD (A:=A.in1) (prog:=prog) (w:=w) (by simpa using calm) (Zw ha1) (it:=h1.objs.size) (o:=o) (ep:=ep) d).toS;refine Ze ⟨plainId_quiet F.plain_extend_loop _,codeAny_extend_loopS W (by rw[sizeLine_eq];omega) S out _ es.size 0 _ _ _ rfl (Nat.zero_le _) ⟨hit.at λo e=>k4 _ o hSi e,k4 a o hSa (k2 a o g1)⟩ hl4 (ItemsOf.nil _) λs' acc' c' mv hS' it'=>?_⟩;refine Za (wpAny_load hS' (Ze ?_));obtain⟨h',g',d',tk',os'⟩:=s';obtain⟨mh,mg,md,mo,_⟩:=mv;have eg:g'=s.gens:=mg;have ed:d'=s.drawn:=md;have eo:os'=s.os:=mo;subst eg ed eo;refine fin h' tk' _ (λb o' e=>?_) (.of_eq ?_)
 ·have hb:=Zn (k1 b o' e);have nS:b≠S:=by rw[←hS];exact Zw (Zn e)
  refine mh b o' ?_ (k4 b o' nS (k2 b o' (k1 b o' e)));simp only[Zo,ZO,or_false,not_or];exact⟨nS,Zw hb⟩
 ·refine List.ext_getElem? λj=>?_;rw[Array.getElem?_toList,ZB,Array.getElem?_toList];by_cases hj:j<acc'.size
  ·obtain⟨e,h1,h2⟩:=it'.2 j _ (ZC hj);rw[ZC hj,h1,h2];rfl
  ·have h0:=it'.1;rw[Array.getElem?_eq_none (by omega),Array.getElem?_eq_none (by omega)];rfl
section
variable {E:XK}
def rSD(K:Fg)(mg:Mg)(v:V)(H:Hp)(Q:VK):Prop:=∃(p:Addr) (F μ:La) (S:Store) (cs:List (Li×Addr)),v=.ref p∧SOk K ⟨mg,F⟩ μ S H∧H p=some (.ext λh=>ObD h p cs)∧(∀c∈cs,SqT K H c.2 (c.1.map V.int))∧(cs.map (·.1)).Nodup∧(∀c∈cs,c.1≠[])∧cs.length<64∧Want K ⟨mg,F⟩ μ H Q (.ok (.lst (sortT (cs.map (·.1)))) S)
theorem b1X'(hc:X.calm=true)(hu:X.A.units+64<cLine)(hg1:Gl X "sorted")(hm1:X.mg "sorted"=none)(hb:bootBuiltins "sorted"=some (.builtin "sorted"))(ha:PE X z ta)(hn:starEach [z] X.env=(false,eval z X.env)::starEach [] X.env):
  PE X (.Call (.Name "sorted" p1) [z] [] p4) (λσ H Q=>ta σ H λv H1=>rSD X.K X.mg v H1 Q):=by
 intro pq s σ H Q I h;refine wpAny_Call_Name_kw (a4D' I hg1 hm1 hb ?_ (by decide) (by decide));have hA:PA X [z] (tCons ta tNil):=a7u' ha b1a' hn
 refine PyProof.Rows.callWith_builtin1 (thn (hA p4 pq s σ H (λvs H1=>match vs with
  | [x]=>rSD X.K X.mg x H1 Q
  |_=>False) I h) λus s1 ⟨vs,H1,I1,r,q⟩=>?_) hn rfl
 obtain⟨v,rfl⟩:∃v,vs=[v]:=by
  match vs,q with
  | [v],_=>exact⟨v,rfl⟩
 obtain⟨p,F,μ,S,cs,e,sk,ea,hk,nd,ne,few,q⟩:=q;subst e;obtain⟨u,rfl,ru⟩:=r.one;cases ru;obtain⟨hs,o,es,ep,g,ex,d,ee⟩:ObD s1.heap p cs:=(I1.hok p _ ea).1;have hsz:es.size=cs.length:=by rw[←ZF,ee,Zj]
 refine a3Y' hc hu I1 sk hk ne few (λfin=>a5y' (by simpa using I1.ok.hd hc) hs g ex d (by omega) λh' tk vs k pm=>fin h' tk vs k ?_) nd (λ_=>Iff.rfl) (λ_ h=>h) λh1 h2 tk2 c2 out ws k1 k2 g hl rw_ rv=>?_
 ·rw[ee,ZL]at pm;exact pm
 ·have I3:Inv X pq σ H1 {s1 with heap:=h1,toks:=tk2}:=I1.kept (t':=tk2) k1;exact⟨.ref h1.objs.size,upd H1 h1.objs.size (.lst ws),I3.laid (t':=tk2) k2 (Zk _) ⟨by rw[sizeLine_eq];omega,out,c2,rv,g⟩,rfl,Want.lst q sk rw_ _ (I3.hok.fresh (Zk _))⟩
theorem sortd_D{Q:VK}(sk:SOk K ⟨mg,F⟩ μ S H)(r:Rep K ⟨mg,F⟩ μ H d v)(w:Want K ⟨mg,F⟩ μ H Q (a7O' d S)):rSD K mg v H Q:=by
 cases d with
 |dks ks=>
  unfold a7O' at w;dsimp only at w;split at w
  ·rename_i hc;unfold Rep at r;obtain⟨a,cs,rfl,ea,_,⟨rfl,nd⟩,hk⟩:=r;refine⟨a,F,μ,S,cs,rfl,sk,ea,hk,nd,λc hc' z=>?_,by have:=hc.1;rwa [Zj]at this,w⟩;have:=Zz.mp hc.2 c.1 (Zq.mpr ⟨c,hc',rfl⟩);rw[z]at this;cases this
  ·exact w.elim
 |_=>exact w.elim
end
section
variable {E:XK}
theorem blt_ok(O:XOk X cell N sc CX E Φ Γ k)(b:Blt)(hb:bltB b=true):CallR X (bltIs b) (rC X.K X.mg (bltD b)):=by
 cases b with
 |len=>exact len_D
 |tuple=>exact tuple_D
 |list=>cases hb
 |int=>exact int_D
 |min=>exact b1o' O.calm rfl
 |max=>exact max_any O.calm
 |isinst=>exact b1k'
 |all=>exact all_D O.calm
 |any=>cases hb
 |sum=>cases hb
 |repr=>cases hb
 |abs=>cases hb
 |str=>cases hb
 |sorted box t=>exact b1R' O.room.units box t (by unfold bltB at hb;simpa using hb)
theorem a2r':∀{l:Ls},a5r' l=true→l.Nodup
 | [],_=>List.nodup_nil
 |x::r,h=>by unfold a5r' at h;simp only[Zt,Bool.not_eq_true',List.contains_eq_mem,decide_eq_false_iff_not]at h;exact List.nodup_cons.mpr ⟨h.1,a2r' h.2⟩
theorem a5z'(O:XOk X cell N sc CX E Φ Γ k)(h:scB scope sc=true):CScope X scope:=by
 unfold scB at h;simp only[Zt,beq_iff_eq]at h;obtain⟨h1,h2⟩:=h;have key:∀y∈scope.names,((y.2 !=NameKind.cell||scope.names.lookup y.1==some .cell)&&(y.2 !=.local||scope.names.lookup y.1==some .local)&&(y.2 !=.free||(sc.lookup y.1==some .cell||sc.lookup y.1==some .free)))=true:=λy hy=>Zz.mp h2 y hy;refine⟨h1,λy hy z=>?_,λy hy z=>?_,λy hy z=>?_⟩
 ·have:=key y hy;rw[z]at this;simp at this;exact this
 ·have:=key y hy;rw[z]at this;simp at this;exact this
 ·have:=key y hy;rw[z]at this;simp at this;show X.env.scope.names.lookup y.1=_∨X.env.scope.names.lookup y.1=_;rw[O.sc];exact this
theorem a5A'(O:XOk X cell N sc CX E Φ Γ k)(h:frB scope.names N' N fr=true):CsOk X scope N' (csOf fr):=by
 unfold frB at h;simp only[Zt,beq_iff_eq]at h;obtain⟨h1,h2⟩:=h;intro σ hl;refine⟨by simp[csOf,h1],λi v x hx hv=>?_⟩;have hi:i<N'.length:=(Zh.mp hx).1;have:=Zz.mp h2 i (List.mem_range.mpr hi);unfold csOf at hv;rw[ZB]at hv;cases e:fr[i]? with
 |none=>rw[e]at hv;cases hv
 |some o=>
  rw[e]at hv;cases o with
  |none=>cases hv
  |some j=>
   rw[e]at this;simp only[hx,Zt,beq_iff_eq]at this;have hv':(σ[j]?).join=some v:=Option.some.inj hv;refine⟨this.1,j,by rw[O.n];exact this.2,?_⟩;cases e2:σ[j]? with
   |none=>rw[e2]at hv';cases hv'
   |some o=>rw[e2]at hv';have e3:o=some v:=hv';rw[e3]
theorem relB_eq(O:XOk X cell N sc CX E Φ Γ k):(relabel scope X.env).names=relB scope.names sc:=by
 unfold relabel relB;show scope.names.map _=scope.names.map _;congr 1;funext p;obtain⟨n,kd⟩:=p;have e1:X.env.kindOf n=sc.lookup n:=by show X.env.scope.names.lookup n=_;rw[O.sc]
 simp only[e1,O.kd,beq_self_eq_true,Bool.and_true]
theorem a5B'(O:XOk X cell N sc CX E Φ Γ k)(hs:scope.kind=.function)(hn:a5r' N'=true)(C:Addr)(s0:Shared)(H0:Hp)(fp:La):XOk (cxC X scope N' C s0 H0 fp) (ownB scope.names) N' (relB scope.names sc) CX E0 Φ Γ k where
 n:=rfl
 nd:=a2r' hn
 sc:=relB_eq O
 kd:=hs
 calm:=O.calm
 room:=O.room
 fn:=λx z=>z
 mod:=O.mod
 pass:=λ_ _ _ _ _ _ _ z=>O.cx0 _ _ _ _ _ z
 cx0:=O.cx0
theorem a0S'{i:Expr}(h:a6L' i=true):∀x,foldedSetIterable i env x=pure x:=by intro x;cases i<;>first|rfl|cases h
theorem t_val{e:Expr}{c:CE}(ha:PE X e (tE X.K X.mg E Φ Γ c))(he:∀whole,isTrue e X.env whole=(do let v ←whole;standAt e.pos;holding [v] (truthy v))){σ:L2.St}:
  PT X e (λσ H Q=>∃F μ ρ S,SOk X.K ⟨X.mg,F⟩ μ S H∧EnvR X.K ⟨X.mg,F⟩ μ H ρ σ∧WantG X.K ⟨X.mg,F⟩ E (λ_ _ a b=>a=b) μ H Q ((den Φ Γ c ρ S).bind λd S1=>match truD S1 d with|some k=>.ok k S1|none=>.fail)):=
 weakT (b0Z' ha he) λσ H Q zz=>ex43 zz λF μ ρ S sk en w=>⟨F,μ,ρ,S,sk,en,(WantG.bind w).mono λv H1 zz=>ex34 zz λμ1 S1 d x1 s1 r1 w1=>by obtain⟨k,e,w2⟩:=a7P' w1;exact⟨k,tru_D s1 r1 e,w2 μ1 H1 k .refl s1 rfl⟩⟩
theorem s_sortd(O:XOk X cell N sc CX E Φ Γ k){a:CE}(h1:gloB sc "sorted"=true)(hn:a0H' z=true)(ha:PE X z (tE X.K X.mg E Φ Γ a)):PE X (.Call (.Name "sorted" p1) [z] [] p4) (tE X.K X.mg E Φ Γ (.sortd a)):=
 weakE (b1X' O.calm O.room.units (O.gl (a0K' h1).1) (O.mod.bl _ (by decide+kernel)) (by decide+kernel) ha (a0s' hn)) λσ H Q zz=>ex43 zz λF μ ρ S sk en w=>
  ⟨F,μ,ρ,S,sk,en,(WantG.bind w).mono λv H1 zz=>ex34 zz λμ1 S1 d x1 s1 r1 w1=>sortd_D s1 r1 (a1l' w1)⟩
end
section
variable {E:XK}
end
section
variable {a b c d:Expr}{tb td:TE}{pos:Pos}
end
section
variable {E:XK}{l r r2:Expr}{pos:Pos}{a b c d:CE}
end
theorem tT_fail{E:XK}{c:CE}(h:∀ρ S,denT Φ Γ c ρ S=.fail):PW X e (tT X.K X.mg E Φ Γ c):=λwh pq s σ H Q I zz=>ex43 zz λF μ ρ S sk en w=>by rw[h]at w;exact w.elim
theorem a8y'{l:List α}{d:Nat}{x:α}{r:List α}(h:l.drop d=x::r):l[d]?=some x:=by have:=congrArg (λl=>l[0]?) h;simpa using this
theorem a6u'{l:List α}{d:Nat}(h:l.drop d=[]):l[d]?=none:=by have:=congrArg (λl=>l[0]?) h;simpa using this
theorem a9K'{l:List α}{d:Nat}{x:α}{r:List α}(h:l.drop d=x::r):l.drop (d+1)=r:=by
 have:(l.drop d).drop 1=r:=by rw[h];rfl
 rwa [List.drop_drop]at this
section
variable {E:XK}{a b:CE}{l x y:Expr}{pos:Pos}{n:Bool}
theorem em_and(ha:PE X l (tE X.K X.mg E Φ Γ a))(h1:n=true→PE X x (tE X.K X.mg E Φ Γ b))(h2:n=false→∃r rest,y=.BoolOp .And (r::rest) pos∧PE X y (tE X.K X.mg E Φ Γ b)):PE X (.BoolOp .And (l::cond n [x] (vw y).es) pos) (tE X.K X.mg E Φ Γ (.band a b)):=by
 cases n with
 |true=>exact s_and ha (pe_one (h1 rfl))
 |false=>obtain⟨r,rest,rfl,q⟩:=h2 rfl;exact s_and ha q
theorem em_or(ha:PE X l (tE X.K X.mg E Φ Γ a))(h1:n=true→PE X x (tE X.K X.mg E Φ Γ b))(h2:n=false→∃r rest,y=.BoolOp .Or (r::rest) pos∧PE X y (tE X.K X.mg E Φ Γ b)):PE X (.BoolOp .Or (l::cond n [x] (vw y).es) pos) (tE X.K X.mg E Φ Γ (.bor a b)):=by
 cases n with
 |true=>exact s_or ha (pe_one (h1 rfl))
 |false=>obtain⟨r,rest,rfl,q⟩:=h2 rfl;exact s_or ha q
theorem b0F'(ha:PT X l (tT X.K X.mg E Φ Γ a))(h1:n=true→PT X x (tT X.K X.mg E Φ Γ b))(h2:n=false→∃r rest,y=.BoolOp .And (r::rest) pos∧PW X y (tT X.K X.mg E Φ Γ b)):PW X (.BoolOp .And (l::cond n [x] (vw y).es) pos) (tT X.K X.mg E Φ Γ (.band a b)):=by
 cases n with
 |true=>exact t_and ha (pw_and1 (h1 rfl))
 |false=>obtain⟨r,rest,rfl,q⟩:=h2 rfl;exact t_and ha q
theorem em_orT(ha:PT X l (tT X.K X.mg E Φ Γ a))(h1:n=true→PT X x (tT X.K X.mg E Φ Γ b))(h2:n=false→∃r rest,y=.BoolOp .Or (r::rest) pos∧PW X y (tT X.K X.mg E Φ Γ b)):PW X (.BoolOp .Or (l::cond n [x] (vw y).es) pos) (tT X.K X.mg E Φ Γ (.bor a b)):=by
 cases n with
 |true=>exact t_or ha (pw_or1 (h1 rfl))
 |false=>obtain⟨r,rest,rfl,q⟩:=h2 rfl;exact t_or ha q
theorem a8z'(h:b1t' b=true):∃r rest,emE b N (.BoolOp .And es pos)=.BoolOp .And (r::rest) pos:=by cases b<;>first|exact⟨_,_,rfl⟩|cases h
theorem b1Y'(h:isBor b=true):∃r rest,emE b N (.BoolOp .Or es pos)=.BoolOp .Or (r::rest) pos:=by cases b<;>first|exact⟨_,_,rfl⟩|cases h
theorem a3q'{tg:CT}(h:a9x' tg=true):isTup (emT tg N e)=true:=by
 cases tg with
 |var i=>cases h
 |tup ts=>rfl
theorem cond1{a b:Bool}(h:cond n a b=true)(z:n=true):a=true:=by rw[z]at h;exact h
theorem cond2{a b:Bool}(h:cond n a b=true)(z:n=false):b=true:=by rw[z]at h;exact h
end
mutual
theorem a0q'(c:CE):∀{X:Cx} {cell:Str→Bool} {N:Ls} {sc:Sc} {CX:CXT} {E:XK} {Φ:FT} {Γ:Str→Option D} {k:Nat} {e:Expr},XOk X cell N sc CX E Φ Γ k→sdE c N sc e=true→PE X (emE c N e) (tE X.K X.mg E Φ Γ c):=by
 intro X cell N sc CX E Φ Γ k e O h;cases c with
 |var i=>exact s_var O (andB h).1 (andB (andB h).2).1 (andB (andB h).2).2
 |dct=>exact s_dct
 |rv0 a b c=>cases h
 |odd a b c=>cases h
 |rev a b=>cases h
 |lit d=>exact s_lit h
 |glob y=>exact s_glob O h
 |ty n=>exact s_ty O (andB h).1 (andB h).2
 |bin op a b=>exact s_bin (a0q' a O (andB h).1) (a0q' b O (andB h).2)
 |binB a b=>cases h
 |catB a b=>cases h
 |neg a=>exact s_neg (a0q' a O h)
 |cmp op a b=>exact s_cmp O.room.units (a0q' a O (andB h).1) (a0q' b O (andB (andB h).2).1) (notB (andB (andB h).2).2)
 |chain op op' a b c=>exact s_chain O.room.units (a0q' a O (andB h).1) (a0q' b O (andB (andB h).2).1) (a0q' c O (andB (andB (andB h).2).2).1) (notB (andB (andB (andB h).2).2).2)
 |band a b=>exact em_and (a0q' a O (andB h).1) (λz=>a0q' b O (cond1 (andB h).2 z)) λz=>by obtain⟨r,rest,q⟩:=a8z' (pos:=(vw e).pos) (N:=N) (es:=(vw e).es.tail) (andB (cond2 (andB h).2 z)).1;exact⟨r,rest,q,a0q' b O (andB (cond2 (andB h).2 z)).2⟩
 |bor a b=>exact em_or (a0q' a O (andB h).1) (λz=>a0q' b O (cond1 (andB h).2 z)) λz=>by obtain⟨r,rest,q⟩:=b1Y' (pos:=(vw e).pos) (N:=N) (es:=(vw e).es.tail) (andB (cond2 (andB h).2 z)).1;exact⟨r,rest,q,a0q' b O (andB (cond2 (andB h).2 z)).2⟩
 |bnot a=>exact s_not (a0q' a O h)
 |ite c a b=>exact s_ite (a2s' c O (andB h).1) (a0q' a O (andB (andB h).2).1) (a0q' b O (andB (andB h).2).2)
 |tup es=>exact s_tup (decB (andB h).2) (a3r' es O (andB h).1)
 |lst box es=>exact s_lst (decB (andB h).2) (a3r' es O (andB h).1)
 |idx a b=>exact s_idx (andB (andB h).2).2 (a0q' a O (andB h).1) (a0q' b O (andB (andB h).2).1)
 |sl a lo hi=>exact s_sl (a0q' a O (andB h).1) (soundP lo O (andB (andB h).2).1 (decB (andB (andB (andB (andB h).2).2).2).1)) (soundP hi O (andB (andB (andB h).2).2).1 (decB (andB (andB (andB (andB h).2).2).2).2))
 |call f es=>
  have hL:=a3r' es O (andB (andB h).2).1;cases es with
  |nil=>cases(andB (andB h).2).2
  |cons c cs=>exact s_call O (andB h).1 (a1t' (cs:=c::cs) (andB (andB h).2).1) hL
 |blt b es=>
  have hL:=a3r' es O (andB (andB h).2).1;cases es with
  |nil=>cases(andB (andB (andB h).2).2).1
  |cons c cs=>exact s_blt O (blt_ok O b (andB (andB (andB h).2).2).2) (andB h).1 (a1t' (cs:=c::cs) (andB (andB h).2).1) hL
 |fst ps=>cases h
 |chain3 op op' op'' a b c d=>exact λpq s σ H Q I zz=>ex43 zz λF μ ρ S sk en w=>w.elim
 |sel fs i es=>cases h
 |tix o es=>cases h
 |meth m o es=>have h4:=(andB (andB (andB (andB h).2).2).2).1;exact s_meth (andB h).1 (andB (andB h).2).1 (a1t' h4) (by rw[a7Q'];exact decB (andB (andB (andB (andB h).2).2).2).2) a7Q'.symm (a0q' o O (andB (andB (andB h).2).2).1) (a3r' es O h4)
 |lenset=>cases h
 |sset=>cases h
 |sumL=>cases h
 |rng=>cases h
 |comp box N' fr tg it ifs body=>
  obtain⟨h1,h⟩:=andB h;obtain⟨h2,h⟩:=andB h;obtain⟨h3,h⟩:=andB h;obtain⟨h4,h⟩:=andB h;obtain⟨h5,h⟩:=andB h;obtain⟨h6,h⟩:=andB h;obtain⟨h7,h8⟩:=andB h;have sc1:=a5z' O h1
  refine weakE (pe_comp (N:=N') (g:=gCT X.K tg) (tb:=tC X.K X.mg oL Φ Γ ifs body) O.calm sc1 (a5A' O h2) (a6S' it O h5 a3q') (λacc env=>a2T' _ env>>=λok=>if ok=true then cRest (ceK false _ _ _ _) (emK false _ _ env) (_::_) 0 (.ref acc) env else pure ())
   (λit acc env=>a9J' (kd:=false) rfl) (λC s0 H0 fp acc=>?_) (a0S' h6)) λσ H Q q=>c_comp (tg0:=emT tg N' ((vw e).gs.headD dG).target) q
  have O':=a5B' O sc1.kind h3 C s0 H0 fp;exact⟨g_pg O' h4,a9B' (a4U' ifs O' h7) (a9M' body (kd:=false) O' rfl rfl h8)⟩
 |ssc N' fr tg it ifs body=>
  obtain⟨h0,h⟩:=andB h;obtain⟨h1,h⟩:=andB h;obtain⟨h2,h⟩:=andB h;obtain⟨h3,h⟩:=andB h;obtain⟨h4,h⟩:=andB h;obtain⟨h5,h⟩:=andB h;obtain⟨h6,h⟩:=andB h;obtain⟨h7,h8⟩:=andB h;have sc1:=a5z' O h1
  refine weakE (a5x' (ta:=λQ σ H=>tComp (o0S X) (csOf fr) (tI X.K X.mg E Φ Γ it) (gCT X.K tg) (tC X.K X.mg (oS X.prog X.w) Φ Γ ifs body) σ H Q) O.calm O.room.units (O.gl (a0K' h0).1) (O.mod.bl _ (by decide+kernel)) (by decide+kernel) (a8x' (N:=N') (g:=gCT X.K tg) (tb:=tC X.K X.mg (oS X.prog X.w) Φ Γ ifs body) O.calm sc1 (a5A' O h2) (a6S' it O h5 a3q') (λacc env=>a2T' _ env>>=λok=>if ok=true then cRest (ceK true _ _ _ _) (emK true _ _ env) (_::_) 0 (.ref acc) env else pure ())
   (λit acc env=>a9J' (kd:=true) rfl) (λC s0 H0 fp acc=>?_) (a0S' h6)) rfl) λσ H Q q=>c_ssc q
  have O':=a5B' O sc1.kind h3 C s0 H0 fp;exact⟨g_pg O' h4,a9B' (a4U' ifs O' h7) (a9M' body (kd:=true) O' rfl rfl h8)⟩
 |emitK e=>cases h
 |sortd a=>exact s_sortd O (andB h).1 (andB (andB h).2).2 (a0q' a O (andB (andB h).2).1)
 |emit e=>cases h
 |inner a b c d=>cases h
 |seq a=>cases h
 |range a=>cases h
 |zip a=>cases h
 |enum a=>cases h
 |revl a=>cases h
 |by2 a=>cases h
 |down a=>cases h
theorem a2s'(c:CE):∀{X:Cx} {cell:Str→Bool} {N:Ls} {sc:Sc} {CX:CXT} {E:XK} {Φ:FT} {Γ:Str→Option D} {k:Nat} {e:Expr},XOk X cell N sc CX E Φ Γ k→sdE c N sc e=true→PT X (emE c N e) (tT X.K X.mg E Φ Γ c):=by
 intro X cell N sc CX E Φ Γ k e O h;cases c with
 |var i=>
  refine weakT (t_val (σ:=[]) (s_var O (andB h).1 (andB (andB h).2).1 (andB (andB h).2).2) λ_=>rfl) λσ H Q zz=>ex43 zz λF μ ρ S sk en w=>⟨F,μ,ρ,S,sk,en,?_⟩;cases e1:ρ[i]? with
  |none=>simp only[denT,e1]at w;exact w.elim
  |some o=>
   cases o with
   |none=>simp only[denT,e1]at w;exact w.elim
   |some d=>simp only[denT,e1]at w;simp only[den,e1];exact w
 |lit d=>exact weakT (t_val (Φ:=Φ) (Γ:=Γ) (σ:=[]) (s_lit h) λ_=>rfl) λσ H Q zz=>ex43 zz λF μ ρ S sk en w=>⟨F,μ,ρ,S,sk,en,w⟩
 |call f es=>
  have hL:=a3r' es O (andB (andB h).2).1;cases es with
  |nil=>cases(andB (andB h).2).2
  |cons c cs=>
   refine weakT (t_val (σ:=[]) (s_call O (andB h).1 (a1t' (cs:=c::cs) (andB (andB h).2).1) hL) λ_=>rfl) λσ H Q zz=>ex43 zz λF μ ρ S sk en w=>⟨F,μ,ρ,S,sk,en,?_⟩;simp only[denT]at w;simp only[den];cases e1:Φ f with
   |none=>rw[e1]at w;exact w
   |some φ=>
    rw[e1]at w;show WantG _ _ _ _ _ _ _ (((denL Φ Γ (c::cs) ρ S).bind λds S1=>φ ds S1).bind _);cases e2:denL Φ Γ (c::cs) ρ S with
    |ok ds S1=>rw[e2]at w;exact w
    |err y S1=>rw[e2]at w;exact w
    |fail=>rw[e2]at w;exact w
 |blt b es=>
  have hL:=a3r' es O (andB (andB h).2).1;cases es with
  |nil=>cases(andB (andB (andB h).2).2).1
  |cons c cs=>
   refine weakT (t_val (σ:=[]) (s_blt O (blt_ok O b (andB (andB (andB h).2).2).2) (andB h).1 (a1t' (cs:=c::cs) (andB (andB h).2).1) hL) λ_=>rfl) λσ H Q zz=>ex43 zz λF μ ρ S sk en w=>⟨F,μ,ρ,S,sk,en,?_⟩;simp only[denT]at w;simp only[den];cases e2:denL Φ Γ (c::cs) ρ S with
   |ok ds S1=>rw[e2]at w;exact w
   |err y S1=>rw[e2]at w;exact w
   |fail=>rw[e2]at w;exact w
 |cmp op a b=>exact t_cmp O.room.units (a0q' a O (andB h).1) (a0q' b O (andB (andB h).2).1) (notB (andB (andB h).2).2)
 |chain3 op op' op'' a b c d=>cases h
 |chain op op' a b c=>exact t_chain O.room.units (a0q' a O (andB h).1) (a0q' b O (andB (andB h).2).1) (a0q' c O (andB (andB (andB h).2).2).1) (notB (andB (andB (andB h).2).2).2)
 |band a b=>exact(b0F' (a2s' a O (andB h).1) (λz=>a2s' b O (cond1 (andB h).2 z)) λz=>by have g:=(andB (cond2 (andB h).2 z)).1;obtain⟨r,rest,q⟩:=a8z' (pos:=(vw e).pos) (N:=N) (es:=(vw e).es.tail) g;exact⟨r,rest,q,a9L' b O (andB (cond2 (andB h).2 z)).2 (by rw[g];rfl)⟩).pt
 |bor a b=>exact(em_orT (a2s' a O (andB h).1) (λz=>a2s' b O (cond1 (andB h).2 z)) λz=>by have g:=(andB (cond2 (andB h).2 z)).1;obtain⟨r,rest,q⟩:=b1Y' (pos:=(vw e).pos) (N:=N) (es:=(vw e).es.tail) g;exact⟨r,rest,q,a9L' b O (andB (cond2 (andB h).2 z)).2 (by rw[g,Bool.or_true])⟩).pt
 |bnot a=>exact t_not (a2s' a O h)
 |_=>exact(tT_fail λ_ _=>by simp only[denT]).pt
theorem a9L'(c:CE):∀{X:Cx} {cell:Str→Bool} {N:Ls} {sc:Sc} {CX:CXT} {E:XK} {Φ:FT} {Γ:Str→Option D} {k:Nat} {e:Expr},XOk X cell N sc CX E Φ Γ k→sdE c N sc e=true→(b1t' c||isBor c)=true→PW X (emE c N e) (tT X.K X.mg E Φ Γ c):=by
 intro X cell N sc CX E Φ Γ k e O h hb;cases c with
 |band a b=>exact b0F' (a2s' a O (andB h).1) (λz=>a2s' b O (cond1 (andB h).2 z)) λz=>by have g:=(andB (cond2 (andB h).2 z)).1;obtain⟨r,rest,q⟩:=a8z' (pos:=(vw e).pos) (N:=N) (es:=(vw e).es.tail) g;exact⟨r,rest,q,a9L' b O (andB (cond2 (andB h).2 z)).2 (by rw[g];rfl)⟩
 |bor a b=>exact em_orT (a2s' a O (andB h).1) (λz=>a2s' b O (cond1 (andB h).2 z)) λz=>by have g:=(andB (cond2 (andB h).2 z)).1;obtain⟨r,rest,q⟩:=b1Y' (pos:=(vw e).pos) (N:=N) (es:=(vw e).es.tail) g;exact⟨r,rest,q,a9L' b O (andB (cond2 (andB h).2 z)).2 (by rw[g,Bool.or_true])⟩
 |_=>cases hb
theorem a3r'(cs:List CE):∀{X:Cx} {cell:Str→Bool} {N:Ls} {sc:Sc} {CX:CXT} {E:XK} {Φ:FT} {Γ:Str→Option D} {k:Nat} {es:Lx},XOk X cell N sc CX E Φ Γ k→sdL cs N sc es=true→PA X (emL cs N es) (tL X.K X.mg E Φ Γ cs):=by
 intro X cell N sc CX E Φ Γ k es O h;cases cs with
 |nil=>exact s_nil
 |cons c cs=>exact s_cons (andB (andB h).2).1 (a0q' c O (andB h).1) (a3r' cs O (andB (andB h).2).2)
theorem soundP(cs:List CE):∀{X:Cx} {cell:Str→Bool} {N:Ls} {sc:Sc} {CX:CXT} {E:XK} {Φ:FT} {Γ:Str→Option D} {k:Nat} {es:Lx},XOk X cell N sc CX E Φ Γ k→sdL cs N sc es=true→cs.length<2→PO X (emL cs N es).head? (tPt X.K X.mg E Φ Γ cs):=by
 intro X cell N sc CX E Φ Γ k es O h hl;cases cs with
 |nil=>exact s_part0
 |cons c cs=>cases cs with
  |nil=>exact s_part1 (a0q' c O (andB h).1)
  |cons _ _=>exact absurd hl (by simp)
theorem a4U'(cs:List CE):∀{X:Cx} {cell:Str→Bool} {N:Ls} {sc:Sc} {CX:CXT} {E:XK} {Φ:FT} {Γ:Str→Option D} {k:Nat} {es:Lx},XOk X cell N sc CX E Φ Γ k→sdL cs N sc es=true→PTs X (emL cs N es) (cs.map (tT X.K X.mg E Φ Γ)):=by
 intro X cell N sc CX E Φ Γ k es O h;cases cs with
 |nil=>trivial
 |cons c cs=>exact⟨a2s' c O (andB h).1,a4U' cs O (andB (andB h).2).2⟩
theorem a6S'(c:CE):∀{X:Cx} {cell:Str→Bool} {N:Ls} {sc:Sc} {CX:CXT} {E:XK} {Φ:FT} {Γ:Str→Option D} {k:Nat} {tg:CT} {t e:Expr},XOk X cell N sc CX E Φ Γ k→sdI c N sc tg e=true→(a9x' tg=true→isTup t=true)→PI X t (emI c N e) (tI X.K X.mg E Φ Γ c):=by
 intro X cell N sc CX E Φ Γ k tg t e O h ht;cases c with
 |seq a=>exact i_seq (a0q' a O h)
 |range es=>
  have h2:=(andB (andB h).2).1;have h3:=(andB (andB h).2).2;have hs:=a1t' h2;have hL:=a3r' es O h2;cases es with
  |nil=>cases h3
  |cons a es=>cases es with
   |nil=>exact b1A' O (andB h).1 (hs _ Zd) rfl hL
   |cons b es=>cases es with
    |nil=>exact b1B' O (andB h).1 (hs _ Zd) (hs _ (Zb _ Zd)) rfl hL
    |cons d es=>cases h3
 |down es=>cases h
 |by2 es=>cases h
 |revl es=>cases h
 |enum es=>cases h
 |zip es=>
  have h2:=(andB (andB h).2).1;have h3:=(andB (andB h).2).2;have hs:=a1t' h2;have hL:=a3r' es O h2;cases es with
  |nil=>cases(andB h3).1
  |cons a es=>cases es with
   |nil=>cases(andB h3).1
   |cons b es=>cases es with
    |nil=>exact i_zip O (andB h).1 (ht (andB h3).2) (hs _ Zd) (hs _ (Zb _ Zd)) hL
    |cons d es=>cases(andB h3).1
 |_=>cases h
theorem a9M'(c:CE):∀{X:Cx} {cell:Str→Bool} {N:Ls} {sc:Sc} {CX:CXT} {E:XK} {Φ:FT} {Γ:Str→Option D} {k:Nat} {kd:Bool} {el:Expr} {gens gs:List Comprehension} {scope:Scope} {pos:Pos} {d:Nat} {acc:Addr},XOk X cell N sc CX E Φ Γ k→X.xe=(λ_ _=>False)→gens.drop (d+1)=emBg c N gs→sdB c kd cell N sc gs el=true→
  PB X (cRest (ceK kd (emBe c N el) gens scope pos) (emK kd (emBe c N el) (.ref acc) X.env) gens d (.ref acc) X.env) (tB X.K X.mg (oK X kd) Φ Γ c acc):=by
 intro X cell N sc CX E Φ Γ k kd el gens gs scope pos d acc O hx hd h;cases c with
 |emit a=>
  cases kd with
  |true=>cases h
  |false=>exact c_emit (a6u' hd) (a0q' a O h)
 |emitK a=>
  cases kd with
  |false=>cases h
  |true=>exact c_emitK O.room.units (a6u' hd) (a0q' a O h)
 |inner tg it ifs body=>obtain⟨h4,h⟩:=andB h;obtain⟨h5,h⟩:=andB h;obtain⟨h6,h⟩:=andB h;obtain⟨h7,h8⟩:=andB h;exact c_inner (by cases kd<;>rfl) (by cases kd<;>rfl) (λit=>a9J' (a8y' hd)) hx O.calm (a8y' hd) (a6S' it O h5 a3q') (a0S' h6) (g_pg O h4) (a9B' (a4U' ifs O h7) (a9M' body O hx (a9K' hd) h8))
 |_=>cases h
end
def WantS(K:Fg)(mg:GS)(E:XK)(D:Ends)(μ:La)(H:Hp):Res Fl→Prop
 | .ok (.next ρ') S'=>∀μ' H' σ',Ext μ H μ' H'→SOk K mg μ' S' H'→EnvR K mg μ' H' ρ' σ'→D.nx σ' H'
 | .ok (.ret d) S'=>∀μ' H' v,Ext μ H μ' H'→SOk K mg μ' S' H'→Rep K mg μ' H' d v→D.rt v H'
 | .ok (.brk ρ') S'=>∀μ' H' σ',Ext μ H μ' H'→SOk K mg μ' S' H'→EnvR K mg μ' H' ρ' σ'→D.bk σ' H'
 | .ok (.cont ρ') S'=>∀μ' H' σ',Ext μ H μ' H'→SOk K mg μ' S' H'→EnvR K mg μ' H' ρ' σ'→D.ct σ' H'
 | .err x S'=>∀μ' H',Ext μ H μ' H'→SOk K mg μ' S' H'→exOf mg.mg E x H'
 | .fail=>False
def tS(K:Fg)(mg:Mg)(E:XK)(Φ:FT)(Γ:Str→Option D)(c:CS):TS:=λD σ H=>∃F μ ρ S,SOk K ⟨mg,F⟩ μ S H∧EnvR K ⟨mg,F⟩ μ H ρ σ∧WantS K ⟨mg,F⟩ E D μ H (denS Φ Γ c ρ S)
def tSs(K:Fg)(mg:Mg)(E:XK)(Φ:FT)(Γ:Str→Option D)(cs:List CS):TS:=λD σ H=>∃F μ ρ S,SOk K ⟨mg,F⟩ μ S H∧EnvR K ⟨mg,F⟩ μ H ρ σ∧WantS K ⟨mg,F⟩ E D μ H (denSs Φ Γ cs ρ S)
section
variable {mg:GS}{E:XK}{D D':Ends}
theorem WantS.ext{r:Res Fl}(x:Ext μ H μ' H')(w:WantS K mg E D μ H r):WantS K mg E D μ' H' r:=by
 cases r with
 |ok f S=>
  cases f with
  |next ρ=>exact λm h s y=>w m h s (x.trans y)
  |ret d=>exact λm h s y=>w m h s (x.trans y)
  |brk ρ=>exact λm h s y=>w m h s (x.trans y)
  |cont ρ=>exact λm h s y=>w m h s (x.trans y)
 |err z S=>exact λm h y=>w m h (x.trans y)
 |fail=>exact w
theorem WantS.bind{Rel:La→Hp→α→β→Prop}{r:Res α}{f:α→Store→Res Fl}(w:WantS K mg E D μ H (r.bind f)):
  WantG K mg E Rel μ H (λb H'=>∃μ' S' a,Ext μ H μ' H'∧SOk K mg μ' S' H'∧Rel μ' H' a b∧WantS K mg E D μ' H' (f a S')) r:=by
 cases r with
 |ok a S'=>exact λμ2 H2 b x s r=>⟨μ2,S',a,x,s,r,WantS.ext x (show WantS K mg E D μ H (f a S')from w)⟩
 |err y S'=>exact w
 |fail=>exact w
theorem WantS.seq{r:Res Fl}{f:Rho→Store→Res Fl}{N:L2.St→Hp→Prop}(w:WantS K mg E D μ H (r.bind λfl S1=>match fl with
   | .next ρ'=>f ρ' S1
   |fl=>.ok fl S1)) (hN:∀μ' H' σ' ρ' S',Ext μ H μ' H'→SOk K mg μ' S' H'→EnvR K mg μ' H' ρ' σ'→WantS K mg E D μ' H' (f ρ' S')→N σ' H'):WantS K mg E {D with nx:=N} μ H r:=by
 cases r with
 |ok fl S=>
  cases fl with
  |next ρ=>exact λm h s x k en=>hN m h s ρ S x k en (WantS.ext x (show WantS K mg E D μ H (f ρ S)from w))
  |ret d=>exact w
  |brk ρ=>exact w
  |cont ρ=>exact w
 |err z S=>exact w
 |fail=>exact w
end
theorem weakS{t t':TS}(h:PS X st t)(w:∀D σ H,t' D σ H→t D σ H):PS X st t':=λpq s σ H D I q=>h pq s σ H D I (w D σ H q)
theorem a9N'{st:List Stmt}{t t':TS}(h:PSs X st t)(w:∀D σ H,t' D σ H→t D σ H):PSs X st t':=λpq s σ H D I q=>h pq s σ H D I (w D σ H q)
noncomputable def a3Z':Expr→Bool
 | .ListComp .. =>false
 | .SetComp .. =>false
 | .DictComp .. =>false
 |_=>true
def isComp:Expr→Bool
 | .ListComp .. =>true
 |_=>false
noncomputable def locB(sc:Sc)(x:Str):Bool:=sc.lookup x==some .local||sc.lookup x==some .cell
noncomputable def swB(sc:Sc)(x:Str)(p:Pos)(v:Expr):Bool:=sc.lookup x==some .local&&(p.line==(vw v).pos.line&& !((vw v).sc.names.any λ(n,k)=>n==x&&(k== .local||k== .cell)))
def dS:Stmt:=.Pass ⟨0,0,0,0⟩
structure NdS where
 e0:Expr:=dE
 e1:Expr:=dE
 a:List Stmt:=[]
 b:List Stmt:=[]
 pos:Pos:=⟨0,0,0,0⟩
 hp:Pos:=⟨0,0,0,0⟩
noncomputable def vs:Stmt→NdS
 | .Assign ts v p=>{e0:=ts.headD dE,e1:=v,pos:=p}
 | .AugAssign t _ v p=>{e0:=t,e1:=v,pos:=p}
 | .Expr v p=>{e0:=v,pos:=p}
 | .Return v p=>{e0:=v.getD dE,pos:=p}
 | .Pass p=>{pos:=p}
 | .Break p=>{pos:=p}
 | .Continue p=>{pos:=p}
 | .If t x y p=>{e0:=t,a:=x,b:=y,pos:=p}
 | .For t i x _ p=>{e0:=t,e1:=i,a:=x,pos:=p}
 | .While t x _ p=>{e0:=t,a:=x,pos:=p}
 | .Raise v _ p=>{e0:=v.getD dE,pos:=p}
 | .Try x [.ExceptHandler t _ y hp] _ _ p=>{e0:=t.getD dE,a:=x,b:=y,pos:=p,hp:=hp}
 |_=>{}
noncomputable def emPut(k:CE)(N:Ls)(i:Nat)(st:Stmt):Stmt:=.Assign [.Subscript (.Name (N.getD i "") (vw (vw (vs st).e0).e0).pos) (emE k N (vw (vs st).e0).e1) (vw (vs st).e0).pos] (.Constant (.bool true) (vw (vs st).e1).k (vw (vs st).e1).pos) (vs st).pos
noncomputable def emPs:List (Option CE×CE)→Ls→Nat→List Stmt→List Stmt
 | [],_,_,_=>[]
 | (c,k)::ps,N,i,st=>(match c with
  |none=>emPut k N i (st.headD dS)
  |some c=>.If (emE c N (vs (st.headD dS)).e0) [emPut k N i ((vs (st.headD dS)).a.headD dS)] [] (vs (st.headD dS)).pos)::emPs ps N i st.tail
noncomputable def sdPut(k:CE)(N:Ls)(sc:Sc)(st:Stmt):Bool:=a3l' (emE k N (vw (vs st).e0).e1)&&sdE k N sc (vw (vs st).e0).e1
noncomputable def sdPs:List (Option CE×CE)→Ls→Sc→List Stmt→Bool
 | [],_,_,_=>true
 | (c,k)::ps,N,sc,st=>(match c with
  |none=>sdPut k N sc (st.headD dS)
  |some c=>sdE c N sc (vs (st.headD dS)).e0&&sdPut k N sc ((vs (st.headD dS)).a.headD dS))&&sdPs ps N sc st.tail
def preN:CS→Nat
 | .dloop .. =>1
 |_=>0
noncomputable def preS(c:CS)(N:Ls)(st:List Stmt):List Stmt:=match c with
 | .dloop i _ _ _=>[.Assign [.Name (N.getD i "") (vw (vs (st.headD dS)).e0).pos] (.Dict [] [] (vw (vs (st.headD dS)).e1).pos) (vs (st.headD dS)).pos]
 |_=>[]
mutual
noncomputable def emS:CS→Ls→Stmt→Stmt
 | .asg i e,N,st=>.Assign [.Name (N.getD i "") (vw (vs st).e0).pos] (emE e N (vs st).e1) (vs st).pos
 | .asgT t e,N,st=>.Assign [emT t N (vs st).e0] (emE e N (vs st).e1) (vs st).pos
 | .par _ _,_,st=>st
 | .aug _ _,_,st=>st
 | .set _ _ _,_,st=>st
 | .set2 _ _ _ _ _,_,st=>st
 | .expr e,N,st=>.Expr (emE e N (vs st).e0) (vs st).pos
 | .ret e,N,st=>.Return (some (emE e N (vs st).e0)) (vs st).pos
 | .retN,_,st=>.Return none (vs st).pos
 | .pass,_,st=>.Pass (vs st).pos
 | .brk,_,st=>.Break (vs st).pos
 | .cont,_,st=>.Continue (vs st).pos
 | .ite c a b,N,st=>.If (emE c N (vs st).e0) (emSs a N (vs st).a) (emSs b N (vs st).b) (vs st).pos
 | .for_ t it body,N,st=>.For (emT t N (vs st).e0) (emI it N (vs st).e1) (emSs body N (vs st).a) [] (vs st).pos
 | .while_ _ _ _,_,st=>st
 | .never,_,st=>st
 | .dloop i t it ps,N,st=>.For (emT t N (vs st).e0) (emI it N (vs st).e1) (emPs ps N i (vs st).a) [] (vs st).pos
 | .raise_ x es,N,st=>.Raise (some (.Call (.Name x (vw (vw (vs st).e0).e0).pos) (emL es N (vw (vs st).e0).es) [] (vw (vs st).e0).pos)) none (vs st).pos
 | .tryK _ _ _ _ _,_,st=>st
noncomputable def emSs:List CS→Ls→List Stmt→List Stmt
 | [],_,_=>[]
 |c::cs,N,st=>preS c N st++emS c N ((st.drop (preN c)).headD dS)::emSs cs N (st.drop (preN c)).tail
end
noncomputable def foldB:Expr→Bool
 | .Tuple xs _ _=>xs.all (foldedForSure 8)
 |_=>true
noncomputable def cellB(sc:Sc):Expr→Bool
 | .Tuple ts _ _=>ts.any fun
  | .Name id _=>sc.lookup id==some .cell
  |_=>false
 |_=>false
mutual
noncomputable def sdS:CS→Ls→Sc→Stmt→Bool
 | .asg i e,N,sc,st=>N[i]?==some (N.getD i "")&&(locB sc (N.getD i "")&&(sdE e N sc (vs st).e1&&(a3Z' (emE e N (vs st).e1)||(isCmp e&&(sc.lookup (N.getD i "")==some .cell||swB sc (N.getD i "") (vw (vs st).e0).pos (emE e N (vs st).e1))))))
 | .asgT t e,N,sc,st=>a9x' t&&((foldB (emE e N (vs st).e1)||cellB sc (emT t N (vs st).e0))&&(a3Z' (emE e N (vs st).e1)&&(sdT (λ_=>true) N sc t&&sdE e N sc (vs st).e1)))
 | .par _ _,_,_,_=>false
 | .aug _ _,_,_,_=>false
 | .set _ _ _,_,_,_=>false
 | .set2 _ _ _ _ _,_,_,_=>false
 | .expr e,N,sc,st=>a3Z' (emE e N (vs st).e0)&&sdE e N sc (vs st).e0
 | .ret e,N,sc,st=>sdE e N sc (vs st).e0
 | .retN,_,_,_=>true
 | .pass,_,_,_=>true
 | .brk,_,_,_=>true
 | .cont,_,_,_=>true
 | .ite c a b,N,sc,st=>sdE c N sc (vs st).e0&&(sdSs a N sc (vs st).a&&sdSs b N sc (vs st).b)
 | .for_ t it body,N,sc,st=>sdT (λ_=>true) N sc t&&(sdI it N sc t (vs st).e1&&(a6L' (emI it N (vs st).e1)&&sdSs body N sc (vs st).a))
 | .while_ _ _ _,_,_,_=>false
 | .never,_,_,_=>true
 | .dloop i t it ps,N,sc,st=>N[i]?==some (N.getD i "")&&(locB sc (N.getD i "")&&(visB sc (N.getD i "")&&(a6K' (N.getD i "")&&((slots t).all (· !=i)&&(sdT (λ_=>true) N sc t&&(sdI it N sc t (vs st).e1&&(a6L' (emI it N (vs st).e1)&&sdPs ps N sc (vs st).a)))))))
 | .raise_ x es,N,sc,st=>gloB sc x&&(sdL es N sc (vw (vs st).e0).es&&(0<es.length&&(emL es N (vw (vs st).e0).es).all a0H'))
 | .tryK _ _ _ _ _,_,_,_=>false
noncomputable def sdSs:List CS→Ls→Sc→List Stmt→Bool
 | [],_,_,_=>true
 |c::cs,N,sc,st=>sdS c N sc ((st.drop (preN c)).headD dS)&&sdSs cs N sc (st.drop (preN c)).tail
end
section
variable {E:XK}{pos:Pos}
theorem b1Z'{v:Expr}{o:Option Expr}(h:a3Z' v=true):swapsWith v o line env=pure false:=by cases v<;>first|rfl|cases h
theorem bk_fn(O:XOk X cell N sc CX E Φ Γ k):X.env.blockKind=.function:=by unfold Env.blockKind;rw[O.kd];rfl
theorem sw_cell(O:XOk X cell N sc CX E Φ Γ k){v:Expr}{x:Str}{p:Pos}(h:isComp v=true)(hx:sc.lookup x=some .cell):swapsWith v (some (.Name x p)) line X.env=pure false:=by
 have e1:X.env.kindOf x=some .cell:=by show X.env.scope.names.lookup x=_;rw[O.sc];exact hx
 cases v<;>first| (cases h;done)|skip
 rename_i el gs scope vp;unfold swapsWith;show(pure (X.env.blockKind== .function&&X.env.kindOf x==some .local&&p.line==vp.line&& !_):Sem Bool)=pure false;rw[e1];have e2:(some NameKind.cell==some NameKind.local)=false:=by decide
 rw[e2,Bool.and_false,Bool.false_and,Bool.false_and]
theorem sw_yes(O:XOk X cell N sc CX E Φ Γ k){el:Expr}{gs:List Comprehension}{vp p:Pos}{x:Str}(h:swB sc x p (.ListComp el gs scope vp)=true):swapsWith (.ListComp el gs scope vp) (some (.Name x p)) line X.env=pure true:=by
 obtain⟨h1,h⟩:=andB h;obtain⟨h2,h3⟩:=andB h;have e1:X.env.kindOf x=some .local:=by show X.env.scope.names.lookup x=_;rw[O.sc];exact beq_iff_eq.mp h1
 unfold swapsWith;show(pure (X.env.blockKind== .function&&X.env.kindOf x==some .local&&p.line==vp.line&& !_):Sem Bool)=pure true;rw[bk_fn O,e1,show(p.line==vp.line)=true from h2];have h3':(!(scope.names.any λx_1=>match x_1 with| (n,k)=>n==x&&(k== .local||k== .cell)))=true:=h3
 first|rw[h3'];rfl|simp_all
theorem loc_ok(O:XOk X (λ_=>true) N sc CX E Φ Γ k){x:Str}(h:locB sc x=true):L2.Loc X.env.scope x:=by unfold L2.Loc;rw[O.sc];unfold locB at h;simpa using h
theorem b0G'{D:Ends}{i:Nat}{e:CE}(h:tS X.K X.mg E Φ Γ (.asg i e) D σ H):tE X.K X.mg E Φ Γ e σ H λv H1=>D.nx (σ.set i (some v)) H1:=by obtain⟨F,μ,ρ,S,sk,en,w⟩:=h;simp only[denS]at w;exact⟨F,μ,ρ,S,sk,en,(WantS.bind w).mono λv H1 zz=>ex34 zz λμ1 S1 d x1 s1 r1 w1=>w1 μ1 H1 _ .refl s1 ((en.mono x1).set r1)⟩
theorem s_asg(O:XOk X (λ_=>true) N sc CX E Φ Γ k){i:Nat}{e:CE}(h:sdS (.asg i e) N sc st=true):PS X (emS (.asg i e) N st) (tS X.K X.mg E Φ Γ (.asg i e)):=by
 obtain⟨h1,h⟩:=andB h;obtain⟨h2,h⟩:=andB h;obtain⟨h3,h4⟩:=andB h;have h1:=beq_iff_eq.mp h1
 have plain:swapsWith (emE e N (vs st).e1) (some (.Name (N.getD i "") (vw (vs st).e0).pos)) (vs st).pos.line X.env=pure false→PS X (emS (.asg i e) N st) (tS X.K X.mg E Φ Γ (.asg i e)):=λhs=>
  weakS (ps_set (i:=i) (by rw[O.n];exact O.nd) (by rw[O.n];exact h1) (loc_ok O h2) (a0q' e O h3) hs (.inl (O.fn _ rfl))) λD σ H q=>b0G' q
 rcases Bool.or_eq_true_iff.mp h4 with h4|h4
 ·exact plain (b1Z' h4)
 ·obtain⟨h4,h5⟩:=andB h4;cases e with
  |comp box N' fr tg it ifs body=>
   rcases Bool.or_eq_true_iff.mp h5 with h5|h5
   ·exact plain (sw_cell O rfl (beq_iff_eq.mp h5))
   ·have hsw:=sw_yes O (line:=(vs st).pos.line) h5;have hx:X.env.scope.names.lookup (N.getD i "")=some .local:=by rw[O.sc];exact beq_iff_eq.mp (andB h5).1
    obtain⟨k1,h⟩:=andB h3;obtain⟨k2,h⟩:=andB h;obtain⟨k3,h⟩:=andB h;obtain⟨k4,h⟩:=andB h;obtain⟨k5,h⟩:=andB h;obtain⟨k6,h⟩:=andB h;obtain⟨k7,k8⟩:=andB h;have sc1:=a5z' O k1
    refine weakS (ps_comp (N:=N') (j:=i) (g:=gCT X.K tg) (tb:=tC X.K X.mg oL Φ Γ ifs body) O.calm (by rw[O.n];exact O.nd) (by rw[O.n];exact h1) hx hsw sc1 (a5A' O k2) (a6S' it O k5 a3q') (λacc env=>a2T' _ env>>=λok=>if ok=true then cRest (ceK false _ _ _ _) (emK false _ _ env) (_::_) 0 (.ref acc) env else pure ())
     (λit acc env=>a9J' (kd:=false) rfl) (λC s0 H0 fp acc=>?_) (a0S' k6)) λD σ H q=>c_comp (tg0:=.Name (N.getD i "") (vw (vs st).e0).pos) (b0G' q)
    have O':=a5B' O sc1.kind k3 C s0 H0 fp;exact⟨g_pg O' k4,a9B' (a4U' ifs O' k7) (a9M' body (kd:=false) O' rfl rfl k8)⟩
  |_=>cases h4
end
def Fly(h0:Heap)(H':Hp)(h':Heap)(e:Addr)(cls:Value):Prop:=
 ∃oe vs a0 T oT ts,h'.get? e=some oe∧(oe.cls=cls∧vs[0]?=some a0)∧oe.data=.fields vs∧vs[1]?=some (.ref T)∧T≠e∧h'.get? T=some oT∧oT.data=.fields ts∧ts[3]?=some .none∧(h0.get? e=none∧h0.get? T=none)∧H' e=none∧H' T=none
noncomputable def CX1(P:Program)(w:World):CXT:=λouter H s E v s'=>∃e cls H',v=.ref e∧s'.os=s.os∧AllBare s'.gens∧Un (frs outer) [] H H' s.heap s'.heap∧HOk P w H' s'.heap∧E cls none H'∧Fly s.heap H' s'.heap e cls
theorem cx1_0(outer:List Env)(H:Hp)(s:Shared)(e:Value)(s':Shared)(z:CX1 P w outer H s E0 e s'):False:=by obtain⟨_,_,_,_,_,_,_,_,q,_⟩:=z;exact q
theorem obj_ex{o:HO}(x:ObjOk P w H h a o):∃u,h.get? a=some u:=by
 cases o with
 |lst xs=>obtain⟨_,_,_,_,e⟩:=x;exact⟨_,e⟩
 |tup xs=>obtain⟨_,_,_,_,u,e,_⟩:=x;exact⟨_,e⟩
 |dK kvs=>obtain⟨_,_,_,_,o,_,_,e,_⟩:=x;exact⟨_,e⟩
 |dT kvs=>obtain⟨_,_,_,_,o,_,_,e,_⟩:=x;exact⟨_,e⟩
 |set S n=>obtain⟨o,_,_,_,e,_⟩:=x;exact⟨_,e⟩
 |ins C dx fs=>obtain⟨_,_,_,e,_⟩:=x;exact⟨_,e⟩
 |own y=>obtain⟨_,e⟩:=x;exact⟨_,e⟩
 |xd fs=>obtain⟨_,⟨_,_,_,e,_⟩,_⟩:=x;exact⟨_,e⟩
 |rng lo hi=>obtain⟨_,_,_,e⟩:=x;exact⟨_,e⟩
 |frz ob u=>obtain⟨e,_⟩:=x;exact⟨_,e⟩
 |tbl ps=>exact⟨_,show h.get? a=some _ from x⟩
 |met f y=>exact⟨_,show h.get? a=some _ from x⟩
 |ext φ=>obtain⟨_,e,_⟩:=x;exact e
section
variable {s3:Shared}{e T:Addr}{cls a0:Value}{B:Heap}{E:XK}
theorem b0H'(I:Inv X pq σ H' s2)(hex:X.ex=[])(hst:X.stack=X.env::X.outer)(hB:∀b o,s2.heap.get? b=some o→b∉frs X.stack→b≠e→b≠T→B.get? b=some o)
  (he:X.s₀.heap.get? e=none∧X.s₀.heap.get? T=none) (He:H' e=none∧H' T=none) (fl:Heap.FlyingW B X.outer e cls a0 h') (up:s2.heap.UpToSlots h') (q:E cls none H')
  (e1:s3.os=s2.os) (e2:s3.gens=s2.gens) (e3:s3.heap=h'):CX1 X.prog X.w X.outer X.H₀ X.s₀ E (.ref e) s3:=by
 have U:=I.base;rw[hex]at U;have stk:=I.stack;have hfr:∀b,b∈frs X.stack→∃o,s2.heap.get? b=some o∧∀vs,o.data≠.fields vs:=λb hb=>(stk.mem hb).2;have hfree:∀b∈frs X.stack,H' b=none:=I.stkFree;have keepB:∀b o,s2.heap.get? b=some o→b∉frs X.stack→b≠e→b≠T→h'.get? b=some o:=λb o h1 h2 h3 h4=>fl.1 b o (hB b o h1 h2 h3 h4);have old:∀b o,X.s₀.heap.get? b=some o→b≠e∧b≠T:=λb o h1=>⟨λz=>(by rw[z,he.1]at h1;cases h1),λz=>(by rw[z,he.2]at h1;cases h1)⟩
 have nl:∀b o,X.s₀.heap.get? b=some o→b∉frs X.outer→b∉frs X.stack:=λb o h1 h2 h3=>by
  rcases Zo.mp (I.stkSub b h3)with z|z
  ·have:=Zn h1;rw[z]at this;exact absurd this (Nat.not_lt.mpr I.ok.above)
  ·exact h2 z
 have sub:∀b∈frs X.outer,b∈frs X.stack:=λb hb=>by rw[hst];obtain⟨en,h1,h2⟩:=List.mem_filterMap.mp hb;exact List.mem_filterMap.mpr ⟨en,Zb _ h1,h2⟩
 have there:∀b o,s2.heap.get? b=some o→b≠e→b≠T→∃o',h'.get? b=some o':=λb o h1 h2 h3=>by
  by_cases hb:b∈frs X.stack
  ·obtain⟨o1,h4,h5⟩:=hfr b hb;obtain⟨sl,h6⟩:=up b o1 h4 h5;exact⟨_,h6⟩
  ·exact⟨o,keepB b o h1 hb h2 h3⟩
 have U':Un (frs X.outer) [] X.H₀ H' X.s₀.heap h':=by
  refine⟨λb o h1 h2 h3 h4=>keepB b o (U.keep b o h1 h2 h3 h4) (nl b o h1 h3) (old b o h1).1 (old b o h1).2,λb o h1 h2 h3 h4=>?_,U.free,λb o h1 h2=>?_,U.tups,U.frzs,U.tbls⟩
  ·obtain⟨sl,h5⟩:=U.slot b o h1 h2 h3 h4;obtain⟨o1,h6,h7⟩:=hfr b (sub b h3);rw[h5]at h6;cases h6;obtain⟨sl',h8⟩:=up b _ h5 h7;exact⟨sl',h8⟩
  ·obtain⟨o',h5⟩:=U.there b o h1 h2;exact there b o' h5 (old b o h1).1 (old b o h1).2
 have tracked:∀b u,H' b=some u→b∉frs X.stack∧b≠e∧b≠T:=λb u h1=>
  ⟨λz=>(by rw[hfree b z]at h1;cases h1),λz=>(by rw[z,He.1]at h1;cases h1),λz=>(by rw[z,He.2]at h1;cases h1)⟩
 have hok:HOk X.prog X.w H' h':=λa o ea=>(I.hok a o ea).stay (λb u hb h1=>by
  have hb':∃u,H' b=some u:=by rcases hb with rfl|hb<;>exact⟨_,by assumption⟩
  obtain⟨u',hu⟩:=hb';obtain⟨t1,t2,t3⟩:=tracked b u' hu;exact keepB b u h1 t1 t2 t3) (λ_ q=>q) λ_ _ q=>q
 obtain⟨k1,k2,k3,oe,vs,T',oT,ts,h1,h2,h3,h4,h5,h6,h7,h8,h9⟩:=fl
 have notB:∀o,s2.heap.get? T'=some o→T'=T:=λo ho=>by
  refine Classical.byContradiction λhn=>?_;by_cases hb:T'∈frs X.stack
  ·obtain⟨o1,h10,h11⟩:=hfr T' hb;obtain⟨sl,h12⟩:=up T' o1 h10 h11;rw[h7]at h12;cases h12;exact h11 _ h8
  ·rw[hB T' o ho hb h6 hn]at h5;cases h5
 refine⟨e,cls,H',rfl,by rw[e1];exact I.os,by rw[e2];exact I.bare,by rw[e3];exact U',by rw[e3];exact hok,q,?_⟩;rw[e3];refine⟨oe,vs,a0,T',oT,ts,h1,h2,h3,h4,h6,h7,h8,h9,⟨he.1,?_⟩,He.1,?_⟩
 ·cases hq:X.s₀.heap.get? T' with
  |none=>rfl
  |some o=>obtain⟨o',h10⟩:=U.there T' o hq (by simp);rw[notB o' h10,he.2]at hq;cases hq
 ·cases hq:H' T' with
  |none=>rfl
  |some u=>obtain⟨o,ho⟩:=obj_ex (I.hok T' u hq);rw[notB o ho,He.2]at hq;cases hq
theorem a8A'{l:List Env}(f:Fly h0 Hx h e cls)(hf:h.FunFrames base l):∃T a0,(h0.get? e=none∧h0.get? T=none)∧(Hx e=none∧Hx T=none)∧Heap.FlyingW (PySem.W.hideAll h (e::T::frs l)) l e cls a0 h:=by obtain⟨oe,vs,a0,T,oT,ts,h1,h2,h3,h4,h6,h7,h8,h9,h10,h11⟩:=f;refine⟨T,a0,h10,h11,λb o q=>PySem.W.of_hideAll _ q,PySem.W.hideAll_none _ (by simp),PySem.W.funFrames_hide hf (λenv he a ha=>?_),oe,vs,T,oT,ts,h1,h2,h3,h4,PySem.W.hideAll_none _ (by simp),h6,h7,h8,h9⟩;exact Zb _ (Zb _ (List.mem_filterMap.mpr ⟨env,he,ha⟩))
theorem hid_get{l:List Env}:∀b o,h.get? b=some o→b∉frs l→b≠e→b≠T→(PySem.W.hideAll h (e::T::frs l)).get? b=some o:=λb o h1 h2 h3 h4=>
 PySem.W.hideAll_get _ h1 λhm=>by
  rcases Zo.mp hm with z|hm
  ·exact h3 z
  ·rcases Zo.mp hm with z|hm
   ·exact h4 z
   ·exact h2 hm
theorem fly_inv{v:Value}(I:Inv X pq σ H s)(c:CX1 X.prog X.w X.stack H s E v s2)(hx:X.ex=[]):∃e cls H',v=.ref e∧Inv X pq σ H' s2∧E cls none H'∧Fly s.heap H' s2.heap e cls:=by obtain⟨e,cls,H',rfl,os,bare,un,hok,q,f⟩:=c;exact⟨e,cls,H',rfl,I.call' os un hok bare (λb z=>absurd z (by simp)),q,f⟩
theorem Fly.old(f:Fly h0 Hx h e cls)(t:∀b o,h1.get? b=some o→∃o',h0.get? b=some o'):Fly h1 Hx h e cls:=by
 obtain⟨oe,vs,a0,T,oT,ts,g1,g2,g3,g4,g6,g7,g8,g9,g10,g11⟩:=f
 have n:∀b,h0.get? b=none→h1.get? b=none:=λb hb=>by
  cases q:h1.get? b with
  |none=>rfl
  |some o=>obtain⟨o',e'⟩:=t b o q;rw[hb]at e';cases e'
 exact⟨oe,vs,a0,T,oT,ts,g1,g2,g3,g4,g6,g7,g8,g9,⟨n _ g10.1,n _ g10.2⟩,g11⟩
end
section
variable {E:XK}
def LvX(X:Cx)(E:XK):Prop:=X.ex=[]∧X.stack=X.env::X.outer∧X.env.frame=some X.env.locals∧X.xe=λe s'=>wpAny (model X.prog X.w) X.A (leaving X.env e) (λ_ s''=>CX1 X.prog X.w X.outer X.H₀ X.s₀ E e s'') (λe' s''=>CX1 X.prog X.w X.outer X.H₀ X.s₀ E e' s'') s'
theorem LvX.of{E:XK}:LvX (cxOf (CX1 P w) P w K mg base N qual scope f cd A outer s H E) E:=
 ⟨rfl,rfl,rfl,rfl⟩
theorem LvX.own(L:LvX X E):PassesOwn (model X.prog X.w) X.A X.env X.xe:=by rw[L.2.2.2];exact PassesOwn.leaving
theorem LvX.pass(L:LvX X E):a9k' (CX1 X.prog X.w) X E:=by intro pq σ H s v s' I c;obtain⟨hex,hst,hf,hxe⟩:=L;obtain⟨e,cls,H',rfl,I2,q,f⟩:=fly_inv I c hex;have f':=f.old (h1:=X.s₀.heap) λb o hb=>I.base.there b o hb (by rw[hex];simp);obtain⟨T,a0,n1,n2,fw⟩:=a8A' f' (hst▸I2.stack);rw[hxe];refine wpAny_leaves_onW (by rw[I.ok.frames,hst]) hf fw λh' fl up=>?_;exact b0H' (T:=T) I2 hex hst (by rw[hst];exact hid_get) n1 n2 fl up q rfl rfl rfl
theorem LvX.made{e:Addr}{args:Lv}(L:LvX X E)(I:Inv X pq σ H s)(m:Heap.MadeExcOf s.heap h2 e (.ref C) args)(q:E (.ref C) none H):X.xe (.ref e) {s with heap:=h2}:=by
 obtain⟨hex,hst,hf,hxe⟩:=L;rw[hxe];have hin:∀env∈X.env::X.outer,∀a,env.frame=some a→a∈frs (X.env::X.outer):=λenv he a ha=>List.mem_filterMap.mpr ⟨env,he,ha⟩;refine wpAny_leaves_madeW (base:=PySem.W.hideAll s.heap (frs X.stack)) (h:=s.heap) (by rw[I.ok.frames,hst]) hf (λb o z=>PySem.W.of_hideAll _ z) (PySem.W.funFrames_hide (hst▸I.stack) (by rw[hst];exact hin)) m λh' t fl tu bt up=>?_
 have ne:X.s₀.heap.get? e=none:=by
  cases hq:X.s₀.heap.get? e with
  |none=>rfl
  |some o=>obtain⟨o',h10⟩:=I.base.there e o hq (by rw[hex];simp);rw[m.new]at h10;cases h10
 have nH:H e=none:=by
  cases hq:H e with
  |none=>rfl
  |some u=>obtain⟨o,ho⟩:=obj_ex (I.hok e u hq);rw[m.new]at ho;cases ho
 exact b0H' (T:=e) I hex hst (λb o h1 h2 _ _=>PySem.W.hideAll_get _ h1 h2) ⟨ne,ne⟩ ⟨nH,nH⟩ fl ((Heap.UpToSlots.of_keeps m.keeps).trans up) q rfl rfl rfl
end
noncomputable def bmVE:Lv:=[.type "ValueError",.type "Exception",.type "BaseException",.type "object"]
section
variable {E:XK}{x:Str}
end
open PySem PySem.Spec PySem.Calls PyProof.Rows PySem.W
section
variable {x:Addr}
end
section
variable {x:Addr}
end
end Py
namespace Py
open PySem PySem.Spec PySem.SeqAt PyProof.Rows L2
section
variable {x:Addr}{bf:Str→Bool}{ys:Ls}
end
end Py
namespace Py
section
variable {e T:Addr}{B h3:Heap}
end
section
variable {y n:Str}{i:Nat}
end
section
variable {D:Ends}{h:ExceptHandler}
variable {pa:Addr}{pe n y:Str}{i:Nat}{tp np vp cp rp hp:Pos}
end
inductive Rz where
 |cls (x:Str)|kind (f:Str) (ys ws:Ls)
 deriving DecidableEq
mutual
noncomputable def rzS:CS→List Rz
 | .raise_ x _=>[.cls x]
 | .tryK _ body f ys ws=>.kind f ys ws::rzSs body
 | .ite _ a b=>rzSs a++rzSs b
 | .for_ _ _ body=>rzSs body
 | .while_ _ _ body=>rzSs body
 |_=>[]
noncomputable def rzSs:List CS→List Rz
 | []=>[]
 |c::cs=>rzS c++rzSs cs
end
def XC(P:Program)(w:World)(K:Fg)(mg:Mg):Rz→Prop
 | .cls x=>∃C,mg x=some (.ref C)∧PySem.W.excIn K C bmVE "ValueError.__new__"=true
 | .kind _ _ _=>False
theorem own_in{x:Str}(X:K.In h)(e:mg x=some (.ref C))(q:PySem.W.excIn K C bmVE "ValueError.__new__"=true):OwnCls x C bmVE "ValueError.__new__" mg h:=by
 refine⟨e,?_⟩;unfold PySem.W.excIn at q;split at q
 ·rename_i dd cd sl ho;split at q
  ·rename_i C' bm k0 k1 k2 k3 n k5 hm hs;simp only[Zt,beq_iff_eq,Bool.not_eq_true']at q;obtain⟨⟨⟨⟨⟨rfl,rfl⟩,hdel⟩,ht⟩,hok⟩,hni⟩:=q;obtain⟨nm,bs,mro,ns,qn,hd,sn,sub,ab,col,del⟩:=cd;dsimp only at hm hdel hok hni;subst hm hdel;have hsl:sl= #[k0,k1,k2,k3,some (.builtin "ValueError.__new__"),k5]:=by obtain⟨l⟩:=sl;simp only at hs;rw[hs]
   subst hsl;exact⟨bm,ns,nm,qn,bs,hd,sn,sub,ab,col,dd,k0,k1,k2,k3,k5,_,X _ _ ho,.of_isNs (PySem.W.isNs_of_in X hok),PySem.W.nsMap_none_of_in X hok hni,PySem.W.tail_of_in X ht⟩
  ·cases q
 ·cases q
theorem asg_sub{o i:Expr}{p:Pos}(h:a3l' i=true):∀v,assign (.Subscript o i p) env v=(do
   let ov ←holding [v] (eval o env)
   let iv ←holding [v,ov] (eval i env)
   standAt p
   holding [v,ov,iv] (setItem ov iv v)
   release [v,ov,iv] []):=by
 intro v;cases i<;>first|rfl|cases h
noncomputable def tksD(ks:List (Li)):List D:=ks.map λk=>D.tup (k.map D.int)
theorem b0I'{ls:List (Li)}(h:tksD ks=tksD ls):ks=ls:=by
 have e:∀l:List (Li),(tksD l).map asTup=l:=λl=>by unfold tksD;rw[ZL];refine(List.map_congr_left λk _=>?_).trans (List.map_id l);show(k.map D.int).filterMap asInt=k;rw[List.filterMap_map];exact List.filterMap_some
 rw[←e ks,h,e]
def oD(acc:Addr)(ds:List D)(vs:List V)(o:HO):Prop:=∃cs:List (Li×Addr),o=.ext (λh=>ObD h acc cs)∧ds=tksD (cs.map (·.1))∧vs=(cs.map λc=>V.ref c.2)∧(cs.map (·.1)).Nodup
theorem b0J'(cs:List (Li×Addr)):tksD (cs.map (·.1))=cs.map λc=>D.tup (c.1.map D.int):=by unfold tksD;rw[ZL];rfl
theorem b0K'(x:ObD h a cs):ObjOk prog w H h a (.ext (λh=>ObD h a cs)):=
 ⟨x,let⟨_,o,_,_,g,_⟩:=x;⟨o,g⟩,λh1 h2 ⟨y,o,es,ep,g,r⟩ k=>⟨y,o,es,ep,k o g,r⟩⟩
section
variable {E:XK}{pos:Pos}
def tDn:TE:=λ_ H Q=>∀a,H a=none→Q (.ref a) (upd H a (.ext λh=>ObD h a []))
theorem pe_dnew:PE X (.Dict [] [] pos) tDn:=λpq s σ H Q I q=>by have hlt:mainGlobals<s.heap.objs.size:=Zu I.mod.glob.lt (ZS I.ok.bsz I.sz);have hp:H s.heap.objs.size=none:=I.hok.fresh (Zk _);refine wpAny_Dict_empty ⟨.ref s.heap.objs.size,_,I.laid (t':=s.toks) (λb ob q=>Zc _ q) (Zk _) (b0K' ⟨?_,_, #[],_,Zl _ rfl,⟨rfl,rfl,rfl⟩,rfl,rfl⟩),rfl,q _ hp⟩;have h3:mainGlobals=3:=rfl;have h1:sysModules=1:=rfl;rw[beq_eq_false_iff_ne];intro z;rw[z,h1,h3]at hlt;exact absurd hlt (by decide)
noncomputable def tPd(K:Fg):TSet:=λo i v H Q=>∃(acc b:Addr) (cs:List (Li×Addr)) (k:Li),o=.ref acc∧i=.ref b∧v=.bl true∧H acc=some (.ext λh=>ObD h acc cs)∧(∀c∈cs,SqT K H c.2 (c.1.map V.int))∧(cs.map (·.1)).Nodup∧SqT K H b (k.map V.int)∧cs.length<64∧Q (upd H acc (.ext λh=>ObD h acc (if k∈cs.map (·.1)then cs else cs++[(k,b)])))
theorem pset_D(hu:X.A.units+64<cLine):PSet X (tPd X.K):=by intro pq s σ H o i v ov iv u Q I r1 r2 r3 h;obtain⟨acc,b,cs,k,rfl,rfl,rfl,ea,hk,nd,hb,few,q⟩:=h;cases r1;cases r2;cases r3;refine put_D (I.hok acc _ ea).1 (λc hc=>a4P' I (hk c hc)) nd (a4P' I hb) hu (by omega) λh' tk sb x=>?_;exact⟨_,I.write (t':=tk) (x:=acc) (e:=acc) (by rw[ea];trivial) (.inl rfl) (λb u hb e=>(sb.2 b hb).trans e) (let⟨_,o,_,_,g,_⟩:=x;⟨o,g⟩) (b0K' x),q⟩
structure DSt (X:Cx)(i:Nat)(F:La)(acc:Addr)(B:La→Hp→Prop)(μ0:La)(H0:Hp)(μ:La)(S:Store)(H:Hp)(ρ:Rho)(σ:L2.St)(ks:List (Li))(vs:List V):Prop where
 st:CSt X.K X.mg F acc (oD acc) B μ0 H0 μ S H ρ σ (tksD ks) vs
 at_:σ[i]?=some (some (.ref acc))
def WantP(X:Cx)(i:Nat)(F:La)(acc:Addr)(B:La→Hp→Prop)(μ0:La)(H0:Hp)(ρ:Rho)(N:L2.St→Hp→Prop):Res (List (Li))→Prop
 | .ok ks' S'=>∀μ' H' σ' vs',DSt X i F acc B μ0 H0 μ' S' H' ρ σ' ks' vs'→N σ' H'
 |_=>False
def tPs(X:Cx)(Φ:FT)(Γ:Str→Option D)(i:Nat)(ps:List (Option CE×CE)):TS:=λD σ H=>∃F acc B μ0 H0 μ ρ S ks vs,Keep X.K (acc::F) B∧DSt X i F acc B μ0 H0 μ S H ρ σ ks vs∧WantP X i F acc B μ0 H0 ρ D.nx (putsD Φ Γ ps ρ ks S)
theorem p_put{i:Nat}{k:CE}{ps:List (Option CE×CE)}{vs:List V}{Dn:Ends}(hB:Keep X.K (acc::F) B)(st:DSt X i F acc B μ0 H0 μ S H ρ σ ks vs)
  (w:WantP X i F acc B μ0 H0 ρ Dn.nx ((den Φ Γ k ρ S).noErr.bind λy S2=>(if hasTy (.seq .int) y=true∧ks.length<63 then putsD Φ Γ ps ρ (addK ks (asTup y)) S2 else .fail))):
  tAsg (L2.tC (.bl true)) (gSub (tVar i) (tE X.K X.mg E Φ Γ k) (tPd X.K)) {Dn with nx:=tPs X Φ Γ i ps Dn} σ H:=by
 refine⟨.ref acc,st.at_,acc::F,μ,ρ,S,st.st.sok,st.st.env,?_⟩;cases e:den Φ Γ k ρ S with
 |ok y S1=>
  rw[e]at w;intro μ1 H1 v x s r;have st1:=st.st.next hB x s;have w':WantP X i F acc B μ0 H0 ρ Dn.nx (if hasTy (.seq .int) y=true∧ks.length<63 then putsD Φ Γ ps ρ (addK ks (asTup y)) S1 else .fail):=w;by_cases hl:hasTy (.seq .int) y=true∧ks.length<63
  ·rw[if_pos hl]at w';obtain⟨k',rfl⟩:=ty_tup hl.1;obtain⟨b,ws,rfl,hq,rl⟩:=a0r' r;cases a4o' rl;obtain⟨o,ea,cs,rfl,e1,e2,nd⟩:=st1.at_;obtain rfl:=b0I' e1;subst e2;have rr:=st1.rep;rw[b0J']at rr;have hk:=a3p' rr
   have e3:asTup (D.tup (k'.map D.int))=k':=by show(k'.map D.int).filterMap asInt=k';rw[List.filterMap_map];exact List.filterMap_some
   rw[e3]at w';have few:=hl.2;rw[Zj]at few;refine⟨acc,b,cs,k',rfl,rfl,rfl,ea,hk,nd,hq,by omega,?_⟩;unfold addK at w';by_cases z:k'∈cs.map (·.1)
   ·rw[if_pos z]at w'⊢
    have:upd H1 acc (.ext λh=>ObD h acc cs)=H1:=by
     funext a;unfold upd;split
     ·rename_i za;rw[za,ea]
     ·rfl
    rw[this];exact⟨F,acc,B,μ0,H0,μ1,ρ,S1,_,_,hB,⟨st1,st.at_⟩,w'⟩
   ·rw[if_neg z]at w'⊢;have e4:tksD (cs.map (·.1)++[k'])=tksD (cs.map (·.1))++[D.tup (k'.map D.int)]:=by unfold tksD;simp
    refine⟨F,acc,B,μ0,H0,μ1,ρ,S1,_,cs.map (λc=>V.ref c.2)++[.ref b],hB,⟨?_,st.at_⟩,w'⟩;rw[e4];refine st1.put hB ea rfl r ⟨cs++[(k',b)],rfl,by rw[List.map_append];exact e4.symm,by simp,?_⟩;rw[List.map_append,List.nodup_append]
    exact⟨nd,by simp,λa ha c hc=>by
     have:c=k':=by simpa using hc
     subst this;exact λz'=>z (z'▸ha)⟩
  ·rw[if_neg hl]at w';exact w'.elim
 |err y S1=>rw[e]at w;exact w.elim
 |fail=>rw[e]at w;exact w.elim
theorem p_all{kk:Nat}(O:XOk X (λ_=>true) N sc CX E Φ Γ kk)(sE:∀(c:CE) {e:Expr},sdE c N sc e=true→PE X (emE c N e) (tE X.K X.mg E Φ Γ c))(sT:∀(c:CE) {e:Expr},sdE c N sc e=true→PT X (emE c N e) (tT X.K X.mg E Φ Γ c)){i:Nat}(h1:(N[i]?==some (N.getD i ""))=true)(h2:visB sc (N.getD i "")=true)(h3:a6K' (N.getD i "")=true):
  ∀(ps:List (Option CE×CE)) (st:List Stmt),sdPs ps N sc st=true→PSs X (emPs ps N i st) (tPs X Φ Γ i ps)
 | [],st,h=>λpq s σ H D I zz=>by obtain⟨F,acc,B,μ0,H0,μ,ρ,S,ks,vs,hB,ds,w⟩:=zz;exact a7m' pq s σ H D I (w μ H σ vs ds)
 | (c,k)::ps,st,h=>by
  have hr:=p_all O sE sT h1 h2 h3 ps st.tail (andB h).2
  have put:∀{s:Stmt},sdPut k N sc s=true→PS X (emPut k N i s) (tAsg (L2.tC (.bl true)) (gSub (tVar i) (tE X.K X.mg E Φ Γ k) (tPd X.K))):=λ{s} hp=>
   ps_asg pe_bl (pg_sub (pe_var (i:=i) (by rw[O.n];simpa using h1) (a6j' O.sc h2) (a1G' h3).1 (a1G' h3).2) (sE k (andB hp).2) (pset_D O.room.units) (asg_sub (andB hp).1)) rfl rfl
  cases c with
  |none=>refine a9N' (a3e' (put (andB h).1) hr) λD σ H zz=>?_;obtain⟨F,acc,B,μ0,H0,μ,ρ,S,ks,vs,hB,ds,w⟩:=zz;exact p_put hB ds w
  |some c=>
   have h4:=(andB h).1;refine a9N' (a3e' (ps_if (sT c (andB h4).1) (pss_one (put (andB h4).2)) a7m') hr) λD σ H zz=>?_;obtain⟨F,acc,B,μ0,H0,μ,ρ,S,ks,vs,hB,ds,w⟩:=zz;refine⟨acc::F,μ,ρ,S,ds.st.sok,ds.st.env,?_⟩;have w':WantP X i F acc B μ0 H0 ρ D.nx ((denT Φ Γ c ρ S).noErr.bind λb S1=>if b=true then(den Φ Γ k ρ S1).noErr.bind λy S2=>(if hasTy (.seq .int) y=true∧ks.length<63 then putsD Φ Γ ps ρ (addK ks (asTup y)) S2 else .fail)else putsD Φ Γ ps ρ ks S1):=w;cases e:denT Φ Γ c ρ S with
   |ok b S1=>
    rw[e]at w';intro μ1 H1 b' x s eb;subst eb;have ds1:DSt X i F acc B μ0 H0 μ1 S1 H1 ρ σ ks vs:=⟨ds.st.next hB x s,ds.at_⟩;cases b with
    |true=>exact p_put hB ds1 w'
    |false=>exact⟨F,acc,B,μ0,H0,μ1,ρ,S1,ks,vs,hB,ds1,w'⟩
   |err y S1=>rw[e]at w';exact w'.elim
   |fail=>rw[e]at w';exact w'.elim
theorem gs_do2{F μ:La}{H:Hp}{K:Fg}{mg:Mg}{ρ':Rho}{i:Nat}{o:Option (Option V)}{Q:L2.St→Hp→Prop}:∀{ts:List CT} {ds:List D} {vs:List V} {ρ:Rho} {σ:L2.St},asgVs ts ds ρ=some ρ'→RepL K ⟨mg,F⟩ μ H ds vs→EnvR K ⟨mg,F⟩ μ H ρ σ→(a4k' ts).all (· !=i)=true→σ[i]?=o→(∀σ',EnvR K ⟨mg,F⟩ μ H ρ' σ'→σ'[i]?=o→Q σ' H)→gVs ts vs σ H Q
 | [],ds,vs,ρ,σ,h,r,en,hi,e,q=>by
  cases ds with
  |nil=>cases h;unfold RepL at r;exact⟨r,q σ en e⟩
  |cons _ _=>cases h
 |t::ts,ds,vs,ρ,σ,h,r,en,hi,e,q=>by
  cases t with
  |tup _=>cases h
  |var j=>
   cases ds with
   |nil=>cases h
   |cons d ds=>obtain⟨v,w,rfl,r1,rl⟩:=r.uncons;have hi:((j::a4k' ts).all (· !=i))=true:=hi;rw[List.all_cons,Zt]at hi;exact⟨v,w,rfl,gs_do2 (ts:=ts) h rl (en.set r1) hi.2 (by rw[ZR (by simpa using hi.1)];exact e) q⟩
theorem g_do2{i:Nat}{o:Option (Option V)}{Q:L2.St→Hp→Prop}{t:CT}(h:asgCT t d ρ=some ρ')(r:Rep K ⟨mg,F⟩ μ H d v)(en:EnvR K ⟨mg,F⟩ μ H ρ σ)(hi:(slots t).all (· !=i)=true)(e:σ[i]?=o)
  (q:∀σ',EnvR K ⟨mg,F⟩ μ H ρ' σ'→σ'[i]?=o→Q σ' H):gCT K t v σ H Q:=by
 cases t with
 |var j=>
  cases h;have hi:j≠i:=by simpa[slots]using hi
  exact q _ (en.set r) (by rw[ZR hi];exact e)
 |tup ts=>
  cases d with
  |tup ds=>obtain⟨a,vs,rfl,hq,rl⟩:=a0r' r;exact⟨a,vs,rfl,hq,by rw[←rl.length];exact(a2Z' (ts:=ts) h).1.symm,gs_do2 (ts:=ts) h rl en hi e q⟩
  |_=>cases h
theorem b2a'{ps:List (Option CE×CE)}{y:Exc}:putsD Φ Γ ps ρ ks S≠.err y S':=by
 induction ps generalizing ks S with
 |nil=>intro h;cases h
 |cons p ps ih=>
  obtain⟨c,k⟩:=p
  have go:∀{ks S},((den Φ Γ k ρ S).noErr.bind λy S2=>(if hasTy (.seq .int) y=true∧ks.length<63 then putsD Φ Γ ps ρ (addK ks (asTup y)) S2 else .fail))≠.err y S':=λ{ks S} h=>by
   cases e:den Φ Γ k ρ S with
   |ok z S1=>
    simp only[e,Res.noErr,Res.bind]at h;split at h
    ·exact ih h
    ·cases h
   |err z S1=>simp only[e,Res.noErr,Res.bind]at h;cases h
   |fail=>simp only[e,Res.noErr,Res.bind]at h;cases h
  intro h;cases c with
  |none=>exact go h
  |some c=>
   have h:((denT Φ Γ c ρ S).noErr.bind λb S1=>if b=true then(den Φ Γ k ρ S1).noErr.bind λy S2=>(if hasTy (.seq .int) y=true∧ks.length<63 then putsD Φ Γ ps ρ (addK ks (asTup y)) S2 else .fail)else putsD Φ Γ ps ρ ks S1)=.err y S':=h;cases e:denT Φ Γ c ρ S with
   |ok b S1=>
    simp only[e,Res.noErr,Res.bind]at h;cases b with
    |true=>exact go h
    |false=>exact ih h
   |err z S1=>simp only[e,Res.noErr,Res.bind]at h;cases h
   |fail=>simp only[e,Res.noErr,Res.bind]at h;cases h
theorem pre_nil{c:CS}(h:preN c=0){st:List Stmt}:preS c N st=[]:=by cases c<;>first|rfl|cases h
theorem b2b'{mg:GS}{i:Nat}{o:Option V}(en:EnvR K mg μ H ρ σ):EnvR K mg μ H (ρ.set i none) (σ.set i o):=by
 refine⟨by simp[en.1],λj d e=>?_⟩;by_cases hj:i=j
 ·subst hj;rw[List.getElem?_set]at e;split at e
  ·split at e<;>cases e
  ·rename_i z;exact absurd rfl z
 ·rw[ZR hj]at e⊢;exact en.2 j d e
theorem env_dks{mg:GS}{i:Nat}(en:EnvR K mg μ H ρ σ)(e:σ[i]?=some (some v))(r:Rep K mg μ H d v):EnvR K mg μ H (ρ.set i (some d)) σ:=by
 have:=en.set (i:=i) r
 have e2:σ.set i (some v)=σ:=by
  refine List.ext_getElem? λj=>?_;by_cases hj:i=j
  ·subst hj;rw[List.getElem?_set_self (Zh.mp e).1,e]
  ·rw[ZR hj]
 rw[e2]at this;exact this
theorem s_dl{kk:Nat}{i:Nat}{t:CT}{it:CE}{ps:List (Option CE×CE)}{cs:List CS}{px dp:Pos}{ie:Expr}{body rest:List Stmt}{x:Str}(O:XOk X (λ_=>true) N sc CX E Φ Γ kk)(own:PassesOwn (model X.prog X.w) X.A X.env X.xe)(h1:(N[i]?==some x)=true)(hl:Loc X.env.scope x)(hsl:(slots t).all (· !=i)=true)(hi:PI X tg ie (tI X.K X.mg E Φ Γ it))(hg:PG X tg (gCT X.K t))(hs:∀x,foldedSetIterable ie X.env x=pure x)(hb:PSs X body (tPs X Φ Γ i ps))(h2:PSs X rest (tSs X.K X.mg E Φ Γ cs)):
  PSs X (.Assign [.Name x px] (.Dict [] [] dp) p1:: .For tg ie body [] p2::rest) (tSs X.K X.mg E Φ Γ (.dloop i t it ps::cs)):=by
 intro pq s σ H D I zz;obtain⟨F,μ,ρ,S,sk,en,w⟩:=zz;have hN:X.N[i]?=some x:=by rw[O.n];simpa using h1
 have hlen:i<σ.length:=by rw[I.len];exact(Zh.mp hN).1
 refine(a3e' (ps_set (i:=i) (by rw[O.n];exact O.nd) hN hl pe_dnew rfl (.inl (O.fn _ rfl))) (a3e' (ps_for own O.calm hi hg hb hs) h2)) pq s σ H D I ?_;intro a ha
 have w0:WantS X.K ⟨X.mg,F⟩ E D μ H ((((denI Φ Γ it (ρ.set i none) S).noErr.bind λits S1=>(match its with
  | .items xs=>(a2S' (dstep Φ Γ t ps) xs (ρ.set i none) [] S1).bind λr S2=>Res.ok (Fl.next (r.1.set i (some (.dks r.2)))) S2
  |_=>Res.fail:Res Fl)):Res Fl).bind λf S1=>match f with
  | .next ρ'=>denSs Φ Γ cs ρ' S1
  |f=>.ok f S1):=by
  simp only[denSs,denS]at w;exact w
 have st0:CSt X.K X.mg F a (oD a) (λ_ _=>True) μ H μ S (upd H a (.ext λh=>ObD h a [])) (ρ.set i none) (σ.set i (some (.ref a))) (tksD []) []:={
  n0:=ha
  ext:=.laid ha
  sok:=sk.start ha
  nin:=sk.notin ha
  env:=b2b' (en.chg (.start ha))
  at_:=⟨_,a0y',[],rfl,rfl,rfl,.nil⟩
  rep:=.nil
  b:=trivial}
 refine⟨a::F,μ,ρ.set i none,S,st0.sok,st0.env,?_⟩;cases e:denI Φ Γ it (ρ.set i none) S with
 |err y S1=>rw[e]at w0;exact w0.elim
 |fail=>rw[e]at w0;exact w0.elim
 |ok its S1=>
  rw[e]at w0;cases its with
  |live f get=>exact w0.elim
  |items xs=>
   have w1:WantS X.K ⟨X.mg,F⟩ E D μ H ((a2S' (dstep Φ Γ t ps) xs (ρ.set i none) [] S1).bind λr S2=>denSs Φ Γ cs (r.1.set i (some (.dks r.2))) S2):=by
    cases ed:a2S' (dstep Φ Γ t ps) xs (ρ.set i none) [] S1 with
    |ok r S2=>simp only[Res.noErr,Res.bind,ed]at w0;exact w0
    |err y S2=>simp only[Res.noErr,Res.bind,ed]at w0;exact w0
    |fail=>simp only[Res.noErr,Res.bind,ed]at w0;exact w0.elim
   intro μ1 H1 J x1 s1 ok;have st1:=st0.next (λ_ _ _ _ _ _=>trivial) x1 s1;have hB:Keep X.K (a::F) (λμ H=>Chg X.K (a::F) μ1 H1 (a::F) μ H):=λ_ _ _ _ q c=>q.trans c;have ds1:DSt X i F a (λμ' H'=>Chg X.K (a::F) μ1 H1 (a::F) μ' H') μ H μ1 S1 H1 (ρ.set i none) (σ.set i (some (.ref a))) [] []:=⟨st1.back .refl st1.env,List.getElem?_set_self hlen⟩;refine⟨λj m σ' H'=>m=xs.length-j∧∃μ' ρ' S' ks vs,DSt X i F a (λμ' H'=>Chg X.K (a::F) μ1 H1 (a::F) μ' H') μ H μ' S' H' ρ' σ' ks vs∧WantS X.K ⟨X.mg,F⟩ E D μ H ((a2S' (dstep Φ Γ t ps) (xs.drop j) ρ' ks S').bind λr S2=>denSs Φ Γ cs (r.1.set i (some (.dks r.2))) S2),⟨xs.length,by simp,μ1,_,S1,[],[],ds1,w1⟩,?_⟩;rintro j m σ' H' ⟨em,μ',ρ',S',ks,vs,ds,wj⟩;obtain⟨k1,k2⟩:=ok j μ' S' H' (a::F) ds.st.b ds.st.sok;by_cases hj:j<xs.length
   ·have eg:getOf (.items xs) S' j=some (some xs[j]):=by simp[getOf,hj]
    obtain⟨go,yld⟩:=k1 _ eg;rw[List.drop_eq_getElem_cons hj]at wj;refine .inr ⟨go,λσ2 H2=>xs.length-(j+1)=xs.length-(j+1)∧∃μ' ρ' S' ks vs,DSt X i F a (λμ' H'=>Chg X.K (a::F) μ1 H1 (a::F) μ' H') μ H μ' S' H2 ρ' σ2 ks vs∧WantS X.K ⟨X.mg,F⟩ E D μ H ((a2S' (dstep Φ Γ t ps) (xs.drop (j+1)) ρ' ks S').bind λr S2=>denSs Φ Γ cs (r.1.set i (some (.dks r.2))) S2),λσ2 H2 q=>⟨_,by omega,q⟩,λv H2 hv=>?_⟩;obtain⟨x2,s2,r2⟩:=yld v H2 hv;have st2:=ds.st.next hB x2 s2;cases ea:asgCT t xs[j] ρ' with
    |none=>simp only[a2S',dstep,ea,Res.bind]at wj;exact wj.elim
    |some ρ2=>
     refine g_do2 ea r2 st2.env hsl ds.at_ λσ3 en3 e3=>⟨F,a,_,μ,H,μ',ρ2,S',ks,vs,hB,⟨st2.back st2.b en3,e3⟩,?_⟩
     have wj2:WantS X.K ⟨X.mg,F⟩ E D μ H (((putsD Φ Γ ps ρ2 ks S').bind λks' S2=>a2S' (dstep Φ Γ t ps) (xs.drop (j+1)) ρ2 ks' S2).bind λr S2=>denSs Φ Γ cs (r.1.set i (some (.dks r.2))) S2):=by
      simp only[a2S',dstep,ea]at wj;cases ep:putsD Φ Γ ps ρ2 ks S' with
      |ok ks' S2=>simp only[ep,Res.bind]at wj⊢;exact wj
      |err y S2=>simp only[ep,Res.bind]at wj⊢;exact wj
      |fail=>simp only[ep,Res.bind]at wj;exact wj.elim
     cases ep:putsD Φ Γ ps ρ2 ks S' with
     |ok ks' S2=>rw[ep]at wj2;exact λμ3 H3 σ4 vs4 ds4=>⟨rfl,μ3,ρ2,S2,ks',vs4,ds4,wj2⟩
     |err y S2=>exfalso;exact b2a' ep
     |fail=>rw[ep]at wj2;exact wj2.elim
   ·have eg:getOf (.items xs) S' j=some none:=by simp[getOf];omega
    refine .inl ⟨k2 eg,?_⟩;rw[List.drop_eq_nil_of_le (by omega)]at wj;have wj:WantS X.K ⟨X.mg,F⟩ E D μ H (denSs Φ Γ cs (ρ'.set i (some (.dks ks))) S'):=wj;obtain⟨o,eo,cs',rfl,e1,e2,nd⟩:=ds.st.at_;obtain rfl:=b0I' e1;subst e2;have rr:=ds.st.rep;rw[b0J']at rr;have hk:=a3p' rr;refine⟨F,μ',_,S',ds.st.sok.out,env_dks (ds.st.env.chg .out) ds.at_ ?_,WantS.ext ds.st.ext wj⟩;unfold Rep;exact⟨a,cs',rfl,eo,sk.notF ha,⟨rfl,nd⟩,hk⟩
end
structure YOk (X:Cx)(N:Ls)(sc:Sc)(CX:CXT)(E:XK)(Φ:FT)(Γ:Str→Option D)(k:Nat):Prop where
 x:XOk X (λ_=>true) N sc CX E Φ Γ k
 own:PassesOwn (model X.prog X.w) X.A X.env X.xe
 cx:CX=CX1 X.prog X.w
 fr:X.ex=[]∧X.stack=X.env::X.outer∧X.env.frame=some X.env.locals
 made:∀(pq:Lp) (σ:L2.St) (H:Hp) (s:Shared) (h2:Heap) (e C:Addr) (args:Lv),L2.Inv X pq σ H s→Heap.MadeExcOf s.heap h2 e (.ref C) args→E (.ref C) none H→X.xe (.ref e) {s with heap:=h2}
section
variable {E:XK}{pos:Pos}
theorem fm_lt{α β:Type}{f:α→Option β}{x:α}(h:f x=none):∀{l:List α},x∈l→(l.filterMap f).length<l.length
 | [],hx=>by cases hx
 |y::l,hx=>by
  rcases Zo.mp hx with rfl|hx
  ·rw[List.filterMap_cons_none h];exact Nat.lt_succ_of_le (List.length_filterMap_le _ _)
  ·have:=fm_lt h hx;have h2:=List.length_filterMap_le f [y];rw[show y::l=[y]++l from rfl,List.filterMap_append,ZG,ZG];simp at h2⊢;omega
theorem sws_tup{v:Expr}(hs:env.scope.names=sc)(h1:isTup tg=true)(h2:(foldB v||cellB sc tg)=true):swappedStores [tg] v env=pure none:=by
 cases tg<;>first| (cases h1;done)|skip
 cases v<;>first|rfl|skip
 rename_i ts _ _ us _ _;unfold swappedStores;simp only[];split
 ·rfl
 ·split
  ·rfl
  ·split
   ·rfl
   ·rename_i hn;rcases Bool.or_eq_true_iff.mp h2 with h|h
    ·have h:(List.all us (foldedForSure 8))=true:=h
     first|rfl|rw[if_pos h]
    ·exfalso
     have h:(ts.any λx=>match x with
      | .Name id _=>sc.lookup id==some .cell
      |_=>false)=true:=h
     obtain⟨x,hx,hc⟩:=List.any_eq_true.mp h;refine hn ?_
     have hl:=fm_lt (f:=λx=>match x with
      |Expr.Name id pos=>if env.kindOf id==some .local&&pos.line==(ts.head?.map (·.pos.line)).getD 0 then some id else none
      |_=>none) (x:=x) (by
       cases x<;>first|rfl|skip
       rename_i id pos;have hc:(sc.lookup id==some .cell)=true:=hc
       have e:env.kindOf id=some .cell:=by show env.scope.names.lookup id=_;rw[hs];exact eq_of_beq hc
       show(if(env.kindOf id==some .local&&_)=true then _ else _)=none;rw[e];rfl) hx
     rw[Bool.or_eq_true];exact .inl (bne_iff_ne.mpr (Zw hl))
theorem b2c'(h1:isTup tg=true):(assignEach [tg] env).map (·.2)=[assign tg env]:=by cases tg<;>first|rfl|cases h1
theorem s_asgT(O:XOk X (λ_=>true) N sc CX E Φ Γ k){t:CT}{e:CE}{v:Expr}(h1:isTup (emT t N tg)=true)(h2:(foldB v||cellB sc (emT t N tg))=true)(h3:a3Z' v=true)(h4:sdT (λ_=>true) N sc t=true)(h5:PE X v (tE X.K X.mg E Φ Γ e)):PS X (.Assign [emT t N tg] v pos) (tS X.K X.mg E Φ Γ (.asgT t e)):=
 weakS (ps_asg h5 (g_pg O h4) (b1Z' h3) (sws_tup O.sc h1 h2) (b2c' h1)) λD σ H zz=>ex43 zz λF μ ρ S sk en w=>by
  simp only[denS]at w;refine⟨F,μ,ρ,S,sk,en,(WantS.bind w).mono λv H1 zz=>ex34 zz λμ1 S1 d x1 s1 r1 w1=>?_⟩;cases ea:asgCT t d ρ with
  |none=>rw[ea]at w1;exact w1.elim
  |some ρ'=>rw[ea]at w1;exact g_do ea r1 (en.mono x1) λσ' en'=>w1 μ1 H1 σ' .refl s1 en'
theorem s_expr{e:CE}{v:Expr}(h0:a3Z' v=true)(he:PE X v (tE X.K X.mg E Φ Γ e)):PS X (.Expr v pos) (tS X.K X.mg E Φ Γ (.expr e)):=
 weakS (ps_expr he (b1Z' h0)) λD σ H zz=>ex43 zz λF μ ρ S sk en w=>by simp only[denS]at w;exact⟨F,μ,ρ,S,sk,en,(WantS.bind w).mono λv H1 zz=>ex34 zz λμ1 S1 d x1 s1 r1 w1=>w1 μ1 H1 σ .refl s1 (en.mono x1)⟩
theorem s_ret{e:CE}{v:Expr}(he:PE X v (tE X.K X.mg E Φ Γ e)):PS X (.Return (some v) pos) (tS X.K X.mg E Φ Γ (.ret e)):=
 weakS (ps_ret he) λD σ H zz=>ex43 zz λF μ ρ S sk en w=>by simp only[denS]at w;exact⟨F,μ,ρ,S,sk,en,(WantS.bind w).mono λv H1 zz=>ex34 zz λμ1 S1 d x1 s1 r1 w1=>w1 μ1 H1 v .refl s1 r1⟩
theorem s_retN:PS X (.Return none pos) (tS X.K X.mg E Φ Γ .retN):=weakS ps_retN λD σ H zz=>ex43 zz λF μ ρ S sk en w=>w μ H .non .refl sk a9o'
theorem s_pass:PS X (.Pass pos) (tS X.K X.mg E Φ Γ .pass):=weakS ps_pass λD σ H zz=>ex43 zz λF μ ρ S sk en w=>w μ H σ .refl sk en
theorem s_brk:PS X (.Break pos) (tS X.K X.mg E Φ Γ .brk):=weakS b0V' λD σ H zz=>ex43 zz λF μ ρ S sk en w=>w μ H σ .refl sk en
theorem s_cont:PS X (.Continue pos) (tS X.K X.mg E Φ Γ .cont):=weakS a6I' λD σ H zz=>ex43 zz λF μ ρ S sk en w=>w μ H σ .refl sk en
theorem s_if{c:CE}{a b:List CS}{t:Expr}{x y:List Stmt}(hc:PT X t (tT X.K X.mg E Φ Γ c))(ha:PSs X x (tSs X.K X.mg E Φ Γ a))(hb:PSs X y (tSs X.K X.mg E Φ Γ b)):PS X (.If t x y pos) (tS X.K X.mg E Φ Γ (.ite c a b)):=
 weakS (ps_if hc ha hb) λD σ H zz=>ex43 zz λF μ ρ S sk en w=>by
  simp only[denS]at w;refine⟨F,μ,ρ,S,sk,en,(WantS.bind w).mono λk H1 zz=>ex34 zz λμ1 S1 k' x1 s1 e1 w1=>?_⟩;subst e1;cases k' with
  |true=>rw[if_pos rfl]at w1⊢;exact⟨F,μ1,ρ,S1,s1,en.mono x1,w1⟩
  |false=>rw[if_neg (by decide)]at w1⊢;exact⟨F,μ1,ρ,S1,s1,en.mono x1,w1⟩
theorem s_nilS:PSs X [] (tSs X.K X.mg E Φ Γ []):=a9N' a7m' λD σ H zz=>ex43 zz λF μ ρ S sk en w=>w μ H σ .refl sk en
theorem s_consS{c:CS}{cs:List CS}{s:Stmt}{st:List Stmt}(h1:PS X s (tS X.K X.mg E Φ Γ c))(h2:PSs X st (tSs X.K X.mg E Φ Γ cs)):PSs X (s::st) (tSs X.K X.mg E Φ Γ (c::cs)):=
 a9N' (a3e' h1 h2) λD σ H zz=>ex43 zz λF μ ρ S sk en w=>by simp only[denSs]at w;exact⟨F,μ,ρ,S,sk,en,WantS.seq w λμ' H' σ' ρ' S' x k en' w'=>⟨F,μ',ρ',S',k,en',w'⟩⟩
theorem a9O'{mg:GS}{D:Ends}{r:Res Fl}{f:Rho→Store→Res Fl}{Nx:L2.St→Hp→Prop}(w:WantS K mg E D μ H (r.bind λfl S'=>match fl with
   | .next ρ'=>f ρ' S'
   | .cont ρ'=>f ρ' S'
   | .brk ρ'=>.ok (.next ρ') S'
   | .ret d=>.ok (.ret d) S')) (hN:∀μ' H' σ' ρ' S',Ext μ H μ' H'→SOk K mg μ' S' H'→EnvR K mg μ' H' ρ' σ'→WantS K mg E D μ' H' (f ρ' S')→Nx σ' H'):WantS K mg E {D with nx:=Nx,ct:=Nx,bk:=D.nx} μ H r:=by
 cases r with
 |ok fl S=>
  cases fl with
  |next ρ=>exact λm h s x k en=>hN m h s ρ S x k en (WantS.ext x (show WantS K mg E D μ H (f ρ S)from w))
  |ret d=>exact w
  |brk ρ=>exact w
  |cont ρ=>exact λm h s x k en=>hN m h s ρ S x k en (WantS.ext x (show WantS K mg E D μ H (f ρ S)from w))
 |err z S=>exact w
 |fail=>exact w
end
theorem a3s'(step:D→Rho→Store→Res Fl)(xs:List D):∀(n i:Nat) (ρ:Rho) (S:Store),i+n=xs.length→forB step (λ_ i=>some xs[i]?) (n+1) i ρ S=forD step (xs.drop i) ρ S
 |0,i,ρ,S,h=>by rw[List.drop_eq_nil_of_le (by omega)];unfold forB;have:xs[i]?=none:=List.getElem?_eq_none_iff.mpr (by omega);rw[this];rfl
 |n+1,i,ρ,S,h=>by
  have hi:i<xs.length:=by omega
  rw[List.drop_eq_getElem_cons hi];unfold forB;rw[Zm hi];show(step xs[i] ρ S).bind _=(step xs[i] ρ S).bind _;congr 1;funext fl S';cases fl with
  |next ρ'=>exact a3s' step xs n (i+1) ρ' S' (by omega)
  |cont ρ'=>exact a3s' step xs n (i+1) ρ' S' (by omega)
  |brk ρ'=>rfl
  |ret d=>rfl
theorem forI_eq(step:D→Rho→Store→Res Fl)(its:Its)(ρ:Rho)(S:Store):forI step its ρ S=forB step (getOf its) (a5t' its) 0 ρ S:=by
 cases its with
 |items xs=>exact(a3s' step xs xs.length 0 ρ S (by omega)).symm
 |live f get=>rfl
noncomputable def stepF(Φ:FT)(Γ:Str→Option D)(t:CT)(body:List CS):D→Rho→Store→Res Fl:=λx ρ S=>match asgCT t x ρ with
 |some ρ'=>denSs Φ Γ body ρ' S
 |none=>.fail
section
variable {E:XK}{pos:Pos}
theorem s_for{t:CT}{it:CE}{i:Expr}{x:List Stmt}(hp:PassesOwn (model X.prog X.w) X.A X.env X.xe)(hc:X.calm=true)(hi:PI X tg i (tI X.K X.mg E Φ Γ it))(hg:PG X tg (gCT X.K t))(hs:∀x,foldedSetIterable i X.env x=pure x)(hb:PSs X x (tSs X.K X.mg E Φ Γ body)):
  PS X (.For tg i x [] pos) (tS X.K X.mg E Φ Γ (.for_ t it body)):=
 weakS (ps_for hp hc hi hg hb hs) λD σ H zz=>ex43 zz λF μ ρ S sk en w=>by
  simp only[denS]at w;refine⟨F,μ,ρ,S,sk,en,WantG.mono (Rel:=λμ' H' its J=>ItOk X.K ⟨X.mg,F⟩ J (getOf its) μ' H') (WantS.bind w) λJ H1 h=>?_⟩;obtain⟨μ1,S1,its,x1,s1,ok,w1⟩:=h;have w2:WantS X.K ⟨X.mg,F⟩ E D μ1 H1 (forI (stepF Φ Γ t body) its ρ S1):=w1;rw[forI_eq]at w2;refine⟨λi m σ H=>∃μ ρ S,Chg X.K F μ1 H1 F μ H∧SOk X.K ⟨X.mg,F⟩ μ S H∧EnvR X.K ⟨X.mg,F⟩ μ H ρ σ∧WantS X.K ⟨X.mg,F⟩ E D μ H (forB (stepF Φ Γ t body) (getOf its) m i ρ S),⟨a5t' its,μ1,ρ,S1,.refl,s1,en.mono x1,w2⟩,?_⟩;rintro i m σ H ⟨μ,ρ,S,ch,sk,en,w⟩;cases m with
  |zero=>exact w.elim
  |succ m=>
   unfold forB at w;obtain⟨k1,k2⟩:=ok i μ S H F ch sk;cases e:getOf its S i with
   |none=>rw[e]at w;exact w.elim
   |some o=>
    cases o with
    |none=>rw[e]at w;exact .inl ⟨k2 e,w μ H σ .refl sk en⟩
    |some y=>
     rw[e]at w;obtain⟨go,yld⟩:=k1 y e;refine .inr ⟨go,λσ' H'=>∃μ ρ S,Chg X.K F μ1 H1 F μ H'∧SOk X.K ⟨X.mg,F⟩ μ S H'∧EnvR X.K ⟨X.mg,F⟩ μ H' ρ σ'∧WantS X.K ⟨X.mg,F⟩ E D μ H' (forB (stepF Φ Γ t body) (getOf its) m (i+1) ρ S),λσ' H' q=>⟨m,Nat.lt_succ_self m,q⟩,λv H' hv=>?_⟩;obtain⟨x2,s2,r2⟩:=yld v H' hv;have ch2:Chg X.K F μ1 H1 F μ H':=ch.trans (.of_ext x2 λ_ z=>.inl z);have w':=WantS.ext x2 w
     have w3:WantS X.K ⟨X.mg,F⟩ E D μ H' ((stepF Φ Γ t body y ρ S).bind λfl S'=>match fl with
      | .next ρ'=>forB (stepF Φ Γ t body) (getOf its) m (i+1) ρ' S'
      | .cont ρ'=>forB (stepF Φ Γ t body) (getOf its) m (i+1) ρ' S'
      | .brk ρ'=>.ok (.next ρ') S'
      | .ret d=>.ok (.ret d) S'):=w'
     have w4:=a9O' (f:=λρ' S'=>forB (stepF Φ Γ t body) (getOf its) m (i+1) ρ' S') (Nx:=λσ' H'=>∃μ ρ S,Chg X.K F μ1 H1 F μ H'∧SOk X.K ⟨X.mg,F⟩ μ S H'∧EnvR X.K ⟨X.mg,F⟩ μ H' ρ σ'∧WantS X.K ⟨X.mg,F⟩ E D μ H' (forB (stepF Φ Γ t body) (getOf its) m (i+1) ρ S)) w3
      λμ' H'' σ' ρ' S' x3 k en' w''=>⟨μ',ρ',S',ch2.trans (.of_ext x3 λ_ z=>.inl z),k,en',w''⟩
     unfold stepF at w4;cases ea:asgCT t y ρ with
     |none=>simp only[ea]at w4;exact w4.elim
     |some ρ'=>simp only[ea]at w4;exact g_do ea r2 (en.mono x2) λσ2 en2=>⟨F,μ,ρ',S,s2,en2,w4⟩
end
section
variable {E:XK}
theorem s_raise(O:YOk X N sc CX E Φ Γ k){x:Str}{es:List CE}(h:sdS (.raise_ x es) N sc st=true)(hx:XC X.prog X.w X.K X.mg (.cls x))(ha:PA X (emL es N (vw (vs st).e0).es) (tL X.K X.mg E Φ Γ es)):PS X (emS (.raise_ x es) N st) (tS X.K X.mg E Φ Γ (.raise_ x es)):=by
 obtain⟨h1,h⟩:=andB h;obtain⟨_,h⟩:=andB h;obtain⟨h2,h3⟩:=andB h;obtain⟨C,hm,hq⟩:=hx;obtain⟨g1,g2,_⟩:=a0K' h1;intro pq s σ H D I zz;have own:=own_in I.mod.kin hm hq;cases es with
 |nil=>cases h2
 |cons e es=>
  have hst:∀z∈emL (e::es) N (vw (vs st).e0).es,a0H' z=true:=Zz.mp h3;obtain⟨tl,N0,nm,q,bs,hdct,sn,sub,ab,col,dd,k0,k1,k2,k3,k5,mN,hC,hN,hni,T⟩:=own.obj;show wpAny _ _ (exec (.Raise (some (.Call (.Name x _) (emE e N _::emL es N _) [] _)) none _) X.env) _ _ s
  refine wpAny_Raise_call_subU (C:=C) (nm:=nm) (q:=q) (N:=N0) (bs:=bs) (bm:=tl) (hdct:=hdct) (sn:=sn) (sub:=sub) (ab:=ab) (col:=col) (dd:=dd) (k0:=k0) (k1:=k1) (k2:=k2) (k3:=k3) (k5:=k5)
   PySem.F.excBase_ValueError (bmB:=bmVE) (by decide+kernel) PySem.F.excBase_ValueError (mN:=mN) (T.hasType (by decide+kernel)) (I.ok.hd O.x.calm) (a1Y' hst) hni (a7l' I (O.x.gl g1) own.bound ⟨rfl,?_⟩ g2)
  obtain⟨F,μ,ρ,S,sk,en,w⟩:=zz;have h':=ha (vw (vs st).e0).pos pq s σ H (λws H1=>ws.length≤sizeLine∧E (.ref C) none H1) I ⟨F,μ,ρ,S,sk,en,?_⟩
  ·have he:=a0s' (env:=X.env) (es:=emL es N (vw (vs st).e0).es.tail) (hst _ Zd);have h'':wpAny _ _ (spliced (backTo _ (starEach (emE e N ((vw (vs st).e0).es.headD dE)::emL es N (vw (vs st).e0).es.tail) X.env))) _ _ s:=h';rw[he]at h''⊢;refine Calls.evalArgs_plain (wpAny_mono h'' (λus s₂ h₂=>?_) λ_ _ y=>y);obtain⟨ws,H1,I1,r,z,q⟩:=h₂;exact⟨rfl,by rw[←r.length];exact z,(I1.bs _ _ hC).1,hN.keeps I1.bk,T.keeps I1.bk,λh' e m=>O.made pq σ H1 _ h' e C _ I1 m q⟩
  ·have w':WantS X.K ⟨X.mg,F⟩ E D μ H ((denL Φ Γ (e::es) ρ S).bind λds S1=>if ds.length≤1000 then .err ⟨x,[]⟩ S1 else .fail):=w;cases ed:denL Φ Γ (e::es) ρ S with
   |ok ds S1=>
    rw[ed]at w';intro μ' H' ws x1 s1 r1;have w2:WantS X.K ⟨X.mg,F⟩ E D μ H (if ds.length≤1000 then .err ⟨x,[]⟩ S1 else .fail):=w';split at w2
    ·rename_i hl;exact⟨by rw[←r1.length];exact ZS hl (by decide),w2 μ' H' x1 s1 (.ref C) none ⟨hm,rfl⟩⟩
    ·exact w2.elim
   |err y S1=>rw[ed]at w';exact w'
   |fail=>rw[ed]at w';exact w'
end
mutual
theorem soundS(c:CS):∀{X:Cx} {N:Ls} {sc:Sc} {CX:CXT} {E:XK} {Φ:FT} {Γ:Str→Option D} {k:Nat} {st:Stmt},YOk X N sc CX E Φ Γ k→sdS c N sc st=true→(∀z∈rzS c,XC X.prog X.w X.K X.mg z)→preN c=0→PS X (emS c N st) (tS X.K X.mg E Φ Γ c):=by
 intro X N sc CX E Φ Γ k st O h hx h0;cases c with
 |asg i e=>exact s_asg O.x h
 |asgT t e=>exact s_asgT O.x (a3q' (andB h).1) ((andB (andB h).2).1) (andB (andB (andB h).2).2).1 (andB (andB (andB (andB h).2).2).2).1 (a0q' e O.x (andB (andB (andB (andB h).2).2).2).2)
 |par=>cases h
 |aug=>cases h
 |set=>cases h
 |set2=>cases h
 |expr e=>exact s_expr (andB h).1 (a0q' e O.x (andB h).2)
 |ret e=>exact s_ret (a0q' e O.x h)
 |retN=>exact s_retN
 |pass=>exact s_pass
 |brk=>exact s_brk
 |cont=>exact s_cont
 |ite c a b=>exact s_if (a2s' c O.x (andB h).1) (a4V' a O (andB (andB h).2).1 λz hz=>hx z (List.mem_append_left _ hz)) (a4V' b O (andB (andB h).2).2 λz hz=>hx z (Zx _ hz))
 |for_ t it body=>exact s_for O.own O.x.calm (a6S' it O.x (andB (andB h).2).1 a3q') (g_pg O.x (andB h).1) (a0S' (andB (andB (andB h).2).2).1) (a4V' body O (andB (andB (andB h).2).2).2 hx)
 |while_=>cases h
 |never=>exact λpq s σ H D I zz=>ex43 zz λF μ ρ S sk en w=>w.elim
 |dloop i t it ps=>cases h0
 |raise_ x es=>exact s_raise O h (hx _ Zd) (a3r' es O.x (andB (andB h).2).1)
 |tryK i body f ys ws=>cases h
theorem a4V'(cs:List CS):∀{X:Cx} {N:Ls} {sc:Sc} {CX:CXT} {E:XK} {Φ:FT} {Γ:Str→Option D} {k:Nat} {st:List Stmt},YOk X N sc CX E Φ Γ k→sdSs cs N sc st=true→(∀z∈rzSs cs,XC X.prog X.w X.K X.mg z)→PSs X (emSs cs N st) (tSs X.K X.mg E Φ Γ cs):=by
 intro X N sc CX E Φ Γ k st O h hx;cases cs with
 |nil=>exact s_nilS
 |cons c cs=>
  have h2:=a4V' cs O (andB h).2 λz hz=>hx z (Zx _ hz);by_cases hp:preN c=0
  ·have h1:=soundS c O (andB h).1 (λz hz=>hx z (List.mem_append_left _ hz)) hp;have e:emSs (c::cs) N st=emS c N ((st.drop (preN c)).headD dS)::emSs cs N (st.drop (preN c)).tail:=by rw[emSs,pre_nil hp];rfl
   rw[e];exact s_consS h1 h2
  ·have h1:=(andB h).1;clear h;cases c<;>first|exact absurd rfl hp|skip
   obtain⟨k1,h⟩:=andB h1;obtain⟨k2,h⟩:=andB h;obtain⟨k3,h⟩:=andB h;obtain⟨k4,h⟩:=andB h;obtain⟨k5,h⟩:=andB h;obtain⟨k6,h⟩:=andB h;obtain⟨k7,h⟩:=andB h;obtain⟨k8,k9⟩:=andB h;exact s_dl O.x O.own k1 (loc_ok O.x k2) k5 (a6S' _ O.x k7 a3q') (g_pg O.x k6) (a0S' k8) (p_all O.x (λc {e} h=>a0q' c O.x h) (λc {e} h=>a2s' c O.x h) k1 k3 k4 _ _ k9) h2
end
mutual
noncomputable def lowD(k:Nat):D→Bool
 | .tup xs=>lowL k xs
 | .lst xs=>lowL k xs
 | .scr xs=>lowL k xs
 | .ref n=>decide (n<k)
 |_=>true
noncomputable def lowL(k:Nat):List D→Bool
 | []=>true
 |x::xs=>lowD k x&&lowL k xs
end
noncomputable def trim(k:Nat)(d:D)(S':Store):Res D:=
 if(S'.take k).all (lowL k)=true then
  (if lowD k d=true then .ok d (S'.take k)else match d with
   | .ref n=>(match S'[n]? with
    |some xs=>if lowL k xs=true∧k≤n then .ok (.ref k) (S'.take k++[xs])else .fail
    |none=>.fail)
   |_=>.fail)
 else .fail
noncomputable def runD(Φ:FT)(Γ:Str→Option D)(body:List CS)(n np:Nat)(ds:List D)(S:Store):Res D:=
 if ds.length=np then
  (match denSs Φ Γ body (ds.map some++List.replicate (n-np) none) S with
  | .ok (.ret d) S'=>trim S.length d S'
  | .ok (.next _) S'=>trim S.length .non S'
  | .err x S'=>if(S'.take S.length).all (lowL S.length)=true then .err x (S'.take S.length)else .fail
  |_=>.fail)
 else .fail
section
variable {mg:GS}{μ'':La}
mutual
theorem Rep.low(hk:∀n,n<k→μ''[n]?=μ'[n]?)(hs:∀a∈μ'',a∈μ'):∀(d:D) (v:V),lowD k d=true→Rep K mg μ' H d v→Rep K mg μ'' H d v
 | .non,_,_,h=>h
 | .bl _,_,_,h=>h
 | .int _,_,_,h=>h
 | .str _,_,_,h=>h
 | .tup ds,v,l,h=>by unfold Rep at h⊢;unfold lowD at l;obtain⟨a,vs,e,q,r⟩:=h;exact⟨a,vs,e,q,RepL.low hk hs ds vs l r⟩
 | .lst ds,v,l,h=>by unfold Rep at h⊢;unfold lowD at l;obtain⟨a,vs,e,q,n,r⟩:=h;exact⟨a,vs,e,q,⟨λz=>n.1 (hs a z),n.2⟩,RepL.low hk hs ds vs l r⟩
 | .scr ds,v,l,h=>by unfold Rep at h⊢;unfold lowD at l;obtain⟨a,vs,e,q,r⟩:=h;exact⟨a,vs,e,q,RepL.low hk hs ds vs l r⟩
 | .ref n,v,l,h=>by unfold Rep at h⊢;unfold lowD at l;obtain⟨a,e,q⟩:=h;exact⟨a,e,by rw[hk n (by simpa using l)];exact q⟩
 | .fn y,v,_,h=>h
 | .ty y,v,_,h=>h
 | .dct,v,_,h=>h
 | .dks _,v,_,h=>h
theorem RepL.low(hk:∀n,n<k→μ''[n]?=μ'[n]?)(hs:∀a∈μ'',a∈μ'):∀(ds:List D) (vs:List V),lowL k ds=true→RepL K mg μ' H ds vs→RepL K mg μ'' H ds vs
 | [],vs,_,h=>h
 |d::ds,vs,l,h=>by unfold RepL at h⊢;unfold lowL at l;simp only[Zt]at l;obtain⟨w,ws,e,r,q⟩:=h;exact⟨w,ws,e,Rep.low hk hs d w l.1 r,RepL.low hk hs ds ws l.2 q⟩
end
theorem Ext.cut(x:Ext μ H μ' H'):Ext μ H μ H':=⟨⟨[],by simp⟩,x.keep,x.there,λ_ h=>.inl h⟩
theorem SOk.cut(x:Ext μ H μ' H')(hk:μ.length=k)(s:SOk K mg μ' S' H')(l:(S'.take k).all (lowL k)=true):SOk K mg μ (S'.take k) H':=by
 obtain⟨r,rfl⟩:=x.pre;have hl:=s.len;simp at hl;refine⟨s.live,by rw[List.length_take];omega,(List.nodup_append.mp s.nd).1,λn a ds h1 h2=>?_⟩;have hn:n<k:=by rw[←hk];exact(Zh.mp h1).1
 have h2':=h2;rw[List.getElem?_take_of_lt hn]at h2;obtain⟨vs,q,rr⟩:=s.at_ n a ds (by rw[Zp (by omega)];exact h1) h2;exact⟨vs,q,RepL.low (k:=k) (λm hm=>by rw[Zp (by omega)]) (λb hb=>List.mem_append_left _ hb) _ _ (Zz.mp l ds (Zv h2')) rr⟩
theorem b0L'{E:XK}{Q:VK}(x:Ext μ H μ' H')(hk:μ.length=k)(s:SOk K mg μ' S' H')(r:Rep K mg μ' H' d v)(w:WantG K mg E (Rep K mg) μ H Q (trim k d S')):Q v H':=by
 unfold trim at w;split at w
 ·rename_i hl;split at w
  ·rename_i hd;refine w μ H' v x.cut (SOk.cut x hk s hl) ?_;obtain⟨r',rfl⟩:=x.pre;exact Rep.low (k:=k) (λm hm=>by rw[Zp (by omega)]) (λb hb=>List.mem_append_left _ hb) _ _ hd r
  ·split at w
   ·rename_i n hnl;split at w
    ·rename_i xs hx;split at w
     ·rename_i hxl;unfold Rep at r;obtain⟨a,rfl,ha⟩:=r;obtain⟨vs,q,rr⟩:=s.at_ n a xs ha hx;have s1:=SOk.cut x hk s hl;obtain⟨r',rfl⟩:=x.pre;have hnd:=List.nodup_append.mp s.nd;have hn:μ.length≤n:=by omega
      have har:a∈r':=by rw[Zs hn]at ha;exact Zv ha
      have hna:a∉μ:=λz=>hnd.2.2 a z a har rfl
      have hfr:H a=none:=by
       rcases x.fresh a (Zx _ har)with z|z
       ·exact absurd z hna
       ·exact z
      have sub:∀b∈μ++[a],b∈μ++r':=λb hb=>by
       rcases ZX.mp hb with z|z
       ·exact List.mem_append_left _ z
       ·have:b=a:=by simpa using z
        subst this;exact Zx _ har
      have same:∀m,m<k→(μ++[a])[m]?=(μ++r')[m]? :=λm hm=>by rw[Zp (by omega),Zp (by omega)]
      have hl2:=s.len;simp at hl2;refine w (μ++[a]) H' (.ref a) ⟨⟨[a],rfl⟩,x.keep,x.there,λb hb=>?_⟩ ⟨s.live,?_,?_,λm b ds h1 h2=>?_⟩ ?_
      ·rcases ZX.mp hb with z|z
       ·exact .inl z
       ·have:b=a:=by simpa using z
        subst this;exact .inr hfr
      ·rw[ZG,ZG,List.length_take];simp;omega
      ·rw[List.nodup_append]
       exact⟨hnd.1,by simp,λb hb c hc=>by
        have:c=a:=by simpa using hc
        subst this;intro z;subst z;exact hna hb⟩
      ·by_cases hm:m<μ.length
       ·rw[Zp hm]at h1;rw[Zp (by rw[List.length_take];omega)]at h2;have h2':=h2;rw[List.getElem?_take_of_lt (by omega)]at h2;obtain⟨ws,q',rr'⟩:=s.at_ m b ds (by rw[Zp hm];exact h1) h2;exact⟨ws,q',RepL.low (k:=k) same sub _ _ (Zz.mp hl ds (Zv h2')) rr'⟩
       ·have e1:m=μ.length:=by
         have:=(Zh.mp h1).1;simp at this;omega
        subst e1;rw[Zs (Zk _)]at h1;rw[Zs (by rw[List.length_take];omega)]at h2;have e2:μ.length-(S'.take k).length=0:=by rw[List.length_take];omega
        rw[e2]at h2;simp at h1 h2;subst h1;subst h2;exact⟨vs,q,RepL.low (k:=k) same sub _ _ hxl.1 rr⟩
      ·unfold Rep;exact⟨a,rfl,by rw[←hk,Zs (Zk _)];simp⟩
     ·exact w.elim
    ·exact w.elim
   ·exact w.elim
 ·exact w.elim
end
theorem a9P'{mg:GS}{vs:List V}(r:RepL K mg μ H ds vs):EnvR K mg μ H (ds.map some++List.replicate (N.length-ds.length) none) (L2.start N vs):=by
 unfold L2.start;have hl:=r.length;refine⟨by simp[hl],λi d e=>?_⟩;by_cases hi:i<ds.length
 ·rw[Zp (by simpa using hi),ZB]at e;cases e1:ds[i]? with
  |none=>rw[e1]at e;cases e
  |some d'=>rw[e1]at e;cases e;obtain⟨v,h1,h2⟩:=r.get e1;exact⟨v,by rw[Zp (by simp;omega),ZB,h1];rfl,h2⟩
 ·rw[Zs (by simpa using hi),List.getElem?_replicate]at e;split at e<;>cases e
theorem FOk.mono{j:Nat}{f:Str}(F:FOk P w K mg base CX j f φ)(h:j≤k):FOk P w K mg base CX k f φ:=by obtain⟨fa,fd,ps,m1,m2,m3,m4,m5⟩:=F.ex;exact⟨fa,fd,ps,m1,m2,m3,m4.mono h,m5⟩
theorem fnok{x:Str}{fd:FuncData}(F:Fun K x qual st f fd)(S:FnScope N ps (a0o' st))(M:MOk P w K mg base (CX1 P w) Φ Γ k)(he:emSs body N (a0Q' st)=a0Q' st)(hc:sdSs body N (a0o' st).names (a0Q' st)=true)(hx:∀z∈rzSs body,XC P w K mg z):
  FnOk P w K mg base (CX1 P w) (k+1) f fd ps (spOf K mg ps.length (runD Φ Γ body N.length ps.length)):=by
 obtain⟨oc,od,kV,doc,pm,an,cdv,ct,osl,rfl,lk,hcd⟩:=F.ex;refine fn_of lk hcd S (λvs H Q E h=>h.1) λA outer s H vs Q E hr h=>?_
 ·obtain⟨hl,F',μ,S0,ds,sk,r,wt⟩:=h;have L:LvX (cxOf (CX1 P w) P w K mg base N qual (a0o' st) f cdv A outer s H E) E:=LvX.of;have O:YOk (cxOf (CX1 P w) P w K mg base N qual (a0o' st) f cdv A outer s H E) N (a0o' st).names (CX1 P w) E Φ Γ k:=⟨⟨rfl,S.nd,rfl,S.kind,rfl,hr,λ_ _=>rfl,M,L.pass,cx1_0⟩,L.own,rfl,⟨rfl,rfl,rfl⟩,λpq σ H1 s1 h2 e C args I m q=>L.made I m q⟩;refine⟨_,he▸a4V' body O hc hx,F',μ,ds.map some++List.replicate (N.length-ds.length) none,S0,sk,a9P' r,?_⟩;have hl2:ds.length=ps.length:=by rw[r.length];exact hl
  unfold runD at wt;rw[if_pos hl2,←hl2]at wt;have hkl:μ.length=S0.length:=sk.len;show WantS K ⟨mg,F'⟩ E _ μ H (denSs Φ Γ body (ds.map some++List.replicate (N.length-ds.length) none) S0);cases e:denSs Φ Γ body (ds.map some++List.replicate (N.length-ds.length) none) S0 with
  |ok fl S'=>
   rw[e]at wt;cases fl with
   |next ρ=>exact λμ' H' σ' x s' _=>b0L' x hkl s' a9o' wt
   |ret d=>exact λμ' H' v x s' r'=>b0L' x hkl s' r' wt
   |brk ρ=>exact wt.elim
   |cont ρ=>exact wt.elim
  |err y S'=>
   rw[e]at wt;intro μ' H' x s';by_cases hz:(S'.take S0.length).all (lowL S0.length)=true
   ·simp only[hz,if_true]at wt;exact wt μ H' x.cut (SOk.cut x hkl s' hz)
   ·simp only[hz]at wt;exact wt.elim
  |fail=>rw[e]at wt;exact wt.elim
theorem fok{x:Str}{fd:FuncData}(F:Fun K x qual st f fd)(S:FnScope N ps (a0o' st))(hm:mg x=some (.ref f))(hb:Binds K fd ps [])(M:MOk P w K mg base (CX1 P w) Φ Γ k)(he:emSs body N (a0Q' st)=a0Q' st)(hc:sdSs body N (a0o' st).names (a0Q' st)=true)(hx:∀z∈rzSs body,XC P w K mg z):
  FOk P w K mg base (CX1 P w) (k+1) x (runD Φ Γ body N.length ps.length):=by
 refine⟨f,fd,ps,hm,F.kp,hb,fnok F S M he hc hx,λds S' hne=>?_⟩;unfold runD at hne;by_cases h:ds.length=ps.length
 ·exact h
 ·rw[if_neg h]at hne;exact absurd rfl hne
theorem fok0{x:Str}{fd:FuncData}(F:Fun K x qual st f fd)(S:FnScope N ps (a0o' st))(hm:mg x=some (.ref f))(hb:Binds K fd ps []):FOk P w K mg base (CX1 P w) k x (λ_ _=>.fail):=
 ⟨f,fd,ps,hm,F.kp,hb,⟨λvs H Q E h=>h.1,λA outer s H args us vs Q E _ _ _ _ h=>by obtain⟨_,_,_,_,_,_,_,z⟩:=h;exact z.elim⟩,λ_ _ h=>absurd rfl h⟩
theorem len1{P:Lv→Prop}(h:∀a,P [a]):∀us:Lv,us.length=1→P us:=λus hl=>by obtain⟨a,rfl⟩:=List.length_eq_one_iff.mp hl;exact h a
theorem len2{P:Lv→Prop}(h:∀a b,P [a,b]):∀us:Lv,us.length=2→P us:=λus hl=>by
 cases us with
 |nil=>cases hl
 |cons a us=>exact len1 (P:=λus=>P (a::us)) (h a) us (Nat.succ.inj hl)
theorem len3{P:Lv→Prop}(h:∀a b c,P [a,b,c]):∀us:Lv,us.length=3→P us:=λus hl=>by
 cases us with
 |nil=>cases hl
 |cons a us=>exact len2 (P:=λus=>P (a::us)) (h a) us (Nat.succ.inj hl)
noncomputable def tbl(l:List (Str×(List D→Store→Res D))):FT:=λf=>l.lookup f
theorem mok(h:∀p∈l,FOk P w K mg base (CX1 P w) k p.1 p.2)(hg:∀x d,Γ x=some d→∃v u,mg x=some u∧RelV v u∧∀F μ H,Rep K ⟨mg,F⟩ μ H d v)(hb:∀x∈a1s',mg x=none):MOk P w K mg base (CX1 P w) (tbl l) Γ k:=
 ⟨λf φ e=>h (f,φ) (ZA e),hg,hb⟩
end Py
namespace K33
noncomputable def G0:Str→Option D:=λx=>[(("MOST_PLACES":Str),D.int 8)].lookup x
def a6T':Ls:=["thing"]
noncomputable def a6U':List CS:=[.ret (.band (.blt .isinst [.var 0,.ty "int"]) (.bnot (.blt .isinst [.var 0,.ty "bool"])))]
def a6V':FT:=tbl []
noncomputable def a1I':List D→Store→Res D:=runD a6V' G0 a6U' a6T'.length 1
def a1v':Ls:=["thing","low","high"]
noncomputable def a1w':List CS:=[.ret (.band (.call "is_number" [.var 0]) (.chain .LtE .LtE (.var 1) (.var 0) (.var 2)))]
def a1x':FT:=tbl [("is_number",a1I')]
theorem a0W':a1x' "is_number"=some a1I':=rfl
noncomputable def a0l':List D→Store→Res D:=runD a1x' G0 a1w' a1v'.length 3
def a4W':Ls:=["many","thing"]
noncomputable def a4X':List CS:=[.ret (.call "is_number_from" [.var 1,.lit (.int 0),.bin .Sub (.var 0) (.lit (.int 1))])]
def a4Y':FT:=tbl [("is_number_from",a0l')]
theorem a0Z':a4Y' "is_number_from"=some a0l':=rfl
noncomputable def a2d':List D→Store→Res D:=runD a4Y' G0 a4X' a4W'.length 2
def a4a':Ls:=["things"]
noncomputable def a4b':List CS:=[.ret (.blt .all [.comp false ["one","other"] [none,none] (.tup [.var 0,.var 1]) (.zip [.var 0,.sl (.var 0) [.lit (.int 1)] []]) [] (.emit (.cmp .Lt (.var 0) (.var 1)))])]
def a6W':FT:=tbl []
noncomputable def a0m':List D→Store→Res D:=runD a6W' G0 a4b' a4a'.length 1
def a3t':Ls:=["many","thing"]
noncomputable def a3u':List CS:=[.ret (.band (.blt .isinst [.var 1,.ty "tuple"]) (.blt .all [.comp false ["place","many"] [none,some 0] (.var 0) (.seq (.var 1)) [] (.emit (.call "is_place" [.var 1,.var 0]))]))]
def a3v':FT:=tbl [("is_place",a2d')]
theorem a1y':a3v' "is_place"=some a2d':=rfl
noncomputable def a0t':List D→Store→Res D:=runD a3v' G0 a3u' a3t'.length 2
def a8B':Ls:=["many","thing"]
noncomputable def a8C':List CS:=[.ret (.band (.call "are_places" [.var 0,.var 1]) (.band (.cmp .Eq (.blt .len [.var 1]) (.lit (.int 2))) (.call "is_rising" [.var 1])))]
def a5C':FT:=tbl [("are_places",a0t'),("is_rising",a0m')]
theorem a1Q':a5C' "are_places"=some a0t':=rfl
theorem a2e':a5C' "is_rising"=some a0m':=rfl
noncomputable def a4r':List D→Store→Res D:=runD a5C' G0 a8C' a8B'.length 2
def a8D':Ls:=["thing","many","ties"]
noncomputable def a8E':List CS:=[.ite (.bor (.bnot (.blt .isinst [.var 0,.ty "tuple"])) (.cmp .NotEq (.blt .len [.var 0]) (.lit (.int 2)))) [.ret (.lit (.bl false))] [],.asgT (.tup [.var 1,.var 2]) (.var 0),.ite (.bor (.bnot (.call "is_number_from" [.var 1,.lit (.int 1),.glob "MOST_PLACES"])) (.bnot (.blt .isinst [.var 2,.ty "tuple"]))) [.ret (.lit (.bl false))] [],.ret (.band (.blt .all [.comp false ["tie","many"] [none,some 1] (.var 0) (.seq (.var 2)) [] (.emit (.call "is_tie" [.var 1,.var 0]))]) (.call "is_rising" [.var 2]))]
noncomputable def a4s':FT:=tbl [("is_rising",a0m'),("is_number_from",a0l'),("is_tie",a4r')]
theorem a2f':a4s' "is_rising"=some a0m':=rfl
theorem a1f':a4s' "is_number_from"=some a0l':=rfl
theorem a1z':a4s' "is_tie"=some a4r':=rfl
noncomputable def a4t':List D→Store→Res D:=runD a4s' G0 a8E' a8D'.length 1
def a6v':Ls:=["web","thing"]
noncomputable def a6w':List CS:=[.ret (.band (.call "are_places" [.idx (.var 0) (.lit (.int 0)),.var 1]) (.call "is_rising" [.var 1]))]
def a4u':FT:=tbl [("are_places",a0t'),("is_rising",a0m')]
theorem a1M':a4u' "are_places"=some a0t':=rfl
theorem a1R':a4u' "is_rising"=some a0m':=rfl
noncomputable def a3c':List D→Store→Res D:=runD a4u' G0 a6w' a6v'.length 2
def a2H':Ls:=["thing"]
noncomputable def a2I':List CS:=[.ite (.bnot (.call "is_web" [.var 0])) [.raise_ "NoWeb" [.lit (.str "this is no web")]] []]
def a2J':FT:=tbl [("is_web",a4t')]
theorem a1N':a2J' "is_web"=some a4t':=rfl
noncomputable def a0M':List D→Store→Res D:=runD a2J' G0 a2I' a2H'.length 1
def a2g':Ls:=["web","thing"]
noncomputable def a2h':List CS:=[.ite (.bnot (.call "is_some" [.var 0,.var 1])) [.raise_ "NoPlaces" [.lit (.str "this is no rising tuple of places of the web")]] []]
def a2i':FT:=tbl [("is_some",a3c')]
theorem a1n':a2i' "is_some"=some a3c':=rfl
noncomputable def a0E':List D→Store→Res D:=runD a2i' G0 a2h' a2g'.length 2
def a1A':Ls:=["web","thing"]
noncomputable def a0u':List CS:=[.expr (.call "must_be_some" [.var 0,.var 1]),.ite (.bnot (.var 1)) [.raise_ "NoPlaces" [.lit (.str "one place at least is due")]] []]
def a0k':FT:=tbl [("must_be_some",a0E')]
theorem a0A':a0k' "must_be_some"=some a0E':=rfl
noncomputable def a0h':List D→Store→Res D:=runD a0k' G0 a0u' a1A'.length 2
def a8F':Ls:=["one","other"]
noncomputable def a8G':List CS:=[.ret (.tup [.blt .min [.var 0,.var 1],.blt .max [.var 0,.var 1]])]
def b2d':FT:=tbl []
noncomputable def a4v':List D→Store→Res D:=runD b2d' G0 a8G' a8F'.length 2
def a6X':Ls:=["web","some","kept"]
noncomputable def nnT:CE:=.bor (.cmp .Eq (.var 0) (.idx (.var 1) (.lit (.int 0)))) (.cmp .NotIn (.var 0) (.var 1))
noncomputable def nnK:CE:=.comp true ["place","some"] [none,some 1] (.var 0) (.range [.idx (.var 0) (.lit (.int 0))]) [nnT] (.emit (.var 0))
noncomputable def nnE:CE:=.meth .index (.var 1) [.ite (.cmp .In (.var 0) (.var 2)) (.idx (.var 2) (.lit (.int 0))) (.var 0)]
noncomputable def nnC:CE:=.comp false ["place","kept","some"] [none,some 2,some 1] (.var 0) (.range [.idx (.var 0) (.lit (.int 0))]) [] (.emit nnE)
noncomputable def a2t':List CS:=[.expr (.call "must_be_web" [.var 0]),.expr (.call "must_be_one_at_least" [.var 0,.var 1]),.asg 2 nnK,.ret (.blt .tuple [nnC])]
noncomputable def a0J':FT:=tbl [("must_be_web",a0M'),("must_be_one_at_least",a0h')]
theorem a1g':a0J' "must_be_web"=some a0M':=rfl
theorem a0G':a0J' "must_be_one_at_least"=some a0h':=rfl
noncomputable def a0B':List D→Store→Res D:=runD a0J' G0 a2t' a6X'.length 2
def a8H':Ls:=["names","ties"]
noncomputable def ntT:CE:=.cmp .NotEq (.idx (.var 2) (.var 0)) (.idx (.var 2) (.var 1))
noncomputable def ntE:CE:=.call "tie_of" [.idx (.var 2) (.var 0),.idx (.var 2) (.var 1)]
noncomputable def ntC:CE:=.ssc ["low","high","names"] [none,none,some 0] (.tup [.var 0,.var 1]) (.seq (.var 1)) [ntT] (.emitK ntE)
def a3w':List CS:=[.ret (.blt .tuple [ntC])]
def a0x':FT:=tbl [("tie_of",a4v')]
theorem a2u':a0x' "tie_of"=some a4v':=rfl
noncomputable def a1B':List D→Store→Res D:=runD a0x' G0 a3w' a8H'.length 2
def n_drawn:Ls:=["web","some","names"]
noncomputable def drR:CE:=.tup [.bin .Add (.blt .max [.var 2]) (.lit (.int 1)),.call "new_ties" [.var 2,.idx (.var 0) (.lit (.int 1))]]
noncomputable def a8I':List CS:=[.asg 2 (.call "new_names" [.var 0,.var 1]),.ret drR]
def a4Z':FT:=tbl [("new_names",a0B'),("new_ties",a1B')]
theorem a2v':a4Z' "new_names"=some a0B':=rfl
theorem a2U':a4Z' "new_ties"=some a1B':=rfl
noncomputable def a6x':List D→Store→Res D:=runD a4Z' G0 a8I' n_drawn.length 2
def a2K':Ls:=["_law_script","_law_k"]
noncomputable def a2L':List CS:=[.ite (.cmp .Lt (.var 1) (.blt .len [.var 0])) [.ret (.idx (.var 0) (.var 1))] [],.ret (.lit (.int 0))]
def a5a':FT:=tbl []
noncomputable def a0C':List D→Store→Res D:=runD a5a' G0 a2L' a2K'.length 2
def a8J':Ls:=["_law_cell","_law_k","_law_number"]
noncomputable def a3x':List CS:=[.asg 2 (.bin .Mod (.bin .Mult (.bin .Add (.bin .Add (.bin .Mod (.var 0) (.lit (.int 2147483647))) (.bin .Mult (.lit (.int 977)) (.var 1))) (.lit (.int 1))) (.lit (.int 48271))) (.lit (.int 2147483647))),.asg 2 (.bin .Mod (.bin .Mult (.var 2) (.var 2)) (.lit (.int 2147483629))),.asg 2 (.bin .Mod (.bin .Mult (.bin .Add (.var 2) (.bin .Mult (.lit (.int 40692)) (.bin .Add (.var 1) (.lit (.int 3))))) (.lit (.int 69621))) (.lit (.int 2147483647))),.ret (.bin .FloorDiv (.var 2) (.lit (.int 8)))]
def a5b':FT:=tbl []
noncomputable def a0N':List D→Store→Res D:=runD a5b' G0 a3x' a8J'.length 2
noncomputable def a4w':Ls:=["_law_cell","_law_top","_law_many","_law_left","_law_way","_law_ties","_law_b","_law_a","_law_chance","_law_rows"]
noncomputable def wS1:CE:=.bin .BitAnd (.bin .RShift (.bin .FloorDiv (.var 3) (.lit (.int 6))) (.bin .Add (.bin .FloorDiv (.bin .Mult (.var 6) (.bin .Sub (.var 6) (.lit (.int 1)))) (.lit (.int 2))) (.var 7))) (.lit (.int 1))
noncomputable def wW(k:Int)(b:List CS):CS:=.ite (.cmp .Eq (.var 4) (.lit (.int k))) b []
noncomputable def wSt:CE:=.call "_law_stir" [.var 0,.bin .Add (.bin .Mult (.lit (.int 8)) (.var 7)) (.var 6)]
noncomputable def wS2:CE:=.bin .FloorDiv (.bin .Mod wSt (.lit (.int 3))) (.lit (.int 2))
noncomputable def wS3:CE:=.bin .FloorDiv (.bin .Add (.bin .Mod wSt (.lit (.int 4))) (.lit (.int 2))) (.lit (.int 3))
noncomputable def wE1:CE:=.cmp .Eq (.var 6) (.bin .Add (.var 7) (.lit (.int 1)))
noncomputable def wE2:CE:=.bor (.cmp .Eq (.var 6) (.bin .Add (.var 7) (.lit (.int 1)))) (.cmp .Eq (.bin .Sub (.var 6) (.var 7)) (.bin .Sub (.var 2) (.lit (.int 1))))
noncomputable def wE5:CE:=.band (.cmp .Eq (.var 6) (.bin .Add (.var 7) (.lit (.int 1)))) (.cmp .Lt (.bin .Mod (.var 7) (.lit (.int 3))) (.lit (.int 2)))
noncomputable def wS4:CE:=.lst false [wE1,wE2,.cmp .Eq (.var 7) (.lit (.int 0)),.lit (.bl true),wE5]
noncomputable def wS5:CE:=.blt .int [.idx (.var 9) (.bin .Mod (.bin .FloorDiv (.var 3) (.lit (.int 6))) (.lit (.int 5)))]
noncomputable def wB:List CS:=[.asg 8 wS1,wW 3 [.asg 8 wS2],wW 4 [.asg 8 wS3],wW 5 [.asg 9 wS4,.asg 8 wS5],.ite (.cmp .Eq (.var 8) (.lit (.int 1))) [.expr (.meth .append (.var 5) [.tup [.var 7,.var 6]])] []]
def wA:List CS:=[.for_ (.var 7) (.range [.var 6]) wB]
noncomputable def a2j':List CS:=[.asg 2 (.bin .Add (.lit (.int 1)) (.bin .Mod (.var 0) (.var 1))),.asg 3 (.bin .FloorDiv (.var 0) (.var 1)),.asg 4 (.bin .Mod (.var 3) (.lit (.int 6))),.asg 5 (.lst true []),.for_ (.var 6) (.range [.lit (.int 1),.var 2]) wA,.ret (.tup [.var 2,.blt .tuple [.blt (.sorted false (.seq .int)) [.var 5]]])]
def a0g':FT:=tbl [("_law_stir",a0N')]
theorem a2k':a0g' "_law_stir"=some a0N':=rfl
noncomputable def a1J':List D→Store→Res D:=runD a0g' G0 a2j' a4w'.length 2
def a2l':Ls:=["_law_found","_law_due"]
noncomputable def a0T':List CS:=[.ite (.bor (.blt .isinst [.var 1,.ty "tuple"]) (.blt .isinst [.var 1,.ty "list"])) [.ite (.bor (.cmp .NotEq (.blt .isinst [.var 0,.ty "tuple"]) (.blt .isinst [.var 1,.ty "tuple"])) (.cmp .NotEq (.blt .isinst [.var 0,.ty "list"]) (.blt .isinst [.var 1,.ty "list"]))) [.ret (.lit (.bl false))] [],.ret (.band (.cmp .Eq (.blt .len [.var 0]) (.blt .len [.var 1])) (.blt .all [.comp false ["_law_one","_law_other"] [none,none] (.tup [.var 0,.var 1]) (.zip [.var 0,.var 1]) [] (.emit (.call "_law_same" [.var 0,.var 1]))]))] [],.ite (.cmp .Is (.var 1) (.lit (.non))) [.ret (.cmp .Is (.var 0) (.lit (.non)))] [],.ret (.band (.cmp .Eq (.blt .isinst [.var 0,.ty "bool"]) (.blt .isinst [.var 1,.ty "bool"])) (.band (.blt .isinst [.var 0,.ty "int"]) (.cmp .Eq (.var 0) (.var 1))))]
noncomputable def a0e':Nat→List D→Store→Res D
 |0=>λ_ _=>.fail
 |n+1=>runD (tbl [("_law_same",a0e' n)]) G0 a0T' a2l'.length 2
def a1b':List D→Store→Res D:=a0e' 6
def a8K':Ls:=["_law_many","_law_mask"]
noncomputable def so51:CE:=.comp false ["_law_place","_law_mask"] [none,some 1] (.var 0) (.range [.var 0]) [.cmp .Eq (.bin .BitAnd (.bin .RShift (.var 1) (.var 0)) (.lit (.int 1))) (.lit (.int 1))] (.emit (.var 0))
def a3y':List CS:=[.ret (.blt .tuple [so51])]
def a1c':FT:=tbl []
noncomputable def a1C':List D→Store→Res D:=runD a1c' G0 a3y' a8K'.length 2
noncomputable def a5c':Ls:=["_law_web_here","_law_some_here","_law_found","_law_place","_law_here"]
noncomputable def lnH:CE:=.ite (.cmp .In (.var 3) (.var 1)) (.idx (.var 1) (.lit (.int 0))) (.var 3)
noncomputable def lnT:CE:=.cmp .NotIn (.var 0) (.sl (.var 1) [.lit (.int 1)] [])
noncomputable def lnC:CE:=.comp false ["_law_one","_law_some_here"] [none,some 1] (.var 0) (.range [.var 4]) [lnT] (.emit (.var 0))
noncomputable def lnB:List CS:=[.asg 4 lnH,.expr (.meth .append (.var 2) [.blt .len [lnC]])]
noncomputable def a1D':List CS:=[.asg 2 (.lst true []),.for_ (.var 3) (.range [.idx (.var 0) (.lit (.int 0))]) lnB,.ret (.blt .tuple [.var 2])]
def a0f':FT:=tbl []
noncomputable def a0n':List D→Store→Res D:=runD a0f' G0 a1D' a5c'.length 2
noncomputable def a5D':Ls:=["_law_web_here","_law_some_here","_law_names","_law_ties","_law_one","_law_other"]
noncomputable def shC:CE:=.cmp .NotEq (.idx (.var 2) (.var 4)) (.idx (.var 2) (.var 5))
noncomputable def shK:CE:=.tup [.blt .min [.idx (.var 2) (.var 4),.idx (.var 2) (.var 5)],.blt .max [.idx (.var 2) (.var 4),.idx (.var 2) (.var 5)]]
noncomputable def shR:CE:=.tup [.bin .Sub (.bin .Add (.idx (.var 0) (.lit (.int 0))) (.lit (.int 1))) (.blt .len [.var 1]),.blt .tuple [.sortd (.var 3)]]
noncomputable def a1S':List CS:=[.asg 2 (.call "_law_numbers" [.var 0,.var 1]),.dloop 3 (.tup [.var 4,.var 5]) (.seq (.idx (.var 0) (.lit (.int 1)))) [(some shC,shK)],.ret shR]
def a0d':FT:=tbl [("_law_numbers",a0n')]
theorem a1d':a0d' "_law_numbers"=some a0n':=rfl
noncomputable def a1h':List D→Store→Res D:=runD a0d' G0 a1S' a5D'.length 2
def a6Y':Ls:=["_law_web_here","_law_some_here","_law_turn"]
noncomputable def r33B:List CS:=[.ite (.bnot (.call "_law_same" [.call "new_names" [.var 0,.var 1],.call "_law_numbers" [.var 0,.var 1]])) [.ret (.lit (.bl false))] [],.ite (.bnot (.call "_law_same" [.call "drawn" [.var 0,.var 1],.call "_law_shrunk" [.var 0,.var 1]])) [.ret (.lit (.bl false))] []]
noncomputable def a2w':List CS:=[.for_ (.var 2) (.range [.lit (.int 2)]) r33B,.ret (.lit (.bl true))]
noncomputable def a0i':FT:=tbl [("_law_same",a1b'),("new_names",a0B'),("_law_numbers",a0n'),("drawn",a6x'),("_law_shrunk",a1h')]
theorem a0R':a0i' "_law_same"=some a1b':=rfl
theorem a1E':a0i' "new_names"=some a0B':=rfl
theorem a1i':a0i' "_law_numbers"=some a0n':=rfl
theorem a2x':a0i' "drawn"=some a6x':=rfl
theorem a1o':a0i' "_law_shrunk"=some a1h':=rfl
noncomputable def a1K':List D→Store→Res D:=runD a0i' G0 a2w' a6Y'.length 2
noncomputable def n_law:Ls:=["_law_script","_law_cell","_law_web_here","_law_many","_law_masks","_law_mask"]
def l33a:CE:=.tup [.lit (.int 1),.tup []]
noncomputable def l33b:CE:=.tup [.lit (.int 4),.tup [.tup [.lit (.int 0),.lit (.int 1)],.tup [.lit (.int 0),.lit (.int 3)],.tup [.lit (.int 1),.lit (.int 2)],.tup [.lit (.int 2),.lit (.int 3)]]]
noncomputable def l33A:CE:=.bor (.bnot (.call "_law_right" [l33a,.tup [.lit (.int 0)]])) (.bnot (.call "_law_right" [l33b,.tup [.lit (.int 1),.lit (.int 3)]]))
noncomputable def l33C:CE:=.seq (.bin .Add (.lst false [.call "_law_cell_at" [.var 0,.lit (.int 0)]]) (.sl (.var 0) [.lit (.int 1)] [.lit (.int 5)]))
noncomputable def l33K:CE:=.bin .Add (.lit (.int 1)) (.bin .Mod (.call "_law_stir" [.var 1,.bin .Add (.lit (.int 10)) (.var 0)]) (.bin .Sub (.bin .LShift (.lit (.int 1)) (.var 2)) (.lit (.int 1))))
noncomputable def l33M:CE:=.comp false ["_law_turn","_law_cell","_law_many"] [none,some 1,some 3] (.var 0) (.range [.lit (.int 6)]) [] (.emit l33K)
noncomputable def l33I:CE:=.seq (.bin .Add (.var 4) (.lst false [.bin .Sub (.bin .LShift (.lit (.int 1)) (.var 3)) (.lit (.int 1)),.bin .LShift (.lit (.int 1)) (.bin .Sub (.var 3) (.lit (.int 1))),.lit (.int 1)]))
noncomputable def l33L:List CS:=[.ite (.bnot (.call "_law_right" [.var 2,.call "_law_some" [.var 3,.var 5]])) [.ret (.lit (.bl false))] []]
noncomputable def l33B:List CS:=[.asg 2 (.call "_law_web" [.var 1,.lit (.int 8)]),.asg 3 (.idx (.var 2) (.lit (.int 0))),.asg 4 l33M,.for_ (.var 5) l33I l33L]
noncomputable def c_law:List CS:=[.ite l33A [.ret (.lit (.bl false))] [],.for_ (.var 1) l33C l33B,.ret (.lit (.bl true))]
noncomputable def t_law:FT:=tbl [("_law_web",a1J'),("_law_right",a1K'),("_law_cell_at",a0C'),("_law_stir",a0N'),("_law_some",a1C')]
theorem a4x':t_law "_law_web"=some a1J':=rfl
theorem a0U':t_law "_law_right"=some a1K':=rfl
theorem a2y':t_law "_law_cell_at"=some a0C':=rfl
theorem a3I':t_law "_law_stir"=some a0N':=rfl
theorem a3J':t_law "_law_some"=some a1C':=rfl
noncomputable def f_law:List D→Store→Res D:=runD t_law G0 c_law n_law.length 1
end K33
namespace Py
noncomputable def cOf(K:Fg)(y:Str):Addr:=match PySem.W.nsIn K mainGlobals y with
 |some (some (.ref C))=>C
 |_=>0
noncomputable def isCls(K:Fg)(y:Str):Bool:=match PySem.W.nsIn K mainGlobals y with
 |some (some (.ref _))=>true
 |_=>false
theorem b2e'{y:Str}(h:isCls K y=true):PySem.W.nsIn K mainGlobals y=some (some (.ref (cOf K y))):=by
 unfold isCls at h;unfold cOf;split at h
 ·rename_i C e;rw[e]
 ·cases h
noncomputable def rzB(K:Fg):Rz→Bool
 | .cls x=>isCls K x&&PySem.W.excIn K (cOf K x) bmVE "ValueError.__new__"
 | .kind _ _ _=>false
theorem xc_cls(X:K.In h)(G:h.Ns mainGlobals mg){x:Str}(hz:rzB K (.cls x)=true):XC P w K mg (.cls x):=
 ⟨cOf K x,PySem.W.mg_of X G (b2e' (andB hz).1),(andB hz).2⟩
end Py
namespace K33
noncomputable def top(i:Nat):Stmt:=PySem.Challenge.pw_pairwebs_k33_places_drawn_together.main.body.getD i (.Pass ⟨0,0,0,0⟩)
def DefIn(K:Fg)(x:Str)(st:Stmt):Prop:=∃f fd,PySem.W.nsIn K mainGlobals x=some (some (.ref f))∧Fun K x x st f fd
theorem dm{x:Str}{an:Option Addr}{kV:Value}(a:PySem.W.nsIn K mainGlobals x=some (some (.ref f)))(l:K.lookup f=some ⟨oc,od,.func (PySem.W.fnOf x x (a3f' st) (a0Q' st) (a0o' st) .none kV doc pm an cdv ct),osl⟩)
  (c:PySem.W.codeIn K cdv x=true) (k:PySem.W.keepIn K (.ref f)=true):DefIn K x st:=⟨f,_,a,fun_mk l c k⟩
noncomputable def a9Q'(N P:Ls)(sc:Scope):Bool:=(sc.kind== .function)&& !sc.isCoroutine&& !sc.isGenerator&&a5r' N&&(N.take P.length==P)&&P.all (λx=>sc.names.lookup x==some .local||sc.names.lookup x==some .cell)&&sc.names.all (λy=>y.2 !=.free)
theorem a2z'{P:Ls}{sc:Scope}(h:a9Q' N P sc=true):FnScope N P sc:=by unfold a9Q' at h;simp only[Zt,beq_iff_eq,Zz,Bool.or_eq_true,bne_iff_ne,Bool.not_eq_true']at h;obtain⟨⟨⟨⟨⟨⟨h1,h2⟩,h3⟩,h4⟩,h5⟩,h6⟩,h7⟩:=h;exact⟨h1,h2,h3,a2r' h4,h5,h6,h7⟩
def RZ:List Rz:=[.cls "NoPlaces",.cls "NoWeb"]
structure En (P:Program)(w:World)(K:Fg)(mg:Mg)(h:Heap):Prop where
 X:K.In h
 G:h.Ns mainGlobals mg
 hg:∀x d,G0 x=some d→∃v u,mg x=some u∧RelV v u∧∀F μ H,Rep K ⟨mg,F⟩ μ H d v
 hb:∀x∈a1s',mg x=none
 xc:∀z∈RZ,XC P w K mg z
section
variable {j:Nat}
theorem fe{x:Str}(E:En P w K mg h)(d:DefIn K x st)
  (hb:∀(kV doc pm:Value) (an:Option Addr) (cdv ct:Value) (us:Lv),us.length=ps.length→bindArgs (PySem.W.fnOf x x (a3f' st) (a0Q' st) (a0o' st) .none kV doc pm an cdv ct) ⟨us,[]⟩=pure (ps.zip us))
  (H:∀p∈l,FOk P w K mg base (CX1 P w) k p.1 p.2) (he:emSs body N (a0Q' st)=a0Q' st) (S:(a9Q' N ps (a0o' st)&&(sdSs body N (a0o' st).names (a0Q' st)&&(rzSs body).all λz=>decide (z∈RZ)))=true):FOk P w K mg base (CX1 P w) (k+1) x (runD (tbl l) G0 body N.length ps.length):=by
 obtain⟨f,fd,a,F⟩:=d;have S:=Bool.and_eq_true_iff.mp S;have S2:=Bool.and_eq_true_iff.mp S.2;exact fok F (a2z' S.1) (PySem.W.mg_of E.X E.G a) (F.binds hb) (mok H E.hg E.hb) he S2.1 λz hz=>E.xc z (of_decide_eq_true (Zz.mp S2.2 z hz))
theorem f0{x:Str}(E:En P w K mg h)(d:DefIn K x st)(S:a9Q' N ps (a0o' st)=true)
  (hb:∀(kV doc pm:Value) (an:Option Addr) (cdv ct:Value) (us:Lv),us.length=ps.length→bindArgs (PySem.W.fnOf x x (a3f' st) (a0Q' st) (a0o' st) .none kV doc pm an cdv ct) ⟨us,[]⟩=pure (ps.zip us)):FOk P w K mg base (CX1 P w) k x (λ_ _=>.fail):=by
 obtain⟨f,fd,a,F⟩:=d;exact fok0 F (a2z' S) (PySem.W.mg_of E.X E.G a) (F.binds hb)
theorem an:∀p∈([]:List (Str×(List D→Store→Res D))),FOk P w K mg base (CX1 P w) k p.1 p.2:=λp h=>(ZO h).elim
theorem ac{x:Str}(F:FOk P w K mg base (CX1 P w) j x φ)(hj:j≤k)(r:∀p∈l,FOk P w K mg base (CX1 P w) k p.1 p.2):∀p∈(x,φ)::l,FOk P w K mg base (CX1 P w) k p.1 p.2:=λp hp=>by
 rcases Zo.mp hp with rfl|h
 ·exact F.mono hj
 ·exact r p h
end
structure Df (K:Fg):Prop where
 d_is_number:DefIn K "is_number" (top 6)
 d_is_number_from:DefIn K "is_number_from" (top 7)
 d_is_place:DefIn K "is_place" (top 8)
 d_is_rising:DefIn K "is_rising" (top 9)
 d_are_places:DefIn K "are_places" (top 10)
 d_is_tie:DefIn K "is_tie" (top 11)
 d_is_web:DefIn K "is_web" (top 12)
 d_is_some:DefIn K "is_some" (top 13)
 d_must_be_web:DefIn K "must_be_web" (top 14)
 d_must_be_some:DefIn K "must_be_some" (top 15)
 d_must_be_one_at_least:DefIn K "must_be_one_at_least" (top 16)
 d_tie_of:DefIn K "tie_of" (top 17)
 d_new_names:DefIn K "new_names" (top 19)
 d_new_ties:DefIn K "new_ties" (top 20)
 d_drawn:DefIn K "drawn" (top 21)
 d_law_cell_at:DefIn K "_law_cell_at" (top 23)
 d_law_stir:DefIn K "_law_stir" (top 24)
 d_law_web:DefIn K "_law_web" (top 25)
 d_law_same:DefIn K "_law_same" (top 26)
 d_law_some:DefIn K "_law_some" (top 27)
 d_law_numbers:DefIn K "_law_numbers" (top 28)
 d_law_shrunk:DefIn K "_law_shrunk" (top 29)
 d_law_right:DefIn K "_law_right" (top 30)
 d_law:DefIn K "law" (top 31)
section
variable (E9:En P w K mg h)(D9:Df K)
include E9 D9
theorem a5E':FOk P w K mg base (CX1 P w) 1 "is_number" a1I':=fe (ps:=["thing"]) E9 D9.d_is_number (λ_ _ _ _ _ _=>len1 λ_=>rfl) an rfl (by decide+kernel)
theorem a1m':FOk P w K mg base (CX1 P w) 2 "is_number_from" a0l':=fe (ps:=["thing","low","high"]) E9 D9.d_is_number_from (λ_ _ _ _ _ _=>len3 λ_ _ _=>rfl) (ac (a5E' E9 D9) (by decide) an) rfl (by decide+kernel)
theorem a6Z':FOk P w K mg base (CX1 P w) 3 "is_place" a2d':=fe (ps:=["many","thing"]) E9 D9.d_is_place (λ_ _ _ _ _ _=>len2 λ_ _=>rfl) (ac (a1m' E9 D9) (by decide) an) rfl (by decide+kernel)
theorem a1T':FOk P w K mg base (CX1 P w) 1 "is_rising" a0m':=fe (ps:=["things"]) E9 D9.d_is_rising (λ_ _ _ _ _ _=>len1 λ_=>rfl) an rfl (by decide+kernel)
theorem a2M':FOk P w K mg base (CX1 P w) 4 "are_places" a0t':=fe (ps:=["many","thing"]) E9 D9.d_are_places (λ_ _ _ _ _ _=>len2 λ_ _=>rfl) (ac (a6Z' E9 D9) (by decide) an) rfl (by decide+kernel)
theorem a9R':FOk P w K mg base (CX1 P w) 5 "is_tie" a4r':=fe (ps:=["many","thing"]) E9 D9.d_is_tie (λ_ _ _ _ _ _=>len2 λ_ _=>rfl) (ac (a2M' E9 D9) (by decide) (ac (a1T' E9 D9) (by decide) an)) rfl (by decide+kernel)
theorem a9S':FOk P w K mg base (CX1 P w) 6 "is_web" a4t':=fe (ps:=["thing"]) E9 D9.d_is_web (λ_ _ _ _ _ _=>len1 λ_=>rfl) (ac (a1T' E9 D9) (by decide) (ac (a1m' E9 D9) (by decide) (ac (a9R' E9 D9) (by decide) an))) rfl (by decide+kernel)
theorem a8L':FOk P w K mg base (CX1 P w) 5 "is_some" a3c':=fe (ps:=["web","thing"]) E9 D9.d_is_some (λ_ _ _ _ _ _=>len2 λ_ _=>rfl) (ac (a2M' E9 D9) (by decide) (ac (a1T' E9 D9) (by decide) an)) rfl (by decide+kernel)
theorem a4y':FOk P w K mg base (CX1 P w) 7 "must_be_web" a0M':=fe (ps:=["thing"]) E9 D9.d_must_be_web (λ_ _ _ _ _ _=>len1 λ_=>rfl) (ac (a9S' E9 D9) (by decide) an) rfl (by decide+kernel)
theorem a3K':FOk P w K mg base (CX1 P w) 6 "must_be_some" a0E':=fe (ps:=["web","thing"]) E9 D9.d_must_be_some (λ_ _ _ _ _ _=>len2 λ_ _=>rfl) (ac (a8L' E9 D9) (by decide) an) rfl (by decide+kernel)
theorem a1p':FOk P w K mg base (CX1 P w) 7 "must_be_one_at_least" a0h':=fe (ps:=["web","thing"]) E9 D9.d_must_be_one_at_least (λ_ _ _ _ _ _=>len2 λ_ _=>rfl) (ac (a3K' E9 D9) (by decide) an) rfl (by decide+kernel)
theorem a9T':FOk P w K mg base (CX1 P w) 1 "tie_of" a4v':=fe (ps:=["one","other"]) E9 D9.d_tie_of (λ_ _ _ _ _ _=>len2 λ_ _=>rfl) an rfl (by decide+kernel)
theorem a3z':FOk P w K mg base (CX1 P w) 8 "new_names" a0B':=fe (ps:=["web","some"]) E9 D9.d_new_names (λ_ _ _ _ _ _=>len2 λ_ _=>rfl) (ac (a4y' E9 D9) (by decide) (ac (a1p' E9 D9) (by decide) an)) rfl (by decide+kernel)
theorem a7a':FOk P w K mg base (CX1 P w) 2 "new_ties" a1B':=fe (ps:=["names","ties"]) E9 D9.d_new_ties (λ_ _ _ _ _ _=>len2 λ_ _=>rfl) (ac (a9T' E9 D9) (by decide) an) rfl (by decide+kernel)
theorem b2f':FOk P w K mg base (CX1 P w) 9 "drawn" a6x':=fe (ps:=["web","some"]) E9 D9.d_drawn (λ_ _ _ _ _ _=>len2 λ_ _=>rfl) (ac (a3z' E9 D9) (by decide) (ac (a7a' E9 D9) (by decide) an)) rfl (by decide+kernel)
theorem a2m':FOk P w K mg base (CX1 P w) 1 "_law_cell_at" a0C':=fe (ps:=["_law_script","_law_k"]) E9 D9.d_law_cell_at (λ_ _ _ _ _ _=>len2 λ_ _=>rfl) an rfl (by decide+kernel)
theorem a2A':FOk P w K mg base (CX1 P w) 1 "_law_stir" a0N':=fe (ps:=["_law_cell","_law_k"]) E9 D9.d_law_stir (λ_ _ _ _ _ _=>len2 λ_ _=>rfl) an rfl (by decide+kernel)
theorem a5d':FOk P w K mg base (CX1 P w) 2 "_law_web" a1J':=fe (ps:=["_law_cell","_law_top"]) E9 D9.d_law_web (λ_ _ _ _ _ _=>len2 λ_ _=>rfl) (ac (a2A' E9 D9) (by decide) an) rfl (by decide+kernel)
theorem a2N':∀n,FOk P w K mg base (CX1 P w) (0+n) "_law_same" (a0e' n)
 |0=>f0 (N:=a2l') (ps:=["_law_found","_law_due"]) E9 D9.d_law_same (by decide+kernel) (λ_ _ _ _ _ _=>len2 λ_ _=>rfl)
 |n+1=>fe (ps:=["_law_found","_law_due"]) (k:=0+n) E9 D9.d_law_same (λ_ _ _ _ _ _=>len2 λ_ _=>rfl) (ac (a2N' n) (Zk _) an) rfl (by decide+kernel)
theorem a7b':FOk P w K mg base (CX1 P w) 6 "_law_same" a1b':=a2N' E9 D9 6
theorem a4c':FOk P w K mg base (CX1 P w) 1 "_law_some" a1C':=fe (ps:=["_law_many","_law_mask"]) E9 D9.d_law_some (λ_ _ _ _ _ _=>len2 λ_ _=>rfl) an rfl (by decide+kernel)
theorem a2n':FOk P w K mg base (CX1 P w) 1 "_law_numbers" a0n':=fe (ps:=["_law_web_here","_law_some_here"]) E9 D9.d_law_numbers (λ_ _ _ _ _ _=>len2 λ_ _=>rfl) an rfl (by decide+kernel)
theorem a5e':FOk P w K mg base (CX1 P w) 2 "_law_shrunk" a1h':=fe (ps:=["_law_web_here","_law_some_here"]) E9 D9.d_law_shrunk (λ_ _ _ _ _ _=>len2 λ_ _=>rfl) (ac (a2n' E9 D9) (by decide) an) rfl (by decide+kernel)
theorem a3A':FOk P w K mg base (CX1 P w) 10 "_law_right" a1K':=fe (ps:=["_law_web_here","_law_some_here"]) E9 D9.d_law_right (λ_ _ _ _ _ _=>len2 λ_ _=>rfl) (ac (a7b' E9 D9) (by decide) (ac (a3z' E9 D9) (by decide) (ac (a2n' E9 D9) (by decide) (ac (b2f' E9 D9) (by decide) (ac (a5e' E9 D9) (by decide) an))))) rfl (by decide+kernel)
theorem ok_law:FOk P w K mg base (CX1 P w) 11 "law" f_law:=fe (ps:=["_law_script"]) E9 D9.d_law (λ_ _ _ _ _ _=>len1 λ_=>rfl) (ac (a5d' E9 D9) (by decide) (ac (a3A' E9 D9) (by decide) (ac (a2m' E9 D9) (by decide) (ac (a2A' E9 D9) (by decide) (ac (a4c' E9 D9) (by decide) an))))) rfl (by decide+kernel)
end
noncomputable def spLaw(K:Fg):Sp:=λvs H Q _=>∃(a:Addr) (ns:Li),vs=[.ref a]∧Only H∧SqL K H a (ns.map V.int)∧ns.length≤63∧∀H',Q (.bl true) H'
def Good(f:List D→Store→Res D):Prop:=∀ns:Li,ns.length≤63→∃S',f [.scr (ns.map D.int)] []=.ok (.bl true) S'
theorem a6y'{K:Fg}{mg:GS}{μ:La}{H:Hp}:∀ns:Li,RepL K mg μ H (ns.map D.int) (ns.map V.int)
 | []=>.nil
 |n::ns=>.cons a0L' (a6y' ns)
theorem sp_of{f:List D→Store→Res D}(g:Good f):∀vs H Q E,spLaw K vs H Q E→spOf K mg 1 f vs H Q E:=by
 rintro vs H Q E ⟨a,ns,rfl,ho,hs,hl,q⟩;refine⟨rfl,[],[],[],[.scr (ns.map D.int)],⟨λa h=>(by cases h),rfl,List.nodup_nil,λn a ds h=>(by cases h)⟩,.cons ?_ .nil,?_⟩
 ·unfold Rep;refine⟨a,ns.map V.int,rfl,?_,a6y' ns⟩;rcases hs with(h| ⟨o,h⟩)|h
  ·rcases ho a with z| ⟨o,xs,z⟩<;>rw[z]at h<;>cases h
  ·exact .inl ⟨o,h⟩
  ·exact .inr h
 ·obtain⟨S',e⟩:=g ns hl;rw[e];intro μ' H' b x s r;unfold Rep at r;rw[r];exact q H'
theorem all_mk{l:PySem.W.OpenLaw}(X:K.In h)(G:h.Ns mainGlobals mg)(hfa:mg "law"=some (.ref fa))(good:Good f_law)(D:Df K)(Z:∀x∈a1s',PySem.W.nsIn K mainGlobals x=some none)
  {gi0:Tok} (mp0:PySem.W.nsIn K mainGlobals "MOST_PLACES"=some (some (.int 8 gi0))) (hz:RZ.all (rzB K)=true):
  ∃fd:FuncData,(∀(s:Shared) (v:Value),BindsTo s fd ⟨[v],[]⟩ [("_law_script",v)])∧∀base:Heap,K.In base→base.Ns mainGlobals mg→FnOk l.prog w K mg base (CX1 l.prog w) 11 fa fd ["_law_script"] (spLaw K):=by
 have hg:∀x d,G0 x=some d→∃v u,mg x=some u∧RelV v u∧∀F μ H,Rep K ⟨mg,F⟩ μ H d v:=λx d e=>by
  unfold G0 at e;rw[List.lookup_cons]at e;split at e
  ·rename_i hx;cases e;have hx':x="MOST_PLACES":=by simpa using hx
   subst hx';exact⟨.int 8,_,PySem.W.mg_of X G mp0,⟨_,rfl⟩,λ_ _ _=>a0L'⟩
  cases e
 have h1:=Zz.mp hz
 have xc:∀z∈RZ,XC l.prog w K mg z:=λz hm=>by
  have hb:=h1 z hm;simp only[RZ,Zo,List.mem_nil_iff,or_false]at hm;rcases hm with rfl|rfl
  ·exact xc_cls X G hb
  ·exact xc_cls X G hb
 have E:En l.prog w K mg h:=⟨X,G,hg,λx hx=>PySem.W.mg_none_of X G (Z x hx),xc⟩;obtain⟨f,fd,a,F⟩:=D.d_law;have e:=hfa.symm.trans (PySem.W.mg_of X G a);cases e;have S:FnScope n_law ["_law_script"] (a0o' (top 31)):=a2z' (by decide+kernel);refine⟨fd,λs v=>?_,λbase _ _=>?_⟩
 ·obtain⟨oc,od,kV,doc,pm,an,cdv,ct,osl,rfl,lk,hcd⟩:=F.ex;exact .of_eq rfl
 ·exact FnOk.imp (fnok (k:=10) F S (mok (ac (a5d' E D) (by decide) (ac (a3A' E D) (by decide) (ac (a2m' E D) (by decide) (ac (a2A' E D) (by decide) (ac (a4c' E D) (by decide) an))))) hg E.hb) rfl (by decide+kernel) λz hm=>E.xc z (of_decide_eq_true (Zz.mp (by decide+kernel:((rzSs c_law).all λz=>decide (z∈RZ))=true) z hm))) (sp_of good)
end K33
namespace Py
abbrev Ti:=Int×Int
def bitI(u x:Int):Int:=u/2^x.toNat%2
theorem b2g'(u x:Nat):bitI u x=((u/2^x%2:Nat):Int):=by
 unfold bitI;rw[ZK]
 norm_cast
theorem b2h':∀m<9,∀u<2^m,1≤u→∃x,x<m∧u/2^x%2=1:=by decide+kernel
theorem a9U'{u:Int}(h0:0≤m)(h8:m≤8)(h1:1≤u)(h2:u<2^m.toNat):∃x,0≤x∧x<m∧bitI u x=1:=by obtain⟨u,rfl⟩:=Int.eq_ofNat_of_zero_le (show 0≤u by omega);obtain⟨m,rfl⟩:=Int.eq_ofNat_of_zero_le h0;rw[ZK]at h2;obtain⟨x,k1,k2⟩:=b2h' m (by omega) u (by exact_mod_cast h2) (by omega);exact⟨x,by omega,by omega,by rw[b2g',k2];rfl⟩
end Py
variable {G:List (List Py.Ti)}
namespace K33
mutual
theorem a6z'{k:Nat}:∀(d:D),lowD 0 d=true→lowD k d=true
 | .non,_=>rfl
 | .bl _,_=>rfl
 | .int _,_=>rfl
 | .str _,_=>rfl
 | .tup ds,h=>by unfold lowD at h⊢;exact a2o' ds h
 | .lst ds,h=>by unfold lowD at h⊢;exact a2o' ds h
 | .scr ds,h=>by unfold lowD at h⊢;exact a2o' ds h
 | .ref n,h=>by unfold lowD at h;simp at h
 | .fn y,_=>rfl
 | .ty y,_=>rfl
 | .dct,_=>rfl
 | .dks _,_=>rfl
theorem a2o'{k:Nat}:∀(ds:List D),lowL 0 ds=true→lowL k ds=true
 | [],_=>rfl
 |d::ds,h=>by unfold lowL at h⊢;simp only[Zt]at h⊢;exact⟨a6z' d h.1,a2o' ds h.2⟩
end
def Flat(S:Store):Prop:=∀xs∈S,lowL 0 xs=true
theorem Flat.all(h:Flat S):S.all (lowL k)=true:=Zz.mpr λxs hx=>a2o' xs (h xs hx)
theorem Flat.nil:Flat []:=λ_ h=>by cases h
theorem Flat.snoc(h:Flat S)(hx:lowL 0 xs=true):Flat (S++[xs]):=λys hy=>by
 rcases ZX.mp hy with z|z
 ·exact h ys z
 ·have:ys=xs:=by simpa using z
  subst this;exact hx
theorem a4z'(h:Flat (S'.take k))(hd:lowD 0 d=true):trim k d S'=.ok d (S'.take k):=by unfold trim;rw[if_pos h.all,if_pos (a6z' d hd)]
theorem a9V'(h:Flat S)(hd:lowD 0 d=true):trim S.length d S=.ok d S:=by rw[a4z' (by rw[List.take_length];exact h) hd,List.take_length]
theorem a8M'(hk:S.length=k)(h:Flat S)(hd:lowD 0 d=true):trim k d S=.ok d S:=by subst hk;exact a9V' h hd
theorem a5f'{step:D→List D→Store→Res (List D)}{S:Store}(g:D→Option D):∀(xs acc:List D),(∀x∈xs,∀acc,acc.length<big→step x acc S=.ok (acc++(g x).toList) S)→acc.length+xs.length≤big→compD step xs acc S=.ok (acc++xs.filterMap g) S
 | [],acc,_,_=>by simp[compD]
 |x::xs,acc,h,hl=>by
  simp only[Zy]at hl;unfold compD;rw[h x Zd acc (by omega)];unfold Res.bind;dsimp only
  rw[a5f' g xs _ (λy hy=>h y (Zb _ hy)) (by
   have:(g x).toList.length≤1:=by cases g x<;>simp
   simp only[ZG];omega)]
  cases e:g x<;>simp[e]
theorem a6A'{l:List α}{f:α→Option Bool}(h:∀x∈l,f x=some true):allO (l.map f)=some true:=by
 induction l with
 |nil=>rfl
 |cons x l ih=>simp only[ZE];unfold allO;rw[h x Zd,ih λy hy=>h y (Zb _ hy)];rfl
theorem allO_map{l:List α}{f:α→Bool}:allO (l.map λx=>some (f x))=some (l.all f):=by
 induction l with
 |nil=>rfl
 |cons x l ih=>simp only[ZE];unfold allO;rw[ih];rfl
theorem b2i'{l:List α}{f:α→Bool}:anyO (l.map λx=>some (f x))=some (l.any f):=by unfold anyO;rw[ZL];have e:(λo:Option Bool=>o.map not)∘(λx:α=>some (f x))=λx=>some (!f x):=rfl;rw[e,allO_map];simp[List.not_all_eq_any_not]
def tieD(t:Int×Int):D:=.tup [.int t.1,.int t.2]
def tiesD(ts:Lq):List D:=ts.map tieD
def webD(m:Int)(ts:Lq):D:=.tup [.int m,.tup (tiesD ts)]
theorem low_tie(t:Int×Int):lowD 0 (tieD t)=true:=rfl
theorem a5F':∀(ts:Lq),lowL 0 (tiesD ts)=true
 | []=>rfl
 |t::ts=>by show(lowD 0 (tieD t)&&lowL 0 (tiesD ts))=true;rw[low_tie,a5F' ts];rfl
theorem a5G':∀(ns:Li),lowL 0 (ns.map D.int)=true
 | []=>rfl
 |t::ts=>by show(lowD 0 (.int t)&&lowL 0 (ts.map D.int))=true;rw[a5G' ts];rfl
theorem low_web(m:Int)(ts:Lq):lowD 0 (webD m ts)=true:=by show(true&&((lowL 0 (tiesD ts))&&true))=true;rw[a5F'];rfl
def lexlt(a b:Int×Int):Prop:=a.1<b.1∨(a.1=b.1∧a.2<b.2)
instance (a b:Int×Int):Decidable (lexlt a b):=by unfold lexlt;exact inferInstance
theorem a8N'(S:Store)(n:Nat)(a b:Int):eqF S (n+1) (.int a) (.int b)=some (a==b):=rfl
theorem ltF_tie(S:Store)(n:Nat)(a b:Int×Int):ltF S (n+2) (tieD a) (tieD b)=some (decide (lexlt a b)):=by
 have e:ltF S (n+2) (tieD a) (tieD b)=(match eqF S (n+1) (.int a.1) (.int b.1)with
  |some true=>(match eqF S (n+1) (.int a.2) (.int b.2)with
   |some true=>some false
   |some false=>some (decide (a.2<b.2))
   |none=>none)
  |some false=>some (decide (a.1<b.1))
  |none=>none):=rfl
 rw[e,a8N',a8N'];obtain⟨a1,a2⟩:=a;obtain⟨b1,b2⟩:=b;unfold lexlt;dsimp only;by_cases h1:a1=b1
 ·subst h1;by_cases h2:a2=b2
  ·subst h2;simp
  ·have:(a2==b2)=false:=by simpa using h2
   simp[this]
 ·have:(a1==b1)=false:=by simpa using h1
  simp[this,h1]
structure Web (m:Int)(ts:Lq):Prop where
 lo:1≤m
 hi:m≤8
 ris:ts.Pairwise lexlt
 tie:∀t∈ts,0≤t.1∧t.1<t.2∧t.2<m
 few:ts.length≤28
theorem a0D'(hl:ds.length=np)(h:denSs Φ Γ body (ds.map some++List.replicate (n-np) none) S=.ok (.ret d) S')(hk:S'.length=S.length)(hf:Flat S')(hd:lowD 0 d=true):runD Φ Γ body n np ds S=.ok d S':=by unfold runD;rw[if_pos hl,h];exact a8M' hk hf hd
theorem run_next(hl:ds.length=np)(h:denSs Φ Γ body (ds.map some++List.replicate (n-np) none) S=.ok (.next ρ) S')(hk:S'.length=S.length)(hf:Flat S'):runD Φ Γ body n np ds S=.ok .non S':=by unfold runD;rw[if_pos hl,h];exact a8M' hk hf rfl
theorem a5g'(hS:Flat S)(i:Int):a1I' [.int i] S=.ok (.bl true) S:=a0D' rfl rfl rfl hS rfl
theorem a1e'(hS:Flat S)(i lo hi:Int):a0l' [.int i,.int lo,.int hi] S=.ok (.bl (decide (lo≤i∧i≤hi))) S:=by refine a0D' rfl ?_ rfl hS rfl;simp[a1w',a1v',denSs,denS,denT,den,denL,Res.bind,Res.noErr,onBl,a0W',a5g' hS,cmpD,leD];by_cases h:lo≤i<;>simp[h]
theorem a5H'(hS:Flat S)(m i:Int):a2d' [.int m,.int i] S=.ok (.bl (decide (0≤i∧i<m))) S:=by refine a0D' rfl ?_ rfl hS rfl;have e:(i≤m-1)=(i<m):=propext (by omega);simp[a4X',a4W',denSs,denS,denT,den,denL,Res.bind,Res.noErr,onBl,a0Z',a1e' hS,opD,subD,e]
theorem a3B'{step:D→List D→Store→Res (List D)}(h:∀x∈xs,∀acc,acc.length<big→step x acc S=.ok (acc++[.bl true]) S)(hl:xs.length≤big):compD step xs [] S=.ok (xs.map λ_=>D.bl true) S:=by rw[a5f' (λ_=>some (.bl true)) xs [] (λx hx acc ha=>h x hx acc ha) (by simpa using hl)];simp
theorem a5I':allD [.lst (xs.map λ_=>D.bl true)] S=.ok (.bl true) S:=by unfold allD;simp only[seqOf];rw[ZL,show allO (xs.map (asB∘λx=>D.bl true))=some true from a6A' λx hx=>rfl];rfl
theorem cut1(xs:List D):cutL xs (some 1) none=xs.drop 1:=by
 unfold cutL
 have e1:HT.sIx xs.length 0 (some 1)=min 1 xs.length:=by
  unfold HT.sIx;simp
  try omega
 have e2:HT.sIx xs.length xs.length none=xs.length:=rfl;rw[e1,e2];cases xs with
 |nil=>rfl
 |cons x r=>simp
theorem a2B'(hS:Flat S)(hl:xs.length≤1000)(h:∀(i:Nat) x y,xs[i]?=some x→xs[i+1]?=some y→ltF S deep x y=some true):a0m' [.tup xs] S=.ok (.bl true) S:=by
 refine a0D' rfl ?_ rfl hS rfl;have hz:zipOf S (.tup xs) (.tup (xs.drop 1))=some (.items (List.zipWith (λx y=>.tup [x,y]) xs (xs.drop 1))):=rfl;have hc:=cut1 xs;simp[a4b',a4a',denSs,denS,denT,den,denL,denI,Res.bind,Res.noErr,onBl,slD,optL,toOpt,bltD];simp only[hc,hz,compI];rw[a3B']
 ·simp only[Res.noErr];rw[a5I']
 ·intro z hz acc ha;obtain⟨i,hi⟩:=List.mem_iff_getElem?.mp hz;rw[List.getElem?_zipWith]at hi;cases e1:xs[i]? with
  |none=>rw[e1]at hi;cases hi
  |some x=>
   cases e2:(xs.drop 1)[i]? with
   |none=>rw[e1,e2]at hi;cases hi
   |some y=>rw[e1,e2]at hi;cases hi;rw[List.getElem?_drop,Nat.add_comm]at e2;have hlt:=h i x y e1 e2;simp[a0z',isNew,slots,a4k',asgCT,asgVs,denTs,denB,den,Res.bind,cmpD,hlt,boolR,Res.noErr];unfold big at ha;omega
 ·simp;unfold big;omega
theorem a1O'(hS:Flat S)(hl:ns.length≤1000)(h:∀n∈ns,0≤n∧n<m):a0t' [.int m,.tup (ns.map D.int)] S=.ok (.bl true) S:=by
 refine a0D' rfl ?_ rfl hS rfl;have hi:a1k' [.tup (ns.map D.int),.ty "tuple"] S=.ok (.bl true) S:=rfl;simp[a3u',a3t',denSs,denS,denT,den,denL,denI,Res.bind,Res.noErr,onBl,bltD,hi,a3Q'];simp only[compI];rw[a3B']
 ·simp only[Res.noErr];rw[a5I']
 ·intro z hz acc ha;obtain⟨n,hn,rfl⟩:=Zq.mp hz;have hp:=a5H' hS m n;have hd:decide (0≤n∧n<m)=true:=ZI (h n hn);rw[hd]at hp;simp[a0z',isNew,slots,a4k',asgCT,asgVs,denTs,denB,den,denL,Res.bind,a1y',hp,Res.noErr];unfold big at ha;omega
 ·simp;unfold big;omega
theorem a7c'(hS:Flat S){t:Int×Int}(h:0≤t.1∧t.1<t.2∧t.2<m):a4r' [.int m,tieD t] S=.ok (.bl true) S:=by
 refine a0D' rfl ?_ rfl hS rfl;have h1:a0t' [.int m,tieD t] S=.ok (.bl true) S:=a1O' hS (ns:=[t.1,t.2]) (by simp) (by intro n hn;simp at hn;rcases hn with rfl|rfl<;>omega)
 have h2:a0m' [tieD t] S=.ok (.bl true) S:=a2B' hS (xs:=[.int t.1,.int t.2]) (by simp) (by
  intro i x y e1 e2;have hi:i=0:=by have:=(Zh.mp e2).1;simp at this;omega
  subst hi;simp at e1 e2;subst e1;subst e2;show some (decide (t.1<t.2))=some true;simp[h.2.1])
 have h3:bltD .len [tieD t] S=.ok (.int 2) S:=rfl;have h4:cmpD .Eq (.int 2) (.int 2) S=.ok (.bl true) S:=rfl;simp[a8C',a8B',denSs,denS,denT,den,denL,Res.bind,Res.noErr,onBl,a1Q',a2e',h1,h2,h3,h4]
theorem a8O'{i:Nat}{x:D}(h:(tiesD ts)[i]?=some x):∃t,ts[i]?=some t∧x=tieD t:=by
 unfold tiesD at h;rw[ZB]at h;cases e:ts[i]? with
 |none=>rw[e]at h;cases h
 |some t=>rw[e]at h;cases h;exact⟨t,rfl,rfl⟩
theorem a7d'(hS:Flat S)(hl:ts.length≤1000)(h:ts.Pairwise lexlt):a0m' [.tup (tiesD ts)] S=.ok (.bl true) S:=
 a2B' hS (by unfold tiesD;simpa using hl) λi x y e1 e2=>by obtain⟨t,f1,rfl⟩:=a8O' e1;obtain⟨u,f2,rfl⟩:=a8O' e2;rw[show ltF S deep (tieD t) (tieD u)=some (decide (lexlt t u))from ltF_tie S 38 t u];obtain⟨g1,rfl⟩:=Zh.mp f1;obtain⟨g2,rfl⟩:=Zh.mp f2;rw[ZI (List.pairwise_iff_getElem.mp h i (i+1) g1 g2 (by omega))]
theorem a7e'(hS:Flat S)(W:Web m ts):a4t' [webD m ts] S=.ok (.bl true) S:=by
 have hf:=W.few;refine a0D' rfl ?_ rfl hS rfl;have h1:a1k' [webD m ts,.ty "tuple"] S=.ok (.bl true) S:=rfl;have h2:lenD [webD m ts] S=.ok (.int 2) S:=rfl;have h3:cmpD .NotEq (.int 2) (.int 2) S=.ok (.bl false) S:=rfl;have h4:=a1e' hS m 1 8;rw[ZI (⟨W.lo,W.hi⟩:1≤m∧m≤8)]at h4;have h5:a1k' [.tup (tiesD ts),.ty "tuple"] S=.ok (.bl true) S:=rfl;have h6:=a7d' hS (show ts.length≤1000 by omega) W.ris;have h7:G0 "MOST_PLACES"=some (.int 8):=rfl;have h8:asgCT (.tup [.var 1,.var 2]) (webD m ts) [some (webD m ts),none,none]=some [some (webD m ts),some (.int m),some (.tup (tiesD ts))]:=rfl;simp[a8E',a8D',denSs,denS,denT,den,denL,denI,Res.bind,Res.noErr,onBl,bltD,h1,h2,h3,a2f',a1f',a1z',h4,h5,truD,h6,h7,h8,a3Q'];simp only[compI];rw[a3B']
 ·simp only[Res.noErr];rw[a5I'];simp[h6]
 ·intro z hz acc ha;obtain⟨t,ht,rfl⟩:=Zq.mp hz;have hp:=a7c' hS (W.tie t ht);simp[a0z',isNew,slots,a4k',asgCT,asgVs,denTs,denB,den,denL,Res.bind,a1z',hp,Res.noErr];unfold big at ha;omega
 ·unfold tiesD big;simp;omega
theorem a3C'(hS:Flat S)(W:Web m ts):a0M' [webD m ts] S=.ok .non S:=by refine run_next (ρ:=[some (webD m ts)]) rfl ?_ rfl hS;simp[a2I',a2H',denSs,denS,denT,den,denL,Res.bind,a1N',a7e' hS W,truD]
theorem a2O'{α:Type}{f e:α→D}{p:α→Bool}{step:D→List D→Store→Res (List D)}{S:Store}:∀(xs:List α) (acc:List D),(∀x∈xs,∀acc,acc.length<big→step (f x) acc S=.ok (if p x=true then acc++[e x]else acc) S)→acc.length+xs.length≤big→compD step (xs.map f) acc S=.ok (acc++(xs.filter p).map e) S
 | [],acc,_,_=>by simp[compD]
 |x::xs,acc,h,hl=>by
  simp only[Zy]at hl;simp only[ZE];unfold compD;rw[h x Zd acc (by omega)];unfold Res.bind;dsimp only;have ih:=λa=>a2O' (f:=f) (e:=e) (p:=p) (step:=step) xs a (λy hy=>h y (Zb _ hy));by_cases hp:p x=true
  ·rw[if_pos hp,ih _ (by simp;omega)];simp[hp]
  ·rw[if_neg hp,ih _ (by omega)];simp[hp]
theorem a0V'{f e:α→D}{p:α→Bool}{step:D→List D→Store→Res (List D)}{xs:List α}(h:∀x∈xs,∀acc,acc.length<big→step (f x) acc S=.ok (if p x=true then acc++[e x]else acc) S)(hl:xs.length≤big):compD step (xs.map f) [] S=.ok ((xs.filter p).map e) S:=by rw[a2O' xs [] h (by simpa using hl)];simp
theorem a0F'{c:CS}{cs:List CS}(h:denS Φ Γ c ρ S=.ok (.next ρ') S'):denSs Φ Γ (c::cs) ρ S=denSs Φ Γ cs ρ' S':=by rw[denSs,h];rfl
theorem a3L'{c:CS}{cs:List CS}(h:denS Φ Γ c ρ S=.ok (.ret d) S'):denSs Φ Γ (c::cs) ρ S=.ok (.ret d) S':=by rw[denSs,h];rfl
theorem a7f'{t:CT}{it:CE}{its:Its}(h:denI Φ Γ it ρ S=.ok its S1):denS Φ Γ (.for_ t it body) ρ S=forI (λx ρ S=>match asgCT t x ρ with
   |some ρ'=>denSs Φ Γ body ρ' S
   |none=>.fail) its ρ S1:=by
 rw[denS,h];rfl
theorem a1j'{i:Nat}{e:CE}{cs:List CS}(h:den Φ Γ e ρ S=.ok d S'):denSs Φ Γ (.asg i e::cs) ρ S=denSs Φ Γ cs (ρ.set i (some d)) S':=
 a0F' (by rw[denS,h];rfl)
def a0c'(lo:Int):Nat→Li
 |0=>[]
 |n+1=>lo::a0c' (lo+1) n
theorem a2p'(lo:Int)(n:Nat):a2R' lo n=(a0c' lo n).map D.int:=by
 induction n generalizing lo with
 |zero=>rfl
 |succ n ih=>unfold a2R' a0c';rw[ih];rfl
theorem a0v'{lo x:Int}:x∈a0c' lo n→lo≤x∧x<lo+n:=by
 induction n generalizing lo with
 |zero=>intro h;cases h
 |succ n ih=>
  intro h;unfold a0c' at h;rcases Zo.mp h with rfl|h
  ·omega
  ·have:=ih h;omega
theorem a0b'{lo:Int}:(a0c' lo n).length=n:=by
 induction n generalizing lo with
 |zero=>rfl
 |succ n ih=>unfold a0c';simp[ih]
noncomputable def insI(x:Int×Int):Lq→Lq
 | []=>[x]
 |y::ys=>if lexlt x y then x::y::ys else y::insI x ys
def sortI(l:Lq):Lq:=l.foldl (λacc x=>insI x acc) []
theorem ltK_tie(a b:Int×Int):ltK (.seq .int) (tieD a) (tieD b)=decide (lexlt a b):=by
 have e:ltK (.seq .int) (tieD a) (tieD b)=(if decide (a.1<b.1)=true then true else if decide (b.1<a.1)=true then false else if decide (a.2<b.2)=true then true else if decide (b.2<a.2)=true then false else false):=rfl;rw[e];simp only[decide_eq_true_eq];by_cases h:lexlt a b
 ·rw[ZI h];unfold lexlt at h
  repeat' split
  all_goals first|rfl|omega
 ·rw[ZM h];unfold lexlt at h
  repeat' split
  all_goals first|rfl|omega
theorem a8P'(x:Int×Int):∀l:Lq,insB (ltK (.seq .int)) (tieD x) (tiesD l)=tiesD (insI x l)
 | []=>rfl
 |y::ys=>by
  show(if ltK (.seq .int) (tieD x) (tieD y)=true then tieD x::tieD y::tiesD ys else tieD y::insB (ltK (.seq .int)) (tieD x) (tiesD ys))=tiesD (insI x (y::ys));have e:insI x (y::ys)=if lexlt x y then x::y::ys else y::insI x ys:=rfl;rw[ltK_tie,a8P' x ys,e];by_cases h:lexlt x y
  ·rw[ZI h,if_pos rfl,if_pos h];rfl
  ·rw[ZM h,if_neg Bool.false_ne_true,if_neg h];rfl
theorem a6B':∀(l acc:Lq),(tiesD l).foldl (λacc x=>insB (ltK (.seq .int)) x acc) (tiesD acc)=tiesD (l.foldl (λacc x=>insI x acc) acc)
 | [],acc=>rfl
 |x::l,acc=>by show(tiesD l).foldl (λacc x=>insB (ltK (.seq .int)) x acc) (insB (ltK (.seq .int)) (tieD x) (tiesD acc))=_;rw[a8P',a6B' l];rfl
theorem a9W'(l:Lq):a3j' (ltK (.seq .int)) (tiesD l)=tiesD (sortI l):=a6B' l []
theorem a3d'(x:Int×Int):∀l,(insI x l).Perm (x::l)
 | []=>.refl _
 |y::ys=>by
  unfold insI;split
  ·exact .refl _
  ·exact((a3d' x ys).cons y).trans (.swap x y ys)
theorem a5h':∀(l acc:Lq),(l.foldl (λacc x=>insI x acc) acc).Perm (l++acc)
 | [],acc=>.refl _
 |x::l,acc=>by refine(a5h' l (insI x acc)).trans ?_;exact((a3d' x acc).append_left l).trans List.perm_middle
theorem a5i'(l:Lq):(sortI l).Perm l:=by have:=a5h' l [];rw[List.append_nil]at this;exact this
theorem lex_tot{x y:Int×Int}(h:¬lexlt x y)(n:x≠y):lexlt y x:=by unfold lexlt at h⊢;have:¬(x.1=y.1∧x.2=y.2):=λz=>n (Prod.ext z.1 z.2);omega
theorem a9X'{x y z:Int×Int}(a:lexlt x y)(b:lexlt y z):lexlt x z:=by unfold lexlt at*;omega
theorem a4d'(x:Int×Int):∀l,l.Pairwise lexlt→x∉l→(insI x l).Pairwise lexlt
 | [],_,_=>List.pairwise_singleton _ _
 |y::ys,h,n=>by
  obtain⟨h1,h2⟩:=ZW.mp h;unfold insI;by_cases e:lexlt x y
  ·rw[if_pos e];refine ZW.mpr ⟨λz hz=>?_,h⟩;rcases Zo.mp hz with rfl|hz
   ·exact e
   ·exact a9X' e (h1 z hz)
  ·rw[if_neg e];refine ZW.mpr ⟨λz hz=>?_,a4d' x ys h2 λz=>n (Zb _ z)⟩;rcases Zo.mp ((a3d' x ys).mem_iff.mp hz)with rfl|hz
   ·exact lex_tot e λz=>n (by subst z;exact Zd)
   ·exact h1 z hz
theorem a3D':∀(l acc:Lq),acc.Pairwise lexlt→(l++acc).Nodup→(l.foldl (λacc x=>insI x acc) acc).Pairwise lexlt
 | [],acc,h,_=>h
 |x::l,acc,h,n=>by have n':(x::(l++acc)).Nodup:=n;obtain⟨n1,n2⟩:=List.nodup_cons.mp n';refine a3D' l (insI x acc) (a4d' x acc h λz=>n1 (Zx _ z)) ?_;exact(((a3d' x acc).append_left l).trans List.perm_middle).nodup_iff.mpr n'
theorem a5J'{l:Lq}(h:l.Nodup):(sortI l).Pairwise lexlt:=a3D' l [] .nil (by simpa using h)
theorem a5K'{l:Lq}(hd:seqOf S d=some (tiesD l))(hl:l.length<64):a4J' false (.seq .int) [d] S=.ok (.lst (tiesD (sortI l))) S:=by
 have e1:(tiesD l).all (hasTy (.seq .int))=true:=by rw[Zz];intro x hx;obtain⟨t,_,rfl⟩:=Zq.mp hx;rfl
 have e2:a1r' (.seq .int) (tiesD l)=true:=by
  have:((tiesD l).all λd=> !isNil d)=true:=by rw[Zz];intro x hx;obtain⟨t,_,rfl⟩:=Zq.mp hx;rfl
  show(true&&((tiesD l).all λd=> !isNil d))=true;rw[this];rfl
 have e3:(tiesD l).length<64:=by unfold tiesD;rw[Zj];omega
 unfold a4J';simp only[hd];rw[if_pos ⟨e1,e3,e2⟩,a9W'];rfl
theorem b2j'{l:Lq}(h1:1≤m)(h2:m≤8)(hn:l.Nodup)(hv:∀t∈l,0≤t.1∧t.1<t.2∧t.2<m)(hl:l.length≤28):Web m (sortI l):=
 ⟨h1,h2,a5J' hn,λt ht=>hv t ((a5i' l).mem_iff.mp ht),by rw[(a5i' l).length_eq];exact hl⟩
theorem eight(h1:1≤m)(h2:m≤8):m=1∨m=2∨m=3∨m=4∨m=5∨m=6∨m=7∨m=8:=by omega
theorem a3E'{lo:Int}:(a0c' lo n).Nodup:=by
 induction n generalizing lo with
 |zero=>exact List.nodup_nil
 |succ n ih=>unfold a0c';refine List.nodup_cons.mpr ⟨λh=>?_,ih⟩;have:=a0v' h;omega
theorem a5L'{c:CE}{a b:List CS}{k:Bool}(h:denT Φ Γ c ρ S=.ok k S1):denS Φ Γ (.ite c a b) ρ S=if k=true then denSs Φ Γ a ρ S1 else denSs Φ Γ b ρ S1:=by rw[denS,h];rfl
theorem a4A'{tg:CT}{it:CE}{ifs:List CE}{body:CE}{its:Its}(hI:denI Φ Γ it ρ S=.ok its S1)
  (hc:compI (λx acc S2=>match a0z' tg x (fr.map λj=>j.bind λj=>(ρ[j]?).join)with
    |some ρ'=>(denTs Φ Γ ifs ρ' S2).bind λk S3=>if k=true then denB Φ Γ body ρ' acc S3 else .ok acc S3
    |none=>.fail) its [] S1=.ok ys S5):den Φ Γ (.comp false N fr tg it ifs body) ρ S=.ok (.lst ys) S5:=by
 rw[den,hI];exact Eq.trans (congrArg (λr=>Res.bind (Res.noErr r) (λys S5=>if false=true then Res.ok (D.ref S5.length) (S5++[ys])else Res.ok (.lst ys) S5)) hc) rfl
section
variable {S2 S3:Store}{d2 r x y:D}{e a b:CE}
theorem a9Y'{f:Str}(hf:Φ f=some φ)(h1:den Φ Γ a ρ S=.ok x S1)(h2:den Φ Γ b ρ S1=.ok y S2)(h:φ [x,y] S2=.ok r S3):den Φ Γ (.call f [a,b]) ρ S=.ok r S3:=by simp[den,denL,hf,h1,h2,h,Res.bind]
end
section
variable {A B:List D}
end
end K33
namespace Pc
def nm(ns:Li)(p:Int):Int:=ns.getD p.toNat 0
open K33
section
variable {m:Nat}
end
end Pc
namespace K33
theorem a9Z'(hS:Flat S)(a b:Int):a4v' [.int a,.int b] S=.ok (tieD (min a b,max a b)) S:=by
 refine a0D' rfl ?_ rfl hS rfl;have h1:a4i' [.int a,.int b] S=.ok (.int (min a b)) S:=by simp[a4i',minD];split<;>omega
 have h2:a3i' [.int a,.int b] S=.ok (.int (max a b)) S:=by simp[a3i',maxD];split<;>omega
 simp[a8G',a8F',denSs,denS,den,denL,Res.bind,Res.noErr,bltD,h1,h2,tieD]
theorem a5M'(hS:Flat S)(hl:so.length≤100)(h1:∀p∈so,0≤p∧p<m)(h2:so.Pairwise (· < ·)):a3c' [webD m ts,.tup (so.map D.int)] S=.ok (.bl true) S:=by
 refine a0D' rfl ?_ rfl hS rfl;have hi:idxD (webD m ts) (.int 0) S=.ok (.int m) S:=rfl;have a1:a0t' [.int m,.tup (so.map D.int)] S=.ok (.bl true) S:=K33.a1O' hS (by omega) h1
 have a2:a0m' [.tup (so.map D.int)] S=.ok (.bl true) S:=K33.a2B' hS (by simp;omega) λi x y e1 e2=>by
  rw[ZB]at e1 e2;cases f1:so[i]? with
  |none=>rw[f1]at e1;cases e1
  |some a=>
   cases f2:so[i+1]? with
   |none=>rw[f2]at e2;cases e2
   |some b=>rw[f1]at e1;rw[f2]at e2;cases e1;cases e2;obtain⟨g1,rfl⟩:=Zh.mp f1;obtain⟨g2,rfl⟩:=Zh.mp f2;show some (decide (so[i]<so[i+1]))=some true;rw[ZI (List.pairwise_iff_getElem.mp h2 i (i+1) g1 g2 (by omega))]
 simp[a6w',a6v',denSs,denS,den,denL,Res.bind,Res.noErr,onBl,a1M',a1R',hi,a1,a2]
theorem a2V'(hS:Flat S)(hl:so.length≤100)(h1:∀p∈so,0≤p∧p<m)(h2:so.Pairwise (· < ·)):a0E' [webD m ts,.tup (so.map D.int)] S=.ok .non S:=by refine run_next (ρ:=[some (webD m ts),some (.tup (so.map D.int))]) rfl ?_ rfl hS;simp[a2h',a2g',denSs,denS,denT,den,denL,Res.bind,a1n',a5M' hS hl h1 h2,truD]
theorem in_ints{l:Li}(hd:seqOf S d=some (l.map D.int))(q:Int):inD (.int q) d S=some (decide (q∈l)):=by
 unfold inD;simp only[hd];rw[ZL];have e2:((λy=>eqF S deep y (.int q))∘D.int)=λu=>some (u==q):=by funext u;exact K33.a8N' S 39 u q
 rw[e2,K33.b2i'];congr 1;clear e2 hd
 induction l with
 |nil=>rfl
 |cons u us ih=>
  rw[List.any_cons,ih];by_cases h:u=q
  ·subst h;simp
  ·have h':¬q=u:=λz=>h z.symm;have:(u==q)=false:=by simpa using h
   rw[this];by_cases h2:q∈us<;>simp[h',h2]
open Pc
theorem boxE{A:List D}:(S++[A])[S.length]?=some A:=by rw[Zs (Zk _)];simp
theorem setE{A B:List D}:(S++[A]).set S.length B=S++[B]:=by rw[List.set_append_right _ _ (Zk _)];simp
theorem a6C'(hd:seqOf S d=some (ns.map D.int)){p:Int}(h0:0≤p)(h1:p<ns.length):idxD d (.int p) S=.ok (.int (nm ns p)) S:=by
 unfold idxD;have e:atI (ns.map D.int) p=some (.int (nm ns p)):=by unfold atI ixN nm;rw[Zj,if_pos h0,if_pos h1];simp only[Option.bind_some];rw[ZB,List.getD_eq_getElem?_getD,Zm (show p.toNat<ns.length by omega)];rfl
 simp only[hd,e]
theorem a5N'{step:D→Rho→Store→Res Fl}(J:Rho→Store→Prop):∀(xs:List D),(∀x∈xs,∀ρ S,J ρ S→∃ρ' S',J ρ' S'∧step x ρ S=.ok (.next ρ') S')→∀ρ S,J ρ S→∃ρ' S',J ρ' S'∧forD step xs ρ S=.ok (.next ρ') S'
 | [],_,ρ,S,j=>⟨ρ,S,j,rfl⟩
 |x::xs,h,ρ,S,j=>by obtain⟨ρ1,S1,j1,e1⟩:=h x Zd ρ S j;obtain⟨ρ2,S2,j2,e2⟩:=a5N' J xs (λy hy=>h y (Zb _ hy)) ρ1 S1 j1;refine⟨ρ2,S2,j2,?_⟩;unfold forD;rw[e1];exact e2
theorem a8Q'{A:List D}(hA:A.length<big):a3O' (.ref T.length) [d] (T++[A])=.ok .non (T++[A++[d]]):=by unfold a3O';simp only[boxE];rw[if_pos hA,setE]
end K33
namespace K33
theorem a8R':∀{l:List D},lowL 0 l=true↔∀x∈l,lowD 0 x=true
 | []=>by simp[lowL]
 |x::l=>by unfold lowL;rw[Zt,a8R' (l:=l)];simp
section
variable {T A:List (List D)}{a u b:Int}{ts c:List Ti}
end
theorem a3F'{x:Int}:∀{n:Nat} {lo:Int},lo≤x→x<lo+n→x∈a0c' lo n
 |0,lo,h1,h2=>by omega
 |n+1,lo,h1,h2=>by
  unfold a0c';by_cases e:x=lo
  ·rw[e];exact Zd
  ·exact Zb _ (a3F' (by omega) (by omega))
theorem b2k'{x:Int}(h5:0≤x)(h6:x≤8):opD .LShift (.int 1) (.int x) S=.ok (.int (2^x.toNat)) S:=by show(if(1:Int)=1∧0≤x∧x<1000 then Res.ok (D.int (2^x.toNat)) S else .fail)=_;rw[if_pos ⟨rfl,h5,by omega⟩]
section
variable {u a r:Int}{ts:List Ti}{ks:List Nat}
end
section
variable {u:Int}{ts:List Ti}{ks:List Nat}
end
section
variable {A B C:List D}{P:List (List Ti)}
end
abbrev tS(n:Nat):FT:=tbl [("_law_same",a0e' n)]
theorem uS(n:Nat):tS n "_law_same"=some (a0e' n):=rfl
theorem a8S'(hS:Flat S)(n:Nat)(i:Int):a0e' (n+1) [.int i,.int i] S=.ok (.bl true) S:=by
 refine a0D' rfl ?_ rfl hS rfl;show denSs (tS n) G0 a0T' [some (.int i),some (.int i)] S=_;have h1:a1k' [.int i,.ty "tuple"] S=.ok (.bl false) S:=rfl;have h2:a1k' [.int i,.ty "list"] S=.ok (.bl false) S:=rfl;have h3:a1k' [.int i,.ty "bool"] S=.ok (.bl false) S:=rfl;have h4:a1k' [.int i,.ty "int"] S=.ok (.bl true) S:=rfl;have h5:cmpD .Is (.int i) .non S=.ok (.bl false) S:=rfl
 have h6:cmpD .Eq (.int i) (.int i) S=.ok (.bl true) S:=by have:cmpD .Eq (.int i) (.int i) S=.ok (.bl (i==i)) S:=rfl;rw[this];simp
 have h7:cmpD .Eq (.bl false) (.bl false) S=.ok (.bl true) S:=rfl;simp[a0T',denSs,denS,denT,den,denL,Res.bind,Res.noErr,onBl,bltD,truD,h1,h2,h3,h4,h5,h6,h7]
noncomputable def smC:CE:=.comp false ["_law_one","_law_other"] [none,none] (.tup [.var 0,.var 1]) (.zip [.var 0,.var 1]) [] (.emit (.call "_law_same" [.var 0,.var 1]))
theorem a5O'(hS:Flat S)(hl:xs.length≤1000)(hx:∀z∈xs,a0e' n [z,z] S=.ok (.bl true) S):a0e' (n+1) [.tup xs,.tup xs] S=.ok (.bl true) S:=by
 refine a0D' rfl ?_ rfl hS rfl;show denSs (tS n) G0 a0T' [some (.tup xs),some (.tup xs)] S=_;have h1:a1k' [.tup xs,.ty "tuple"] S=.ok (.bl true) S:=rfl;have h2:a1k' [.tup xs,.ty "list"] S=.ok (.bl false) S:=rfl;have h3:cmpD .NotEq (.bl true) (.bl true) S=.ok (.bl false) S:=rfl;have h4:cmpD .NotEq (.bl false) (.bl false) S=.ok (.bl false) S:=rfl;have h5:lenD [.tup xs] S=.ok (.int (xs.length:Nat)) S:=rfl
 have h6:cmpD .Eq (.int (xs.length:Nat)) (.int (xs.length:Nat)) S=.ok (.bl true) S:=by have:cmpD .Eq (.int (xs.length:Nat)) (.int (xs.length:Nat)) S=.ok (.bl (((xs.length:Nat):Int)==((xs.length:Nat):Int))) S:=rfl;rw[this];simp
 have hz:List.zipWith (λx y=>D.tup [x,y]) xs xs=xs.map λz=>D.tup [z,z]:=by
  induction xs with
  |nil=>rfl
  |cons a l ih=>rw[List.zipWith_cons_cons,ZE];congr 1;refine ih (by simp at hl;omega) (λz hz=>hx z (Zb _ hz)) rfl rfl rfl ?_;have:cmpD .Eq (.int (l.length:Nat)) (.int (l.length:Nat)) S=.ok (.bl (((l.length:Nat):Int)==((l.length:Nat):Int))) S:=rfl;rw[this];simp
 have hc:den (tS n) G0 smC [some (.tup xs),some (.tup xs)] S=.ok (.lst (xs.map λ_=>.bl true)) S:=by
  refine a4A' (its:=.items (xs.map λz=>D.tup [z,z])) (S1:=S) (by simp[denI,den,denL,Res.bind,zipOf,a7N',hz]) ?_
  have:=a0V' (f:=λz=>D.tup [z,z]) (p:=λ_=>true) (e:=λ_=>D.bl true) (xs:=xs) (S:=S) (step:=λx acc S2=>match a0z' (.tup [.var 0,.var 1]) x [none,none]with
    |some ρ'=>(denTs (tS n) G0 [] ρ' S2).bind λk S3=>if k=true then denB (tS n) G0 (.emit (.call "_law_same" [.var 0,.var 1])) ρ' acc S3 else .ok acc S3
    |none=>.fail) (λz hz acc ha=>by have ha':acc.length<16777216:=ha;have ha1:a0z' (.tup [.var 0,.var 1]) (.tup [z,z]) [none,none]=some [some z,some z]:=rfl;rw[ha1];simp only[denTs,denB,den,denL,Res.bind,Zf,Zg,uS,hx z hz,if_true];simp[ha']) (show xs.length≤16777216 by omega)
  refine Eq.trans this ?_;rw[List.filter_eq_self.mpr (λ_ _=>rfl)]
 have ha:allD [.lst (xs.map λ_=>.bl true)] S=.ok (.bl true) S:=by show boolR (allO ((xs.map λ_=>D.bl true).map asB)) S=_;rw[ZL];have:allO (xs.map (asB∘λ_=>D.bl true))=some true:=K33.a6A' λx _=>rfl;rw[this];rfl
 have e:a0T'=[.ite (.bor (.blt .isinst [.var 1,.ty "tuple"]) (.blt .isinst [.var 1,.ty "list"])) [.ite (.bor (.cmp .NotEq (.blt .isinst [.var 0,.ty "tuple"]) (.blt .isinst [.var 1,.ty "tuple"])) (.cmp .NotEq (.blt .isinst [.var 0,.ty "list"]) (.blt .isinst [.var 1,.ty "list"]))) [.ret (.lit (.bl false))] [],.ret (.band (.cmp .Eq (.blt .len [.var 0]) (.blt .len [.var 1])) (.blt .all [smC]))] [],.ite (.cmp .Is (.var 1) (.lit (.non))) [.ret (.cmp .Is (.var 0) (.lit (.non)))] [],.ret (.band (.cmp .Eq (.blt .isinst [.var 0,.ty "bool"]) (.blt .isinst [.var 1,.ty "bool"])) (.band (.blt .isinst [.var 0,.ty "int"]) (.cmp .Eq (.var 0) (.var 1))))]:=rfl;rw[e];refine a3L' ?_;rw[a5L' (k:=true) (S1:=S) (by simp[denT,den,denL,Res.bind,Res.noErr,bltD,h1,truD]),if_pos rfl];rw[a0F' (ρ':=[some (.tup xs),some (.tup xs)]) (S':=S) (by rw[a5L' (k:=false) (S1:=S) (by simp[denT,den,denL,Res.bind,Res.noErr,onBl,bltD,h1,h2,h3,h4]),if_neg (by decide)];rfl)];refine a3L' ?_;rw[denS,den,den];simp only[den,denL,Res.bind,Res.noErr,bltD,Zf,Zg,h5,h6,onBl,if_true,hc,ha]
section
variable {ts:List Ti}{P:List (List Ti)}
end
theorem o_add(x y:Int):opD .Add (.int x) (.int y) S=.ok (.int (x+y)) S:=rfl
theorem o_sub(x y:Int):opD .Sub (.int x) (.int y) S=.ok (.int (x-y)) S:=rfl
theorem o_mul{x:Int}(h:(-(2^64)<x∧x<2^64)∨(-(2^64)<y∧y<2^64)):opD .Mult (.int x) (.int y) S=.ok (.int (x*y)) S:=by show(if(-(2^64)<x∧x<2^64)∨(-(2^64)<y∧y<2^64)then Res.ok (D.int (x*y)) S else _)=_;rw[if_pos h]
theorem o_mod{x:Int}(h:0<y):opD .Mod (.int x) (.int y) S=.ok (.int (x%y)) S:=by show(if 0<y then Res.ok (D.int (x%y)) S else .fail)=_;rw[if_pos h]
theorem o_div{x:Int}(h:0<y∧y<1073741824):opD .FloorDiv (.int x) (.int y) S=.ok (.int (x/y)) S:=by show(if 0<y∧y<1073741824 then Res.ok (D.int (x/y)) S else if 0<y∧y<2^100 then Res.ok (D.int (x/y)) S else .fail)=_;rw[if_pos h]
theorem o_shr{x:Int}(h:0≤y):opD .RShift (.int x) (.int y) S=.ok (.int (x/2^y.toNat)) S:=by show(if 0≤y then Res.ok (D.int (x/2^y.toNat)) S else .fail)=_;rw[if_pos h]
theorem o_and(x y:Int):opD .BitAnd (.int x) (.int y) S=.ok (.int (Builtin.bitAnd x y)) S:=rfl
theorem q_eq(x y:Int):cmpD .Eq (.int x) (.int y) S=.ok (.bl (x==y)) S:=rfl
theorem q_lt(x y:Int):cmpD .Lt (.int x) (.int y) S=.ok (.bl (decide (x<y))) S:=rfl
def stir1(c k:Int):Int:=(c%2147483647+977*k+1)*48271
noncomputable def stir2(X:Int):Int:=X%2147483647*(X%2147483647)%2147483629
noncomputable def stirV(c k:Int):Int:=(stir2 (stir1 c k)+40692*(k+3))*69621%2147483647/8
theorem b0M'(hS:Flat S)(c k:Int):a0N' [.int c,.int k] S=.ok (.int (stirV c k)) S:=by have m1:∀x:Int,opD .Mult (.int x) (.int 48271) S=.ok (.int (x*48271)) S:=λx=>o_mul (.inr (by decide));have m2:∀x:Int,opD .Mult (.int 977) (.int x) S=.ok (.int (977*x)) S:=λx=>o_mul (.inl (by decide));have m3:∀x:Int,opD .Mult (.int 40692) (.int x) S=.ok (.int (40692*x)) S:=λx=>o_mul (.inl (by decide));have m4:∀x:Int,opD .Mult (.int x) (.int 69621) S=.ok (.int (x*69621)) S:=λx=>o_mul (.inr (by decide));have d1:∀x:Int,opD .Mod (.int x) (.int 2147483647) S=.ok (.int (x%2147483647)) S:=λx=>o_mod (by decide);have d2:∀x:Int,opD .Mod (.int x) (.int 2147483629) S=.ok (.int (x%2147483629)) S:=λx=>o_mod (by decide);have d3:∀x:Int,opD .FloorDiv (.int x) (.int 8) S=.ok (.int (x/8)) S:=λx=>o_div (by decide);refine a0D' rfl ?_ rfl hS rfl;show denSs a5b' G0 a3x' [some (.int c),some (.int k),none] S=_;have m5:∀x:Int,opD .Mult (.int (x%2147483647)) (.int (x%2147483647)) S=.ok (.int (x%2147483647*(x%2147483647))) S:=λx=>o_mul (.inl (by omega));unfold a3x';rw[a1j' (S':=S) (d:=.int (stir1 c k%2147483647)) (by unfold stir1;simp only[den,Res.bind,Res.noErr,Zf,Zg,d1,m2,o_add,m1])];simp only[ZV,ZU];unfold stirV;generalize stir1 c k=X;rw[a1j' (S':=S) (d:=.int (stir2 X)) (by unfold stir2;simp only[den,Res.bind,Res.noErr,Zf,Zg,m5,d2])];simp only[ZV,ZU];generalize stir2 X=Y;rw[a1j' (S':=S) (d:=.int ((Y+40692*(k+3))*69621%2147483647)) (by simp only[den,Res.bind,Res.noErr,Zf,Zg,o_add,m3,m4,d1])];simp only[ZV,ZU];refine a3L' ?_;simp only[denS,den,Res.bind,Res.noErr,Zf,Zg,d3]
theorem b2l':a2j'=[.asg 2 (.bin .Add (.lit (.int 1)) (.bin .Mod (.var 0) (.var 1))),.asg 3 (.bin .FloorDiv (.var 0) (.var 1)),.asg 4 (.bin .Mod (.var 3) (.lit (.int 6))),.asg 5 (.lst true []),.for_ (.var 6) (.range [.lit (.int 1),.var 2]) wA,.ret (.tup [.var 2,.blt .tuple [.blt (.sorted false (.seq .int)) [.var 5]]])]:=rfl
section
variable {c t l w a b:Int}{x8 x9:Option D}
abbrev rW(c t m l w:Int)(n:Nat)(x6 x7 x8 x9:Option D):Rho:=[some (.int c),some (.int t),some (.int m),some (.int l),some (.int w),some (.ref n),x6,x7,x8,x9]
theorem w_s1(ha:0≤a)(hb:1≤b)(hb8:b≤8):∃ch:Int,den a0g' G0 wS1 (rW c t m l w n (some (.int b)) (some (.int a)) x8 x9) T=.ok (.int ch) T:=by
 have h1:=o_div (S:=T) (x:=l) (y:=6) (by decide);have h2:=o_mul (S:=T) (x:=b) (y:=b-1) (.inl (by omega));have h3:=o_div (S:=T) (x:=b*(b-1)) (y:=2) (by decide)
 have h0:0≤b*(b-1)/2+a:=by have:0≤b*(b-1):=Int.mul_nonneg (by omega) (by omega);have:0≤b*(b-1)/2:=Int.ediv_nonneg this (by decide);omega
 have h4:=o_shr (S:=T) (x:=l/6) h0;exact⟨Builtin.bitAnd (l/6/2^(b*(b-1)/2+a).toNat) 1,by simp only[wS1,den,Res.bind,Res.noErr,Zf,Zg,h1,o_sub,h2,h3,o_add,h4,o_and]⟩
theorem w_st(hT:Flat T):∃r:Int,den a0g' G0 wSt (rW c t m l w n (some (.int b)) (some (.int a)) x8 x9) T=.ok (.int r) T:=by have h2:=o_mul (S:=T) (x:=8) (y:=a) (.inl (by decide));have h3:=b0M' hT c (8*a+b);exact⟨stirV c (8*a+b),by simp only[wSt,den,denL,Res.bind,Res.noErr,Zf,Zg,h2,o_add,a2k',h3]⟩
theorem w_when{k:Int}{e:CE}(he:∃ch:Int,den a0g' G0 e (rW c t m l w n (some (.int b)) (some (.int a)) (some v8) x9) T=.ok (.int ch) T)(h8:∃i:Int,v8=.int i):
  ∃ch:Int,denS a0g' G0 (wW k [.asg 8 e]) (rW c t m l w n (some (.int b)) (some (.int a)) (some v8) x9) T=.ok (.next (rW c t m l w n (some (.int b)) (some (.int a)) (some (.int ch)) x9)) T:=by
 obtain⟨i,rfl⟩:=h8;obtain⟨ch,he⟩:=he;have ht:denT a0g' G0 (.cmp .Eq (.var 4) (.lit (.int k))) (rW c t m l w n (some (.int b)) (some (.int a)) (some (.int i)) x9) T=.ok (w==k) T:=by simp only[denT,den,Res.bind,Zf,Zg,q_eq,Res.noErr,onBl]
 unfold wW;rw[a5L' ht];cases w==k
 ·exact⟨i,rfl⟩
 ·refine⟨ch,?_⟩;rw[if_pos rfl,a1j' he];rfl
theorem w_s4:∃q:List Bool,q.length=5∧den a0g' G0 wS4 (rW c t m l w n (some (.int b)) (some (.int a)) x8 x9) T=.ok (.lst (q.map D.bl)) T:=by
 have h3:=o_mod (S:=T) (x:=a) (y:=3) (by decide);have e1:den a0g' G0 wE1 (rW c t m l w n (some (.int b)) (some (.int a)) x8 x9) T=.ok (.bl (b==a+1)) T:=by simp only[wE1,den,Res.bind,Res.noErr,Zf,Zg,o_add,q_eq]
 have e2:den a0g' G0 wE2 (rW c t m l w n (some (.int b)) (some (.int a)) x8 x9) T=.ok (.bl ((b==a+1)||(b-a==m-1))) T:=by simp only[wE2,den,Res.bind,Res.noErr,Zf,Zg,o_add,o_sub,q_eq,onBl];cases b==a+1<;>rfl
 have e5:den a0g' G0 wE5 (rW c t m l w n (some (.int b)) (some (.int a)) x8 x9) T=.ok (.bl ((b==a+1)&&decide (a%3<2))) T:=by simp only[wE5,den,Res.bind,Res.noErr,Zf,Zg,o_add,h3,q_eq,q_lt,onBl];cases b==a+1<;>rfl
 refine⟨[b==a+1,(b==a+1)||(b-a==m-1),a==0,true,(b==a+1)&&decide (a%3<2)],rfl,?_⟩;simp only[wS4,den,denL,Res.bind,Res.noErr,Zf,Zg,e1,e2,e5,q_eq];rfl
theorem w_s5{q:List Bool}(hq:q.length=5):∃ch:Int,den a0g' G0 wS5 (rW c t m l w n (some (.int b)) (some (.int a)) x8 (some (.lst (q.map D.bl)))) T=.ok (.int ch) T:=by
 have h1:=o_div (S:=T) (x:=l) (y:=6) (by decide);have h2:=o_mod (S:=T) (x:=l/6) (y:=5) (by decide);have h0:0≤l/6%5∧l/6%5<5:=by omega
 generalize l/6%5=i at h2 h0;obtain⟨v,hv⟩:∃v,q[i.toNat]?=some v:=⟨_,Zm (by omega)⟩
 have h3:idxD (.lst (q.map D.bl)) (.int i) T=.ok (.bl v) T:=by
  have e:atI (q.map D.bl) i=some (.bl v):=by
   have hx:ixN (q.map D.bl).length i=some i.toNat:=by unfold ixN;rw[Zj,hq];simp[h0.1,h0.2]
   unfold atI;rw[hx];show(q.map D.bl)[i.toNat]?=_;rw[ZB,hv];rfl
  unfold idxD;simp only[seqOf,e]
 have h4:intD [.bl v] T=.ok (.int (if v=true then 1 else 0)) T:=rfl;exact⟨if v=true then 1 else 0,by simp only[wS5,den,denL,Res.bind,Res.noErr,Zf,Zg,h1,h2,h3,bltD,h4]⟩
theorem w_five(h8:∃i:Int,v8=.int i):∃(ch:Int) (y9:Option D),denS a0g' G0 (wW 5 [.asg 9 wS4,.asg 8 wS5]) (rW c t m l w n (some (.int b)) (some (.int a)) (some v8) x9) T=.ok (.next (rW c t m l w n (some (.int b)) (some (.int a)) (some (.int ch)) y9)) T:=by
 obtain⟨i,rfl⟩:=h8;obtain⟨q,hq,e4⟩:=w_s4 (T:=T) (c:=c) (t:=t) (m:=m) (l:=l) (w:=w) (n:=n) (a:=a) (b:=b) (x8:=some (.int i)) (x9:=x9);obtain⟨ch,e5⟩:=w_s5 (T:=T) (c:=c) (t:=t) (m:=m) (l:=l) (w:=w) (n:=n) (a:=a) (b:=b) (x8:=some (.int i)) hq;have ht:denT a0g' G0 (.cmp .Eq (.var 4) (.lit (.int 5))) (rW c t m l w n (some (.int b)) (some (.int a)) (some (.int i)) x9) T=.ok (w==5) T:=by simp only[denT,den,Res.bind,Zf,Zg,q_eq,Res.noErr,onBl]
 unfold wW;rw[a5L' ht];cases w==5
 ·exact⟨i,x9,rfl⟩
 ·refine⟨ch,some (.lst (q.map D.bl)),?_⟩;rw[if_pos rfl,a1j' e4];simp only[ZV,ZU];rw[a1j' e5];rfl
theorem w_turn{us:List Ti}(hT:Flat T)(hu:us.length<1000)(ha:0≤a)(hb:1≤b)(hb8:b≤8):∃(k:Bool) (y8 y9:Option D),
  denSs a0g' G0 wB (rW c t m l w T.length (some (.int b)) (some (.int a)) x8 x9) (T++[tiesD us])=.ok (.next (rW c t m l w T.length (some (.int b)) (some (.int a)) y8 y9)) (T++[tiesD (if k=true then us++[(a,b)]else us)]):=by
 have hT1:Flat (T++[tiesD us]):=hT.snoc (K33.a5F' us);obtain⟨c1,e1⟩:=w_s1 (T:=T++[tiesD us]) (c:=c) (t:=t) (m:=m) (l:=l) (w:=w) (n:=T.length) (x8:=x8) (x9:=x9) ha hb hb8;obtain⟨c2,e2⟩:=w_when (T:=T++[tiesD us]) (c:=c) (t:=t) (m:=m) (l:=l) (w:=w) (n:=T.length) (a:=a) (b:=b) (x9:=x9) (k:=3) (e:=wS2) (v8:=.int c1) (by obtain⟨r,hr⟩:=w_st (T:=T++[tiesD us]) (c:=c) (t:=t) (m:=m) (l:=l) (w:=w) (n:=T.length) (a:=a) (b:=b) (x8:=some (.int c1)) (x9:=x9) hT1;have d1:=o_mod (S:=T++[tiesD us]) (x:=r) (y:=3) (by decide);have d2:=o_div (S:=T++[tiesD us]) (x:=r%3) (y:=2) (by decide);exact⟨r%3/2,by unfold wS2;rw[den,den,hr];simp only[den,Res.bind,Res.noErr,d1,d2]⟩) ⟨_,rfl⟩;obtain⟨c3,e3⟩:=w_when (T:=T++[tiesD us]) (c:=c) (t:=t) (m:=m) (l:=l) (w:=w) (n:=T.length) (a:=a) (b:=b) (x9:=x9) (k:=4) (e:=wS3) (v8:=.int c2) (by obtain⟨r,hr⟩:=w_st (T:=T++[tiesD us]) (c:=c) (t:=t) (m:=m) (l:=l) (w:=w) (n:=T.length) (a:=a) (b:=b) (x8:=some (.int c2)) (x9:=x9) hT1;have d1:=o_mod (S:=T++[tiesD us]) (x:=r) (y:=4) (by decide);have d2:=o_div (S:=T++[tiesD us]) (x:=r%4+2) (y:=3) (by decide);exact⟨(r%4+2)/3,by unfold wS3;rw[den,den,den,hr];simp only[den,Res.bind,Res.noErr,d1,o_add,d2]⟩) ⟨_,rfl⟩;obtain⟨c4,y9,e4⟩:=w_five (T:=T++[tiesD us]) (c:=c) (t:=t) (m:=m) (l:=l) (w:=w) (n:=T.length) (a:=a) (b:=b) (x9:=x9) (v8:=.int c3) ⟨_,rfl⟩;refine⟨c4==1,some (.int c4),y9,?_⟩;unfold wB;rw[a1j' e1];simp only[ZV,ZU];rw[a0F' e2,a0F' e3,a0F' e4];have ht:denT a0g' G0 (.cmp .Eq (.var 8) (.lit (.int 1))) (rW c t m l w T.length (some (.int b)) (some (.int a)) (some (.int c4)) y9) (T++[tiesD us])=.ok (c4==1) (T++[tiesD us]):=by simp only[denT,den,Res.bind,Zf,Zg,q_eq,Res.noErr,onBl]
 refine(a0F' (ρ':=rW c t m l w T.length (some (.int b)) (some (.int a)) (some (.int c4)) y9) ?_).trans rfl;rw[a5L' ht];cases c4==1
 ·rfl
 ·rw[if_pos rfl,if_pos rfl];have hap:a3O' (.ref T.length) [.tup [.int a,.int b]] (T++[tiesD us])=.ok .non (T++[tiesD us++[.tup [.int a,.int b]]]):=a8Q' (by unfold tiesD;rw[Zj];show _<16777216;omega);have e5:tiesD us++[.tup [.int a,.int b]]=tiesD (us++[(a,b)]):=by unfold tiesD;simp[tieD]
  rw[e5]at hap;refine(a0F' (ρ':=rW c t m l w T.length (some (.int b)) (some (.int a)) (some (.int c4)) y9) (S':=T++[tiesD (us++[(a,b)])]) ?_).trans rfl;simp only[denS,den,denL,Res.bind,Res.noErr,methD,Zf,Zg,hap]
theorem b0N'(hT:Flat T)(hb:1≤b)(hb8:b≤8):∀(as:Li) (us:List Ti) (x7 x8 x9:Option D),(∀a∈as,0≤a)→us.length+as.length<1000→∃(vs:List Ti) (y7 y8 y9:Option D),vs.Sublist (as.map λa=>(a,b))∧
  forD (λx ρ S=>match asgCT (.var 7) x ρ with
   |some ρ'=>denSs a0g' G0 wB ρ' S
   |none=>.fail) (as.map D.int) (rW c t m l w T.length (some (.int b)) x7 x8 x9) (T++[tiesD us])=.ok (.next (rW c t m l w T.length (some (.int b)) y7 y8 y9)) (T++[tiesD (us++vs)])
 | [],us,x7,x8,x9,_,_=>⟨[],x7,x8,x9,.slnil,by rw[List.append_nil];rfl⟩
 |a::as,us,x7,x8,x9,hp,hl=>by
  rw[Zy]at hl;obtain⟨k,z8,z9,e⟩:=w_turn (c:=c) (t:=t) (m:=m) (l:=l) (w:=w) (x8:=x8) (x9:=x9) (us:=us) hT (by omega) (hp a Zd) hb hb8;obtain⟨vs,y7,y8,y9,hs,ih⟩:=b0N' hT hb hb8 as (if k=true then us++[(a,b)]else us) (some (.int a)) z8 z9 (λx hx=>hp x (Zb _ hx)) (by split<;>(try simp only[ZG,Zy,List.length_nil])<;>omega);refine⟨(if k=true then [(a,b)]else [])++vs,y7,y8,y9,?_,?_⟩
  ·rw[ZE];cases k
   ·exact hs.cons _
   ·exact hs.cons_cons _
  ·rw[ZE];unfold forD;simp only[asgCT,ZV,ZU];rw[e];refine ih.trans ?_;cases k<;>simp
noncomputable def a8T'(bs:Li):List Ti:=bs.flatMap λb=>(a0c' 0 b.toNat).map λa=>(a,b)
theorem b0O'(hT:Flat T):∀(bs:Li) (us:List Ti) (x6 x7 x8 x9:Option D),(∀b∈bs,1≤b∧b≤8)→us.length+8*bs.length<1000→∃(vs:List Ti) (y6 y7 y8 y9:Option D),vs.Sublist (a8T' bs)∧
  forD (λx ρ S=>match asgCT (.var 6) x ρ with
   |some ρ'=>denSs a0g' G0 wA ρ' S
   |none=>.fail) (bs.map D.int) (rW c t m l w T.length x6 x7 x8 x9) (T++[tiesD us])=.ok (.next (rW c t m l w T.length y6 y7 y8 y9)) (T++[tiesD (us++vs)])
 | [],us,x6,x7,x8,x9,_,_=>⟨[],x6,x7,x8,x9,.slnil,by rw[List.append_nil];rfl⟩
 |b::bs,us,x6,x7,x8,x9,hp,hl=>by
  rw[Zy]at hl;obtain⟨hb,hb8⟩:=hp b Zd;have hlen:(a0c' 0 b.toNat).length=b.toNat:=K33.a0b';obtain⟨vs,z7,z8,z9,hs,e⟩:=b0N' (c:=c) (t:=t) (m:=m) (l:=l) (w:=w) hT hb hb8 (a0c' 0 b.toNat) us x7 x8 x9 (λa ha=>(K33.a0v' ha).1) (by rw[hlen];omega)
  have hvl:vs.length≤8:=by have:=hs.length_le;rw[Zj,hlen]at this;omega
  obtain⟨ws,y6,y7,y8,y9,hs2,ih⟩:=b0O' hT bs (us++vs) (some (.int b)) z7 z8 z9 (λx hx=>hp x (Zb _ hx)) (by rw[ZG];omega);refine⟨vs++ws,y6,y7,y8,y9,?_,?_⟩
  ·unfold a8T';rw[List.flatMap_cons];exact hs.append hs2
  ·rw[ZE];unfold forD;simp only[asgCT,ZV,ZU]
   have e':denSs a0g' G0 wA (rW c t m l w T.length (some (.int b)) x7 x8 x9) (T++[tiesD us])=.ok (.next (rW c t m l w T.length (some (.int b)) z7 z8 z9)) (T++[tiesD (us++vs)]):=by
    unfold wA;refine(a0F' (ρ':=rW c t m l w T.length (some (.int b)) z7 z8 z9) (S':=T++[tiesD (us++vs)]) ?_).trans rfl;have hrr:(-4611686018427387904:Int)≤b∧b<4611686018427387904:=by omega
    rw[a7f' (its:=.items ((a0c' 0 b.toNat).map D.int)) (S1:=T++[tiesD us]) (by simp[denI,denL,den,Res.bind,Res.noErr,hrr,K33.a2p'])];exact e
   rw[e',←List.append_assoc];exact ih
end
theorem b2m'(h1:1≤m)(h2:m≤8):(a8T' (a0c' 1 (m-1).toNat)).Nodup∧(∀t∈a8T' (a0c' 1 (m-1).toNat),0≤t.1∧t.1<t.2∧t.2<m)∧(a8T' (a0c' 1 (m-1).toNat)).length≤28:=by rcases K33.eight h1 h2 with rfl|rfl|rfl|rfl|rfl|rfl|rfl|rfl<;>exact⟨by decide+kernel,by decide+kernel,by decide+kernel⟩
theorem web_eq(hS:Flat S)(c:Int):∃m ts,Web m ts∧a1J' [.int c,.int 8] S=.ok (webD m ts) S:=by
 have hm:1≤1+c%8∧1+c%8≤8:=by omega
 obtain⟨p1,p2,p3⟩:=b2m' hm.1 hm.2;obtain⟨vs,y6,y7,y8,y9,hs,hf⟩:=b0O' (T:=S) (c:=c) (t:=8) (m:=1+c%8) (l:=c/8) (w:=c/8%6) hS (a0c' 1 (1+c%8-1).toNat) [] none none none none (λb hb=>by have:=K33.a0v' hb;omega) (by rw[K33.a0b'];simp;omega);rw[List.nil_append]at hf;have hl:vs.length≤28:=ZS hs.length_le p3;have W:=b2j' hm.1 hm.2 (hs.nodup p1) (λt ht=>p2 t (hs.subset ht)) hl;refine⟨1+c%8,sortI vs,W,?_⟩;have d1:=o_mod (S:=S) (x:=c) (y:=8) (by decide);have d2:=o_div (S:=S) (x:=c) (y:=8) (by decide);have d3:=o_mod (S:=S) (x:=c/8) (y:=6) (by decide);have hso:=a5K' (S:=S++[tiesD vs]) (d:=.ref S.length) (l:=vs) boxE (by omega);have htu:a3H' [.lst (tiesD (sortI vs))] (S++[tiesD vs])=.ok (.tup (tiesD (sortI vs))) (S++[tiesD vs]):=rfl
 have hd:denSs a0g' G0 a2j' [some (.int c),some (.int 8),none,none,none,none,none,none,none,none] S=.ok (.ret (webD (1+c%8) (sortI vs))) (S++[tiesD vs]):=by
  have hrr:(-4611686018427387904:Int)≤1+c%8∧1+c%8<4611686018427387904:=by omega
  rw[b2l'];rw[a1j' (d:=.int (1+c%8)) (S':=S) (by simp only[den,Res.bind,Res.noErr,Zf,Zg,d1,o_add])];simp only[ZV,ZU];rw[a1j' (d:=.int (c/8)) (S':=S) (by simp only[den,Res.bind,Res.noErr,Zf,Zg,d2])];simp only[ZV,ZU];rw[a1j' (d:=.int (c/8%6)) (S':=S) (by simp only[den,Res.bind,Res.noErr,Zf,Zg,d3])];simp only[ZV,ZU];rw[a1j' (d:=.ref S.length) (S':=S++[tiesD []]) (by simp[den,denL,Res.bind,tiesD])];simp only[ZV,ZU];rw[a0F' (ρ':=rW c 8 (1+c%8) (c/8) (c/8%6) S.length y6 y7 y8 y9) (S':=S++[tiesD vs]) (by rw[a7f' (its:=.items ((a0c' 1 (1+c%8-1).toNat).map D.int)) (S1:=S++[tiesD []]) (by simp[denI,denL,den,Res.bind,Res.noErr,hrr,K33.a2p'])];exact hf)];refine a3L' ?_;simp only[denS,den,denL,Res.bind,Res.noErr,Zf,Zg,bltD,hso,htu];rfl
 show runD a0g' G0 a2j' a4w'.length 2 [.int c,.int 8] S=_;have hd':denSs a0g' G0 a2j' (([.int c,.int 8]:List D).map some++List.replicate (a4w'.length-2) none) S=_:=hd;unfold runD;rw[if_pos (show [D.int c,D.int 8].length=2 from rfl),hd'];show trim S.length (webD (1+c%8) (sortI vs)) (S++[tiesD vs])=_;rw[K33.a4z' (by rw[List.take_left' rfl];exact hS) (K33.low_web _ _),List.take_left' rfl]
section
variable {ts:List Ti}
end
theorem cell_eq(hS:Flat S)(ns:Li):∃c:Int,a0C' [.scr (ns.map D.int),.int 0] S=.ok (.int c) S:=by
 cases ns with
 |nil=>exact⟨0,a0D' rfl rfl rfl hS rfl⟩
 |cons n ns=>
  refine⟨n,a0D' rfl ?_ rfl hS rfl⟩;have h1:lenD [.scr ((n::ns).map D.int)] S=.ok (.int ((n::ns).map D.int).length) S:=rfl
  have h2:cmpD .Lt (.int 0) (.int ((n::ns).map D.int).length) S=.ok (.bl true) S:=by have:cmpD .Lt (.int 0) (.int ((n::ns).map D.int).length) S=.ok (.bl (decide ((0:Int)<((n::ns).map D.int).length))) S:=rfl;rw[this,ZI (by simp)]
  have h3:idxD (.scr ((n::ns).map D.int)) (.int 0) S=.ok (.int n) S:=by
   unfold idxD
   have:atI ((n::ns).map D.int) 0=some (.int n):=by
    unfold atI ixN;simp
    try omega
   simp only[seqOf,this]
  generalize(n::ns).map D.int=xs at h1 h2 h3;simp[a2L',a2K',denSs,denS,denT,den,denL,Res.bind,Res.noErr,onBl,bltD,h1,h2,h3]
theorem seq_of{e:CE}(he:den Φ G0 e ρ S=.ok d S)(hi:a3Q' S d=some (.items ds)):denI Φ G0 (.seq e) ρ S=.ok (.items ds) S:=by rw[denI,he];simp only[Res.bind,hi]
theorem a0P'{i:Nat}(h:ρ[i]?=some (some d)):den Φ G0 (.var i) ρ S=.ok d S:=by simp only[den,h]
theorem a5P':den Φ G0 (.lit d) ρ S=.ok d S:=by simp only[den]
theorem a4B'{a b:CE}{x e:D}{S2:Store}(h1:den Φ G0 a ρ S=.ok d S1)(h2:den Φ G0 b ρ S1=.ok e S2)(h3:idxD d e S2=.ok x S2):den Φ G0 (.idx a b) ρ S=.ok x S2:=by simp only[den,h1,h2,Res.bind,h3,Res.noErr]
theorem add_lst{p q:List D}(h:p.length+q.length≤100000):opD .Add (.lst p) (.lst q) S=.ok (.lst (p++q)) S:=by
 have e1:opD .Add (.lst p) (.lst q) S=if p.length+q.length≤big then .ok (.lst (p++q)) S else .fail:=by simp only[opD,addD,Py.a2Q']
 rw[e1,if_pos (by show _≤16777216;omega)]
theorem T_not{e:CE}{k:Bool}(h:denT Φ G0 e ρ S=.ok k S):denT Φ G0 (.bnot e) ρ S=.ok (!k) S:=by simp only[denT,h,Res.bind]
theorem b0a'{c:CE}{cs:List CS}(h:denT Φ G0 c ρ S=.ok false S):denSs Φ G0 (.ite c [.ret (.lit (.bl false))] []::cs) ρ S=denSs Φ G0 cs ρ S:=by refine a0F' ?_;rw[a5L' h];simp only[Zr,Z0,denSs]
theorem T_or{a b:CE}{x y:Bool}(h1:denT Φ G0 a ρ S=.ok x S)(h2:denT Φ G0 b ρ S=.ok y S):denT Φ G0 (.bor a b) ρ S=.ok (x||y) S:=by
 simp only[denT,h1,Res.bind];cases x
 ·simp[h2]
 ·simp
theorem T_cm{o:CmpOp}{a b:CE}{e:D}{k:Bool}(h1:den Φ G0 a ρ S=.ok d S)(h2:den Φ G0 b ρ S=.ok e S)(h3:cmpD o d e S=.ok (.bl k) S):denT Φ G0 (.cmp o a b) ρ S=.ok k S:=by simp only[denT,h1,h2,Res.bind,h3,Res.noErr,onBl]
section
variable {ps:Lq}
end
section
variable {ps:Lq}
end
section
variable {ps:Lq}
end
section
variable {ts ps:List Ti}
end
section
variable {ts ps:List Ti}
end
section
variable {ps:Lq}
end
section
variable {ts ps:List Ti}
end
section
variable {ts ps:List Ti}
end
open Pc
end K33
namespace K33
section
variable {ts ps:List Ti}
end
section
variable {ts ps:List Ti}
end
section
variable {ts ps:List Ti}
end
section
variable {ts ps:List Ti}{bar:Li}
end
section
variable {ts ps:List Ti}
end
section
variable {ts ps:List Ti}
end
section
variable {ts ps:List Ti}
end
section
variable {ts ps:List Ti}
end
section
variable {ps:Lq}
end
section
variable {ts ps:List Ti}
end
theorem a8U'{lo x:Int}(h1:lo≤x)(h2:x<lo+n):x∈a0c' lo n:=by
 induction n generalizing lo with
 |zero=>omega
 |succ n ih=>
  unfold a0c';by_cases h:x=lo
  ·simp[h]
  ·exact Zb _ (ih (by omega) (by omega))
def tupJ(s:Li):D:=.tup (s.map D.int)
section
variable {ts p:List Ti}
theorem a5Q'(s:Li):lowD 0 (tupJ s)=true:=K33.a5G' s
end
section
variable {ts p:List Ti}
theorem b2n':∀ns:Li,intsD (ns.map D.int)=some ns
 | []=>rfl
 |n::ns=>by rw[ZE];unfold intsD;rw[b2n' ns];rfl
theorem in51(so:Li)(a:Int):inD (.int a) (tupJ so) S=some (decide (a∈so)):=K33.in_ints rfl a
theorem b0b'(hS:Flat S)(hl:so.length≤100)(h1:∀p∈so,0≤p∧p<m)(h2:so.Pairwise (· < ·))(hn:so≠[]):a0h' [webD m ts,tupJ so] S=.ok .non S:=by
 have e1:a0E' [webD m ts,tupJ so] S=.ok .non S:=K33.a2V' (ts:=ts) hS hl h1 h2;refine run_next (ρ:=[some (webD m ts),some (tupJ so)]) rfl ?_ rfl hS;show denSs a0k' G0 a0u' [some (webD m ts),some (tupJ so)] S=_;unfold a0u';rw[a0F' (ρ':=[some (webD m ts),some (tupJ so)]) (S':=S) (by simp only[denS,den,denL,Res.bind,Zf,Zg,a0A',e1])]
 have ht:denT a0k' G0 (.bnot (.var 1)) [some (webD m ts),some (tupJ so)] S=.ok false S:=by
  cases so with
  |nil=>exact absurd rfl hn
  |cons a l=>rfl
 rw[a0F' (ρ':=[some (webD m ts),some (tupJ so)]) (S':=S) (by rw[a5L' ht];rfl)];rfl
theorem len51(so:Li):lenD [tupJ so] S=.ok (.int (so.length:Nat)) S:=by show Res.ok (D.int ((so.map D.int).length:Nat)) S=_;rw[Zj]
end
end K33
namespace K33
section
variable {ts:List Ti}
theorem a7g':a3y'=[.ret (.blt .tuple [so51])]:=rfl
def bit51(k x:Int):Bool:=Builtin.bitAnd (k/2^x.toNat) 1==1
def a2C'(m k:Int):Li:=(a0c' 0 m.toNat).filter (bit51 k)
theorem lsome51(hS:Flat S)(h1:1≤m)(h2:m≤8)(k:Int):a1C' [.int m,.int k] S=.ok (tupJ (a2C' m k)) S:=by
 refine a0D' rfl ?_ rfl hS (a5Q' _);show denSs a1c' G0 a3y' [some (.int m),some (.int k)] S=_;have hrr:(-4611686018427387904:Int)≤m∧m<4611686018427387904:=by omega
 have hc:den a1c' G0 so51 [some (.int m),some (.int k)] S=.ok (.lst ((a2C' m k).map D.int)) S:=by
  refine a4A' (its:=.items ((a0c' 0 m.toNat).map D.int)) (S1:=S) (by simp[denI,denL,den,Res.bind,Res.noErr,hrr,K33.a2p']) ?_
  exact a0V' (f:=D.int) (p:=bit51 k) (e:=D.int) (xs:=a0c' 0 m.toNat) (S:=S) (step:=λx acc S2=>match a0z' (.var 0) x [none,some (.int k)]with
    |some ρ'=>(denTs a1c' G0 [.cmp .Eq (.bin .BitAnd (.bin .RShift (.var 1) (.var 0)) (.lit (.int 1))) (.lit (.int 1))] ρ' S2).bind λk S3=>if k=true then denB a1c' G0 (.emit (.var 0)) ρ' acc S3 else .ok acc S3
    |none=>.fail) (λx hx acc ha=>by
     have ha':acc.length<16777216:=ha;have hx0:=K33.a0v' hx;have ha1:a0z' (.var 0) (.int x) [none,some (.int k)]=some [some (.int x),some (.int k)]:=rfl;have h3:=o_shr (S:=S) (x:=k) hx0.1;have h4:cmpD .Eq (.int (Builtin.bitAnd (k/2^x.toNat) 1)) (.int 1) S=.ok (.bl (bit51 k x)) S:=rfl
     have ht:denT a1c' G0 (.cmp .Eq (.bin .BitAnd (.bin .RShift (.var 1) (.var 0)) (.lit (.int 1))) (.lit (.int 1))) [some (.int x),some (.int k)] S=.ok (bit51 k x) S:=by simp only[denT,den,Res.bind,Zf,Zg,h3,o_and,Res.noErr,h4,onBl]
     rw[ha1];cases e:bit51 k x<;>rw[e]at ht<;>simp[denTs,ht,denB,den,Res.bind,ha']) (show(a0c' 0 m.toNat).length≤16777216 by rw[K33.a0b'];omega)
 have htu:a3H' [.lst ((a2C' m k).map D.int)] S=.ok (tupJ (a2C' m k)) S:=rfl;rw[a7g'];refine a3L' ?_;rw[denS,den,denL,hc];simp only[denL,Res.bind,bltD,htu,Res.noErr]
theorem a6D':∀(n:Nat) (lo:Int),(a0c' lo n).Pairwise (· < ·)
 |0,lo=>List.Pairwise.nil
 |n+1,lo=>ZW.mpr ⟨λx hx=>by have:=a0v' hx;omega,a6D' n (lo+1)⟩
theorem mask_ok(h1:1≤m)(h8:m≤8){k:Int}(k1:1≤k)(k2:k<2^m.toNat):(∀p∈a2C' m k,0≤p∧p<m)∧(a2C' m k).Pairwise (· < ·)∧a2C' m k≠[]∧(a2C' m k).length≤8:=by
 refine⟨λp hp=>?_,(a6D' _ _).filter _,λe=>?_,?_⟩
 ·have:=a0v' (List.mem_filter.mp hp).1;omega
 ·obtain⟨x,x0,x1,hx⟩:=a9U' (by omega) h8 k1 k2
  have:x∈a2C' m k:=by
   refine List.mem_filter.mpr ⟨K33.a8U' x0 (by omega),?_⟩;have h0:0≤k/2^x.toNat:=Int.ediv_nonneg (by omega) (Int.le_of_lt (Int.pow_pos (by decide)));unfold bit51;unfold bitI at hx;obtain⟨q,hq⟩:=Int.eq_ofNat_of_zero_le h0;rw[hq]at hx⊢
   have e:Builtin.bitAnd ((q:Nat):Int) 1=((((q:Nat):Int).toNat&&& 1:Nat):Int):=by unfold Builtin.bitAnd;rw[ZI (Int.natCast_nonneg q)];rfl
   rw[e,Nat.and_one_is_mod,ZK];have:q%2=1:=by omega
   rw[this];rfl
  rw[e]at this;cases this
 ·have:=List.length_filter_le (bit51 k) (a0c' 0 m.toNat);rw[K33.a0b']at this;unfold a2C';omega
variable {x0 x1 x6:Option D}
theorem pow51(h1:1≤m)(h8:m≤8):(2:Int)≤2^m.toNat:=by rcases K33.eight h1 h8 with rfl|rfl|rfl|rfl|rfl|rfl|rfl|rfl<;>decide
end
end K33
namespace K33
theorem a5R':∀(n k:Nat) (lo:Int),a0c' lo (n+k)=a0c' lo n++a0c' (lo+n) k
 |0,k,lo=>by simp[a0c']
 |n+1,k,lo=>by
  have e:n+1+k=(n+k)+1:=by omega
  have e2:lo+1+(n:Int)=lo+((n+1:Nat):Int):=by omega
  rw[e];show lo::a0c' (lo+1) (n+k)=(lo::a0c' (lo+1) n)++a0c' (lo+((n+1:Nat):Int)) k;rw[a5R' n k (lo+1),e2,List.cons_append]
theorem idx_pre{P:Int→Bool}{x:Int}(h0:0≤x)(h1:x<m)(hx:P x=true):((a0c' 0 m.toNat).filter P).idxOf x=((a0c' 0 x.toNat).filter P).length:=by
 obtain⟨k,hk⟩:∃k,m.toNat=x.toNat+(k+1):=⟨m.toNat-x.toNat-1,by omega⟩;rw[hk,a5R'];have:a0c' (0+(x.toNat:Int)) (k+1)=x::a0c' (x+1) k:=by rw[show(0:Int)+(x.toNat:Int)=x by omega];rfl
 rw[this,List.filter_append,List.filter_cons_of_pos hx,List.idxOf_append,if_neg]
 ·rw[List.idxOf_cons_self,Nat.zero_add]
 ·intro z;have:=a0v' (List.mem_filter.mp z).1;omega
def toH(so:Li)(p:Int):Int:=if p∈so then so.headD 0 else p
noncomputable def nf(so:Li)(p:Int):Int:=(((a0c' 0 (toH so p).toNat).filter λq=> !decide (q∈so.tail)).length:Nat)
def nmI(m:Int)(so:Li):Li:=(a0c' 0 m.toNat).map (nf so)
noncomputable def keptI(m:Int)(so:Li):Li:=(a0c' 0 m.toNat).filter λp=>decide (p=so.headD 0)|| !decide (p∈so)
structure Som (m:Int)(so:Li):Prop where
 on:∀p∈so,0≤p∧p<m
 ris:so.Pairwise (· < ·)
 ne:so≠[]
 few:so.length≤8
theorem a6E'(h:Som m so):keptI m so=(a0c' 0 m.toNat).filter λq=> !decide (q∈so.tail):=by
 unfold keptI;refine List.filter_congr λp _=>?_;cases so with
 |nil=>exact absurd rfl h.ne
 |cons a l=>
  have h1:=(ZW.mp h.ris).1;show(decide (p=a)|| !decide (p∈a::l))= !decide (p∈l);by_cases z:p=a
  ·subst z;have:p∉l:=λz=>by have:=h1 p z;omega
   simp[this]
  ·simp[z]
theorem toH_ok(h:Som m so){p:Int}(h0:0≤p)(h1:p<m):0≤toH so p∧toH so p<m∧toH so p∉so.tail:=by
 cases so with
 |nil=>exact absurd rfl h.ne
 |cons a l=>
  have hp:=(ZW.mp h.ris).1;have ha:=h.on a Zd;unfold toH;split
  ·exact⟨ha.1,ha.2,λz=>by have:=hp _ z;simp at this⟩
  ·rename_i z;exact⟨h0,h1,λy=>z (Zb _ y)⟩
theorem b0c'(h:Som m so){p:Int}(h0:0≤p)(h1:p<m):toH so p∈keptI m so∧(((keptI m so).idxOf (toH so p):Nat):Int)=nf so p:=by obtain⟨a,b,c⟩:=toH_ok h h0 h1;rw[a6E' h];refine⟨List.mem_filter.mpr ⟨K33.a3F' a (by omega),by simp[c]⟩,?_⟩;rw[idx_pre (P:=λq=> !decide (q∈so.tail)) a b (by simp[c])];rfl
noncomputable def nt(so:Li)(t:Ti):Ti:=(min (nf so t.1) (nf so t.2),max (nf so t.1) (nf so t.2))
def keepT(so:Li)(t:Ti):Bool:= !decide (nf so t.1=nf so t.2)
noncomputable def newL(so:Li)(ps:List Ti):List Ti:=(ps.filter (keepT so)).map (nt so)
theorem b0d'(t:Ti)(ps:List Ti):newL so (t::ps)=if keepT so t=true then nt so t::newL so ps else newL so ps:=by unfold newL;rw[List.filter_cons];split<;>simp
section
variable {ts:List Ti}
theorem compAt{e:CE}{tg:CT}{rs:α→Rho}{it:CE}{ds:List α}{h:α→D}{f:α→D}(hi:denI Φ G0 it ρ S=.ok (.items (ds.map h)) S)(hr:fr.map (λj=>j.bind λj=>(ρ[j]?).join)=r0)
  (ha:∀d∈ds,a0z' tg (h d) r0=some (rs d)) (hl:ds.length≤100000) (he:∀d∈ds,den Φ G0 e (rs d) S=.ok (f d) S):den Φ G0 (.comp false N fr tg it [] (.emit e)) ρ S=.ok (.lst (ds.map f)) S:=by
 refine a4A' hi ?_;rw[hr]
 have:=a0V' (f:=h) (p:=λ_=>true) (e:=f) (xs:=ds) (S:=S) (step:=λy acc S2=>match a0z' tg y r0 with
    |some ρ'=>(denTs Φ G0 [] ρ' S2).bind λk S3=>if k=true then denB Φ G0 (.emit e) ρ' acc S3 else .ok acc S3
    |none=>.fail) (λd hd acc hac=>by
     have ha':acc.length<16777216:=hac
     show(match a0z' tg (h d) r0 with
      |some ρ'=>(denTs Φ G0 [] ρ' S).bind λk S3=>if k=true then denB Φ G0 (.emit e) ρ' acc S3 else .ok acc S3
      |none=>.fail)=_
     rw[ha d hd];simp[denTs,denB,Res.bind,he d hd,ha']) (show ds.length≤16777216 by omega)
 rw[List.filter_eq_self.mpr (λ_ _=>rfl)]at this;exact this
theorem T_call{f:Str}{a b:CE}{x y:D}{k:Bool}(hf:Φ f=some φ)(h1:den Φ G0 a ρ S=.ok x S)(h2:den Φ G0 b ρ S=.ok y S)(h:φ [x,y] S=.ok (.bl k) S):denT Φ G0 (.call f [a,b]) ρ S=.ok k S:=by simp only[denT,denL,hf,h1,h2,Res.bind,h,truD]
theorem comp_if{e c:CE}{tg:CT}{rs:α→Rho}{it:CE}{ds:List α}{h f:α→D}{p:α→Bool}(hi:denI Φ G0 it ρ S=.ok (.items (ds.map h)) S)(hr:fr.map (λj=>j.bind λj=>(ρ[j]?).join)=r0)
  (ha:∀d∈ds,a0z' tg (h d) r0=some (rs d)) (hl:ds.length≤1000000) (hp:∀d∈ds,denT Φ G0 c (rs d) S=.ok (p d) S) (he:∀d∈ds,den Φ G0 e (rs d) S=.ok (f d) S):den Φ G0 (.comp false N fr tg it [c] (.emit e)) ρ S=.ok (.lst ((ds.filter p).map f)) S:=by
 refine a4A' hi ?_;rw[hr]
 exact a0V' (f:=h) (p:=p) (e:=f) (xs:=ds) (S:=S) (step:=λy acc S2=>match a0z' tg y r0 with
    |some ρ'=>(denTs Φ G0 [c] ρ' S2).bind λk S3=>if k=true then denB Φ G0 (.emit e) ρ' acc S3 else .ok acc S3
    |none=>.fail) (λd hd acc hac=>by
     have ha':acc.length<16777216:=hac
     show(match a0z' tg (h d) r0 with
      |some ρ'=>(denTs Φ G0 [c] ρ' S).bind λk S3=>if k=true then denB Φ G0 (.emit e) ρ' acc S3 else .ok acc S3
      |none=>.fail)=_
     rw[ha d hd];simp only[denTs,hp d hd,Res.bind];cases p d with
     |true=>simp[denB,Res.bind,he d hd,ha']
     |false=>simp) (show ds.length≤16777216 by omega)
end
section
variable {ts:List Ti}
theorem ite_of{c a b:CE}{k:Bool}(h:denT Φ G0 c ρ S=.ok k S):den Φ G0 (.ite c a b) ρ S=if k=true then den Φ G0 a ρ S else den Φ G0 b ρ S:=by rw[den,h];rfl
end
section
variable {ts ps:List Ti}
theorem b0P'(hl:ds.length=np)(h:denSs Φ Γ body (ds.map some++List.replicate (n-np) none) S=.ok (.ret d) S')(ht:S'.take S.length=S)(hS:Flat S)(hd:lowD 0 d=true):runD Φ Γ body n np ds S=.ok d S:=by unfold runD;rw[if_pos hl,h];show trim S.length d S'=_;rw[K33.a4z' (by rw[ht];exact hS) hd,ht]
theorem b0e'{tg:CT}{it:CE}{ifs:List CE}{body:CE}{its:Its}(hI:denI Φ Γ it ρ S=.ok its S1)
  (hc:compI (λx acc S2=>match a0z' tg x (fr.map λj=>j.bind λj=>(ρ[j]?).join)with
    |some ρ'=>(denTs Φ Γ ifs ρ' S2).bind λk S3=>if k=true then denB Φ Γ body ρ' acc S3 else .ok acc S3
    |none=>.fail) its [] S1=.ok ys S5):den Φ Γ (.comp true N fr tg it ifs body) ρ S=.ok (.ref S5.length) (S5++[ys]):=by
 rw[den,hI];exact Eq.trans (congrArg (λr=>Res.bind (Res.noErr r) (λys S5=>if true=true then Res.ok (D.ref S5.length) (S5++[ys])else Res.ok (.lst ys) S5)) hc) rfl
theorem den_ssc{tg:CT}{it:CE}{ifs:List CE}{body:CE}{its:Its}(hI:denI Φ Γ it ρ S=.ok its S1)
  (hc:compI (λx acc S2=>match a0z' tg x (fr.map λj=>j.bind λj=>(ρ[j]?).join)with
    |some ρ'=>(denTs Φ Γ ifs ρ' S2).bind λk S3=>if k=true then denB Φ Γ body ρ' acc S3 else .ok acc S3
    |none=>.fail) its [] S1=.ok ys S5):den Φ Γ (.ssc N fr tg it ifs body) ρ S=.ok (.lst (sortT (ys.map asTup))) S5:=by
 rw[den,hI];exact Eq.trans (congrArg (λr:Res (List D)=>Res.bind (Res.noErr r) (λ(ys:List D) S5=>Res.ok (D.lst (sortT (ys.map asTup))) S5)) hc) rfl
theorem a6F'{α:Type}{f e:α→D}{p:α→Bool}{step:D→List D→Store→Res (List D)}{S:Store}{B:Nat}:∀(xs:List α) (acc:List D),(∀x∈xs,∀acc,acc.length<B→step (f x) acc S=.ok (if p x=true then acc++[e x]else acc) S)→acc.length+xs.length≤B→compD step (xs.map f) acc S=.ok (acc++(xs.filter p).map e) S
 | [],acc,_,_=>by simp[compD]
 |x::xs,acc,h,hl=>by
  simp only[Zy]at hl;simp only[ZE];unfold compD;rw[h x Zd acc (by omega)];unfold Res.bind;dsimp only;have ih:=λa=>a6F' (f:=f) (e:=e) (p:=p) (step:=step) xs a (λy hy=>h y (Zb _ hy));by_cases hp:p x=true
  ·rw[if_pos hp,ih _ (by simp;omega)];simp[hp]
  ·rw[if_neg hp,ih _ (by omega)];simp[hp]
theorem rng34{e:CE}(h:den Φ G0 e ρ S=.ok (.int m) S)(h1:0≤m)(h8:m≤1000):denI Φ G0 (.range [e]) ρ S=.ok (.items ((a0c' 0 m.toNat).map D.int)) S:=by
 have hrr:(-4611686018427387904:Int)≤m∧m<4611686018427387904:=by omega
 simp[denI,denL,Res.bind,h,hrr,a2p']
theorem a8V'{x:List (Option D)}:den Φ G0 (.idx (.var 0) (.lit (.int 0))) (some (webD m ts)::x) S=.ok (.int m) S:=a4B' (a0P' (i:=0) rfl) a5P' rfl
theorem b2o'(h:Som m so):idxD (tupJ so) (.int 0) S=.ok (.int (so.headD 0)) S:=by
 cases so with
 |nil=>exact absurd rfl h.ne
 |cons a l=>exact K33.a6C' (S:=S) (d:=tupJ (a::l)) (ns:=a::l) rfl (Int.le_refl 0) (by simp)
theorem in34(so:Li)(a:Int):cmpD .In (.int a) (tupJ so) S=.ok (.bl (decide (a∈so))) S:=by show boolR (inD (.int a) (tupJ so) S) S=_;rw[K33.in51];rfl
theorem b0Q'(so:Li)(a:Int):cmpD .NotIn (.int a) (tupJ so) S=.ok (.bl (!decide (a∈so))) S:=by show boolR ((inD (.int a) (tupJ so) S).map not) S=_;rw[K33.in51];rfl
theorem a5S':a2t'=[.expr (.call "must_be_web" [.var 0]),.expr (.call "must_be_one_at_least" [.var 0,.var 1]),.asg 2 nnK,.ret (.blt .tuple [nnC])]:=rfl
theorem nnT_den(h:Som m so)(x:Int):denT Φ G0 nnT [some (.int x),some (tupJ so)] S=.ok (decide (x=so.headD 0)|| !decide (x∈so)) S:=by refine T_or (T_cm (a0P' (i:=0) rfl) (a4B' (a0P' (i:=1) rfl) a5P' (b2o' h)) ?_) (T_cm (a0P' (i:=0) rfl) (a0P' (i:=1) rfl) (b0Q' so x));show boolR (some (x==so.headD 0)) S=_;rw[Bool.beq_eq_decide_eq];rfl
theorem nnK_den(W:Web m ts)(h:Som m so):den Φ G0 nnK [some (webD m ts),some (tupJ so),none] S=.ok (.ref S.length) (S++[(keptI m so).map D.int]):=by
 have w1:=W.lo;have w2:=W.hi;refine b0e' (rng34 a8V' (by omega) (by omega)) ?_
 exact a0V' (f:=D.int) (p:=λp=>decide (p=so.headD 0)|| !decide (p∈so)) (e:=D.int) (xs:=a0c' 0 m.toNat) (S:=S) (step:=λx acc S2=>match a0z' (.var 0) x [none,some (tupJ so)]with
    |some ρ'=>(denTs Φ G0 [nnT] ρ' S2).bind λk S3=>if k=true then denB Φ G0 (.emit (.var 0)) ρ' acc S3 else .ok acc S3
    |none=>.fail) (λx hx acc ha=>by have ha':acc.length<16777216:=ha;have ha1:a0z' (.var 0) (.int x) [none,some (tupJ so)]=some [some (.int x),some (tupJ so)]:=rfl;have ht:=nnT_den (Φ:=Φ) (S:=S) h x;rw[ha1];generalize nnT=c at ht⊢;cases e:(decide (x=so.headD 0)|| !decide (x∈so))<;>rw[e]at ht<;>simp[denTs,ht,denB,den,Res.bind,ha']) (show(a0c' 0 m.toNat).length≤16777216 by rw[a0b'];omega)
theorem nnE_den(h:Som m so){p:Int}(h0:0≤p)(h1:p<m):den Φ G0 nnE [some (.int p),some (.ref S.length),some (tupJ so)] (S++[(keptI m so).map D.int])=.ok (.int (nf so p)) (S++[(keptI m so).map D.int]):=by
 obtain⟨k1,k2⟩:=b0c' h h0 h1;have hb:(S++[(keptI m so).map D.int])[S.length]?=some ((keptI m so).map D.int):=boxE;generalize S++[(keptI m so).map D.int]=U at*
 have hi:a7M' (.ref S.length) [.int (toH so p)] U=.ok (.int (nf so p)) U:=by unfold a7M';dsimp only;rw[hb];simp only[K33.b2n'];rw[if_pos k1,k2]
 have hA:den Φ G0 (.ite (.cmp .In (.var 0) (.var 2)) (.idx (.var 2) (.lit (.int 0))) (.var 0)) [some (.int p),some (.ref S.length),some (tupJ so)] U=.ok (.int (toH so p)) U:=by
  have ht:denT Φ G0 (.cmp .In (.var 0) (.var 2)) [some (.int p),some (.ref S.length),some (tupJ so)] U=.ok (decide (p∈so)) U:=T_cm (a0P' (i:=0) rfl) (a0P' (i:=2) rfl) (in34 so p);refine(K33.ite_of ht).trans ?_;unfold toH;by_cases z:p∈so
  ·rw[if_pos (by simpa using z),if_pos z];exact a4B' (a0P' (i:=2) rfl) a5P' (b2o' h)
  ·rw[if_neg (by simpa using z),if_neg z];exact a0P' (i:=0) rfl
 unfold nnE;generalize CE.ite (.cmp .In (.var 0) (.var 2)) (.idx (.var 2) (.lit (.int 0))) (.var 0)=c at hA⊢;simp only[den,denL,hA,Res.bind,Zf,Zg,methD,hi,Res.noErr]
theorem a8W'(hS:Flat S)(W:Web m ts)(h:Som m so):a0B' [webD m ts,tupJ so] S=.ok (tupJ (nmI m so)) S:=by
 have w1:=W.lo;have w2:=W.hi;have h1:a0M' [webD m ts] S=.ok .non S:=K33.a3C' hS W;have h2:a0h' [webD m ts,tupJ so] S=.ok .non S:=K33.b0b' hS (by have:=h.few;omega) h.on h.ris h.ne;have h3:=nnK_den (Φ:=a0J') (S:=S) W h
 have h4:den a0J' G0 nnC [some (webD m ts),some (tupJ so),some (.ref S.length)] (S++[(keptI m so).map D.int])=.ok (.lst ((a0c' 0 m.toNat).map λp=>D.int (nf so p))) (S++[(keptI m so).map D.int]):=by refine K33.compAt (rs:=λp=>[some (.int p),some (.ref S.length),some (tupJ so)]) (h:=D.int) (f:=λp=>D.int (nf so p)) (rng34 a8V' (by omega) (by omega)) rfl (λ_ _=>rfl) (by rw[a0b'];omega) λp hp=>?_;have:=a0v' hp;exact nnE_den h (by omega) (by omega)
 refine b0P' (S':=S++[(keptI m so).map D.int]) rfl ?_ (List.take_left' rfl) hS (a5Q' _);show denSs a0J' G0 a2t' [some (webD m ts),some (tupJ so),none] S=.ok (.ret (tupJ (nmI m so))) (S++[(keptI m so).map D.int]);rw[a5S']
 have h5:a3H' [.lst ((a0c' 0 m.toNat).map λp=>D.int (nf so p))] (S++[(keptI m so).map D.int])=.ok (tupJ (nmI m so)) (S++[(keptI m so).map D.int]):=by unfold tupJ nmI;rw[ZL];rfl
 generalize webD m ts=w at*;generalize tupJ so=d at*;generalize nnK=c1 at*;generalize nnC=c2 at*;rw[a0F' (ρ':=[some w,some d,none]) (S':=S) (by simp only[denS,den,denL,Res.bind,Zf,Zg,a1g',h1])];rw[a0F' (ρ':=[some w,some d,none]) (S':=S) (by simp only[denS,den,denL,Res.bind,Zf,Zg,a0G',h2])];rw[a1j' h3];refine a3L' ?_;show denS a0J' G0 (.ret (.blt .tuple [c2])) [some w,some d,some (.ref S.length)] _=_;simp only[denS,den,denL,h4,Res.bind,bltD,h5,Res.noErr]
theorem b0f'{p:Int}(h0:0≤p)(h1:p<m):idxD (tupJ (nmI m so)) (.int p) S=.ok (.int (nf so p)) S:=by
 have h:=K33.a6C' (S:=S) (d:=tupJ (nmI m so)) (ns:=nmI m so) rfl h0 (by unfold nmI;rw[Zj,a0b'];omega);rw[h];congr 2;unfold Pc.nm nmI;have:(a0c' 0 m.toNat)[p.toNat]?=some p:=by obtain⟨k,hk⟩:∃k,m.toNat=p.toNat+(k+1):=⟨m.toNat-p.toNat-1,by omega⟩;rw[hk,a5R',Zs (by rw[a0b'];omega),a0b',Nat.sub_self];show some (0+(p.toNat:Int))=_;congr 1;omega
 rw[List.getD_eq_getElem?_getD,ZB,this];rfl
theorem b0R':∀(ks acc:List (Li)),(acc++ks).Nodup→ks.foldl (λacc k=>if acc.contains k=true then acc else acc++[k]) acc=acc++ks
 | [],acc,_=>by simp
 |k::ks,acc,h=>by
  rw[List.foldl_cons];have hk:acc.contains k=false:=by rw[List.nodup_append]at h;have:=λz=>h.2.2 k z k Zd rfl;simpa using this
  rw[hk,if_neg (by decide),b0R' ks (acc++[k]) (by rw[List.append_assoc];exact h),List.append_assoc];rfl
def two(t:Ti):Li:=[t.1,t.2]
theorem a7h':a3w'=[.ret (.blt .tuple [ntC])]:=rfl
theorem a6G'(ks:List (Li)):lowL 0 (sortT ks)=true:=K33.a8R'.mpr λx hx=>by have:=(a1a' _ _).mem_iff.mp hx;obtain⟨k,_,rfl⟩:=Zq.mp this;exact K33.a5G' k
theorem a5T'(hS:Flat S)(hp:∀t∈ps,(0≤t.1∧t.1<m)∧0≤t.2∧t.2<m)(hl:ps.length≤28):a1B' [tupJ (nmI m so),.tup (tiesD ps)] S=.ok (.tup (sortT ((tiesD (newL so ps)).map asTup))) S:=by
 refine a0D' rfl ?_ rfl hS (a6G' _);show denSs a0x' G0 a3w' [some (tupJ (nmI m so)),some (.tup (tiesD ps))] S=_
 have hc:den a0x' G0 ntC [some (tupJ (nmI m so)),some (.tup (tiesD ps))] S=.ok (.lst (sortT ((tiesD (newL so ps)).map asTup))) S:=by
  refine den_ssc (its:=.items (ps.map tieD)) (S1:=S) (seq_of (a0P' (i:=1) rfl) rfl) ?_
  have:=a6F' (f:=tieD) (p:=keepT so) (e:=λt=>tieD (nt so t)) (S:=S) (B:=63) (step:=λx acc S2=>match a0z' (.tup [.var 0,.var 1]) x [none,none,some (tupJ (nmI m so))]with
    |some ρ'=>(denTs a0x' G0 [ntT] ρ' S2).bind λk S3=>if k=true then denB a0x' G0 (.emitK ntE) ρ' acc S3 else .ok acc S3
    |none=>.fail) ps [] (λt ht acc ha=>by
     obtain⟨a1,a2⟩:=hp t ht;have i1:=b0f' (m:=m) (so:=so) (S:=S) a1.1 a1.2;have i2:=b0f' (m:=m) (so:=so) (S:=S) a2.1 a2.2;have ha1:a0z' (.tup [.var 0,.var 1]) (tieD t) [none,none,some (tupJ (nmI m so))]=some [some (.int t.1),some (.int t.2),some (tupJ (nmI m so))]:=rfl;rw[ha1];generalize tupJ (nmI m so)=d at i1 i2⊢;have d1:den a0x' G0 (.idx (.var 2) (.var 0)) [some (.int t.1),some (.int t.2),some d] S=.ok (.int (nf so t.1)) S:=a4B' (a0P' (i:=2) rfl) (a0P' (i:=0) rfl) i1;have d2:den a0x' G0 (.idx (.var 2) (.var 1)) [some (.int t.1),some (.int t.2),some d] S=.ok (.int (nf so t.2)) S:=a4B' (a0P' (i:=2) rfl) (a0P' (i:=1) rfl) i2
     have hT:denT a0x' G0 ntT [some (.int t.1),some (.int t.2),some d] S=.ok (keepT so t) S:=T_cm d1 d2 (by show boolR ((some (nf so t.1==nf so t.2)).map not) S=_;rw[Bool.beq_eq_decide_eq];rfl);have hE:den a0x' G0 ntE [some (.int t.1),some (.int t.2),some d] S=.ok (tieD (nt so t)) S:=K33.a9Y' a2u' d1 d2 (K33.a9Z' hS _ _);generalize ntT=c1 at hT⊢;generalize ntE=c2 at hE⊢;have q:hasTy (.seq .int) (tieD (nt so t))=true∧isNil (tieD (nt so t))=false:=⟨rfl,rfl⟩;have ha':acc.length<63:=ha;generalize tieD (nt so t)=y at hE q⊢;cases e:keepT so t<;>rw[e]at hT<;>simp[denTs,hT,denB,Res.bind,hE,q,ha']) (by simpa using(show ps.length≤63 by omega))
  refine Eq.trans this ?_;unfold tiesD newL;rw[List.nil_append,ZL];rfl
 rw[a7h'];refine a3L' ?_;have h5:a3H' [.lst (sortT ((tiesD (newL so ps)).map asTup))] S=.ok (.tup (sortT ((tiesD (newL so ps)).map asTup))) S:=rfl;generalize ntC=c at*;simp only[denS,den,denL,hc,Res.bind,bltD,h5,Res.noErr]
end
section
variable {ts ps:List Ti}
theorem a8X':(newL so ps).length≤ps.length:=by unfold newL;rw[Zj];exact List.length_filter_le ..
theorem a4C':a1D'=[.asg 2 (.lst true []),.for_ (.var 3) (.range [.idx (.var 0) (.lit (.int 0))]) lnB,.ret (.blt .tuple [.var 2])]:=rfl
theorem lnT_den(x:Int):denT Φ G0 lnT [some (.int x),some (tupJ so)] S=.ok (!decide (x∈so.tail)) S:=by
 have h1:slD (tupJ so) (some 1) none S=.ok (tupJ so.tail) S:=by show Res.ok (D.tup (cutL (so.map D.int) (some 1) none)) S=_;rw[K33.cut1,←List.map_drop,List.drop_one];rfl
 have h2:=b0Q' (S:=S) so.tail x;unfold lnT;generalize tupJ so=d at*;generalize tupJ so.tail=e at*;simp only[denT,den,denL,Res.bind,Zg,Zf,optL,toOpt,h1,Res.noErr,h2,onBl]
theorem ln_turn{w:Option D}(h:Som m so)(hm:m≤8){p:Int}(h0:0≤p)(h1:p<m){A:Li}(hA:A.length≤100):∃y4,denSs a0f' G0 lnB [w,some (tupJ so),some (.ref S.length),some (.int p),x4] (S++[A.map D.int])=.ok (.next [w,some (tupJ so),some (.ref S.length),some (.int p),y4]) (S++[(A++[nf so p]).map D.int]):=by
 obtain⟨a,b,_⟩:=toH_ok h h0 h1;refine⟨some (.int (toH so p)),?_⟩;have hap:=a8Q' (T:=S) (A:=A.map D.int) (d:=.int (nf so p)) (by rw[Zj];show _<16777216;omega);rw[show A.map D.int++[D.int (nf so p)]=(A++[nf so p]).map D.int by simp]at hap;generalize S++[A.map D.int]=U at*
 have hH:den a0f' G0 lnH [w,some (tupJ so),some (.ref S.length),some (.int p),x4] U=.ok (.int (toH so p)) U:=by
  have ht:denT a0f' G0 (.cmp .In (.var 3) (.var 1)) [w,some (tupJ so),some (.ref S.length),some (.int p),x4] U=.ok (decide (p∈so)) U:=T_cm (a0P' (i:=3) rfl) (a0P' (i:=1) rfl) (in34 so p);refine(K33.ite_of ht).trans ?_;unfold toH;by_cases z:p∈so
  ·rw[if_pos (by simpa using z),if_pos z];exact a4B' (a0P' (i:=1) rfl) a5P' (b2o' h)
  ·rw[if_neg (by simpa using z),if_neg z];exact a0P' (i:=3) rfl
 have hC:den a0f' G0 lnC [w,some (tupJ so),some (.ref S.length),some (.int p),some (.int (toH so p))] U=.ok (.lst (((a0c' 0 (toH so p).toNat).filter λq=> !decide (q∈so.tail)).map D.int)) U:=
  comp_if (rs:=λq=>[some (.int q),some (tupJ so)]) (h:=D.int) (f:=D.int) (p:=λq=> !decide (q∈so.tail)) (rng34 (a0P' (i:=4) rfl) (by omega) (by omega)) rfl (λ_ _=>rfl) (by rw[a0b'];omega) (λq _=>lnT_den q) λq _=>a0P' (i:=0) rfl
 have hL:lenD [.lst (((a0c' 0 (toH so p).toNat).filter λq=> !decide (q∈so.tail)).map D.int)] U=.ok (.int (nf so p)) U:=by show Res.ok (D.int ((((a0c' 0 (toH so p).toNat).filter λq=> !decide (q∈so.tail)).map D.int).length:Nat)) U=_;rw[Zj];rfl
 generalize D.lst (((a0c' 0 (toH so p).toNat).filter λq=> !decide (q∈so.tail)).map D.int)=L at*;generalize tupJ so=d at*;unfold lnB;generalize lnH=c1 at*;generalize lnC=c2 at*;rw[a1j' hH];show denSs a0f' G0 _ [w,some d,some (.ref S.length),some (.int p),some (.int (toH so p))] U=_;simp only[denSs,denS,den,denL,hC,Res.bind,Zg,Zf,bltD,hL,Res.noErr,methD,hap]
theorem a5j'(hS:Flat S)(W:Web m ts)(h:Som m so):a0n' [webD m ts,tupJ so] S=.ok (tupJ (nmI m so)) S:=by
 have w1:=W.lo;have w2:=W.hi
 have loop:∀(l A:Li) (x3 x4:Option D),(∀p∈l,0≤p∧p<m)→A.length+l.length≤8→∃y3 y4,forD (λx ρ S=>match asgCT (.var 3) x ρ with
   |some ρ'=>denSs a0f' G0 lnB ρ' S
   |none=>.fail) (l.map D.int) [some (webD m ts),some (tupJ so),some (.ref S.length),x3,x4] (S++[A.map D.int])=.ok (.next [some (webD m ts),some (tupJ so),some (.ref S.length),y3,y4]) (S++[(A++l.map (nf so)).map D.int]):=by
  intro l
  induction l with
  |nil=>intro A x3 x4 _ _;exact⟨x3,x4,by rw[List.map_nil,List.map_nil,List.append_nil];rfl⟩
  |cons p l ih=>intro A x3 x4 hp hl;rw[Zy]at hl;obtain⟨y4,e⟩:=ln_turn (S:=S) (w:=some (webD m ts)) h w2 (hp p Zd).1 (hp p Zd).2 (A:=A) (x4:=x4) (by omega);obtain⟨z3,z4,e2⟩:=ih (A++[nf so p]) (some (.int p)) y4 (λq hq=>hp q (Zb _ hq)) (by simp;omega);refine⟨z3,z4,?_⟩;rw[ZE,forD];show Res.bind (denSs a0f' G0 lnB [some (webD m ts),some (tupJ so),some (.ref S.length),some (.int p),x4] (S++[A.map D.int])) _=_;rw[e];refine Eq.trans e2 ?_;rw[List.append_assoc];rfl
 obtain⟨y3,y4,e⟩:=loop (a0c' 0 m.toNat) [] none none (λp hp=>by have:=a0v' hp;omega) (by rw[a0b'];simp;omega);rw[List.nil_append]at e
 have e:forD (λx ρ S=>match asgCT (.var 3) x ρ with
   |some ρ'=>denSs a0f' G0 lnB ρ' S
   |none=>.fail) ((a0c' 0 m.toNat).map D.int) [some (webD m ts),some (tupJ so),some (.ref S.length),none,none] (S++[[]])=.ok (.next [some (webD m ts),some (tupJ so),some (.ref S.length),y3,y4]) (S++[(nmI m so).map D.int]):=e
 refine b0P' (S':=S++[(nmI m so).map D.int]) rfl ?_ (List.take_left' rfl) hS (a5Q' _);show denSs a0f' G0 a1D' [some (webD m ts),some (tupJ so),none,none,none] S=_;have hi:=rng34 (Φ:=a0f') (S:=S++[[]]) (a8V' (m:=m) (ts:=ts) (x:=[some (tupJ so),some (.ref S.length),none,none])) (by omega) (by omega)
 have htu:a3H' [.ref S.length] (S++[(nmI m so).map D.int])=.ok (tupJ (nmI m so)) (S++[(nmI m so).map D.int]):=by have:seqOf (S++[(nmI m so).map D.int]) (.ref S.length)=some ((nmI m so).map D.int):=boxE;unfold a3H';simp only[this];rfl
 rw[a4C'];generalize webD m ts=w at*;generalize tupJ so=d at*;rw[a1j' (d:=.ref S.length) (S':=S++[[]]) (by simp[den,denL,Res.bind])];show denSs a0f' G0 _ [some w,some d,some (.ref S.length),none,none] (S++[[]])=_;rw[a0F' (ρ':=[some w,some d,some (.ref S.length),y3,y4]) (S':=S++[(nmI m so).map D.int]) (by rw[a7f' hi];exact e)];refine a3L' ?_;simp only[denS,den,denL,Res.bind,Zg,Zf,bltD,htu,Res.noErr]
end
section
variable {ts ps:List Ti}
theorem min34(a b:Int):bltD .min [.int a,.int b] T=.ok (.int (min a b)) T:=by show Res.ok (D.int (if b<a then b else a)) T=_;congr 2;omega
theorem max34(a b:Int):bltD .max [.int a,.int b] T=.ok (.int (max a b)) T:=by show Res.ok (D.int (if b>a then b else a)) T=_;congr 2;omega
end
section
variable {ts:List Ti}
theorem a8Y':∀(l:Li) (a:Int),a≤l.foldl max a∧(∀x∈l,x≤l.foldl max a)∧(l.foldl max a=a∨l.foldl max a∈l)
 | [],a=>⟨Int.le_refl _,λx h=>(by cases h),.inl rfl⟩
 |b::l,a=>by
  obtain⟨h1,h2,h3⟩:=a8Y' l (max a b);rw[List.foldl_cons];refine⟨by omega,λx hx=>?_,?_⟩
  ·rcases Zo.mp hx with rfl|hx
   ·omega
   ·exact h2 x hx
  ·rcases h3 with h3|h3
   ·by_cases z:a≤b
    ·exact .inr (by rw[h3,show max a b=b by omega];exact Zd)
    ·exact .inl (by rw[h3];omega)
   ·exact .inr (Zb _ h3)
theorem b2p'(h:Som m so)(h1:1≤m):((keptI m so).length:Int)=m+1-so.length:=by
 rw[a6E' h];have e:=List.length_eq_countP_add_countP (λq=>decide (q∈so.tail)) (l:=a0c' 0 m.toNat);rw[a0b']at e
 have e2:(a0c' 0 m.toNat).countP (λq=>decide (q∈so.tail))=so.tail.length:=by
  rw[List.countP_eq_length_filter];refine List.Perm.length_eq ((List.perm_ext_iff_of_nodup (K33.a3E'.filter _) ?_).mpr λx=>?_)
  ·exact(h.ris.imp λh=>by omega:so.Pairwise (· ≠ ·)).tail
  ·rw[List.mem_filter];constructor
   ·exact λz=>by simpa using z.2
   ·intro z;have:=h.on x (List.mem_of_mem_tail z);exact⟨K33.a3F' this.1 (by omega),by simpa using z⟩
 have e3:((a0c' 0 m.toNat).filter λq=> !decide (q∈so.tail)).length=(a0c' 0 m.toNat).countP λq=>¬(decide (q∈so.tail)=true):=by rw[List.countP_eq_length_filter];congr 1;refine List.filter_congr λq _=>?_;simp
 rw[e3];have e4:so.tail.length=so.length-1:=List.length_tail
 have e5:1≤so.length:=by
  cases so with
  |nil=>exact absurd rfl h.ne
  |cons a l=>simp
 have e6:(a0c' 0 m.toNat).countP (λq=>¬(decide (q∈so.tail)=true))=m.toNat-(so.length-1):=by omega
 omega
theorem max_nm(h:Som m so)(h1:1≤m):∃n ns,nmI m so=n::ns∧ns.foldl max n=m-so.length:=by
 have hk:=b2p' h h1;obtain⟨k,hk1⟩:∃k,m.toNat=k+1:=⟨m.toNat-1,by omega⟩;have e:nmI m so=nf so 0::(a0c' 1 k).map (nf so):=by unfold nmI;rw[hk1];rfl
 refine⟨_,_,e,?_⟩;obtain⟨f1,f2,f3⟩:=a8Y' ((a0c' 1 k).map (nf so)) (nf so 0);have up:∀x∈nmI m so,x≤m-so.length:=λx hx=>by obtain⟨p,hp,rfl⟩:=Zq.mp hx;have hp:=a0v' hp;obtain⟨k1,k2⟩:=b0c' h (p:=p) (by omega) (by omega);have:=List.idxOf_lt_length_of_mem k1;omega
 have hpos:0<(keptI m so).length:=by have:=h.few;obtain⟨k1,_⟩:=b0c' h (p:=0) (by omega) (by omega);exact List.length_pos_of_mem k1
 have hlast:∃x∈nmI m so,x=m-so.length:=by
  have hin:(keptI m so)[(keptI m so).length-1]∈keptI m so:=List.getElem_mem _;generalize hx:(keptI m so)[(keptI m so).length-1]=x at hin;have hin0:=hin;rw[a6E' h]at hin0;have hr:=a0v' (List.mem_filter.mp hin0).1;have htl:x∉so.tail:=by simpa using(List.mem_filter.mp hin0).2
  have hto:toH so x=x:=by
   unfold toH;split
   ·rename_i z;cases so with
    |nil=>cases z
    |cons a l=>
     rcases Zo.mp z with rfl|z
     ·rfl
     ·exact absurd z htl
   ·rfl
  obtain⟨k1,k2⟩:=b0c' h (p:=x) (by omega) (by omega);rw[hto]at k2;refine⟨nf so x,Zq.mpr ⟨x,(List.mem_filter.mp hin0).1,rfl⟩,?_⟩;have nd:(keptI m so).Nodup:=by rw[a6E' h];exact K33.a3E'.filter _
  have:(keptI m so).idxOf x=(keptI m so).length-1:=by have q1:=List.getElem_idxOf (List.idxOf_lt_length_of_mem hin);exact(List.getElem_inj nd).mp (q1.trans hx.symm)
  omega
 obtain⟨x,hx,ex⟩:=hlast;rw[e]at hx up
 have g1:x≤((a0c' 1 k).map (nf so)).foldl max (nf so 0):=by
  rcases Zo.mp hx with rfl|hx
  ·exact f1
  ·exact f2 x hx
 have g2:((a0c' 1 k).map (nf so)).foldl max (nf so 0)≤m-so.length:=by
  rcases f3 with f3|f3
  ·rw[f3];exact up _ Zd
  ·exact up _ (Zb _ f3)
 omega
theorem a5U':a8I'=[.asg 2 (.call "new_names" [.var 0,.var 1]),.ret drR]:=rfl
noncomputable def dW(m:Int)(ts:List Ti)(so:Li):D:=.tup [.int (m+1-so.length),.tup (sortT ((tiesD (newL so ts)).map asTup))]
theorem low_dW:lowD 0 (dW m ts so)=true:=by show(lowD 0 (.int (m+1-so.length))&&(lowD 0 (.tup (sortT ((tiesD (newL so ts)).map asTup)))&&true))=true;have:lowD 0 (.tup (sortT ((tiesD (newL so ts)).map asTup)))=true:=a6G' _;rw[this];rfl
theorem b2q'(hS:Flat S)(W:Web m ts)(h:Som m so):a6x' [webD m ts,tupJ so] S=.ok (dW m ts so) S:=by
 have h1:a0B' [webD m ts,tupJ so] S=.ok (tupJ (nmI m so)) S:=a8W' hS W h;have h2:a1B' [tupJ (nmI m so),.tup (tiesD ts)] S=.ok (.tup (sortT ((tiesD (newL so ts)).map asTup))) S:=a5T' (m:=m) (so:=so) hS (λt ht=>by have:=W.tie t ht;omega) W.few;obtain⟨n,ns,e1,e2⟩:=max_nm h W.lo
 have h3:bltD .max [tupJ (nmI m so)] S=.ok (.int (m-so.length)) S:=by
  show a3i' [tupJ (nmI m so)] S=_;unfold a3i' tupJ;have:intsD ((nmI m so).map D.int)=some (n::ns):=by rw[K33.b2n',e1]
  simp only[Py.a2Q',this];rw[e2]
 have h4:opD .Add (.int (m-so.length)) (.int 1) S=.ok (.int (m+1-so.length)) S:=by show Res.ok (D.int (m-so.length+1)) S=_;congr 2;omega
 have hi:idxD (webD m ts) (.int 1) S=.ok (.tup (tiesD ts)) S:=rfl;refine a0D' rfl ?_ rfl hS low_dW;show denSs a4Z' G0 a8I' [some (webD m ts),some (tupJ so),none] S=_;rw[a5U'];unfold drR dW;generalize webD m ts=w at*;generalize tupJ so=d at*;generalize tupJ (nmI m so)=nn at*;generalize D.tup (tiesD ts)=p at*;rw[a1j' (d:=nn) (S':=S) (by simp only[den,denL,Res.bind,Zf,Zg,a2v',h1])];refine a3L' ?_;show denS a4Z' G0 _ [some w,some d,some nn] S=_;simp only[denS,den,denL,Res.bind,Zf,Zg,h3,Res.noErr,h4,a2U',hi,h2]
theorem a5k':a1S'=[.asg 2 (.call "_law_numbers" [.var 0,.var 1]),.dloop 3 (.tup [.var 4,.var 5]) (.seq (.idx (.var 0) (.lit (.int 1)))) [(some shC,shK)],.ret shR]:=rfl
noncomputable def addT(so:Li)(ks:List (Li))(t:Ti):List (Li):=if keepT so t=true then addK ks (two (nt so t))else ks
theorem sh_turn{w d:Option D}{t:Ti}(ht:(0≤t.1∧t.1<m)∧0≤t.2∧t.2<m)(hk:ks.length<63):
  dstep a0d' G0 (.tup [.var 4,.var 5]) [(some shC,shK)] (tieD t) [w,d,some (tupJ (nmI m so)),x3,x4,x5] ks S=.ok ([w,d,some (tupJ (nmI m so)),x3,some (.int t.1),some (.int t.2)],addT so ks t) S:=by
 have i1:=b0f' (m:=m) (so:=so) (S:=S) ht.1.1 ht.1.2;have i2:=b0f' (m:=m) (so:=so) (S:=S) ht.2.1 ht.2.2;have a1:=min34 (T:=S) (nf so t.1) (nf so t.2);have a2:=max34 (T:=S) (nf so t.1) (nf so t.2);have ha:asgCT (.tup [.var 4,.var 5]) (tieD t) [w,d,some (tupJ (nmI m so)),x3,x4,x5]=some [w,d,some (tupJ (nmI m so)),x3,some (.int t.1),some (.int t.2)]:=rfl;unfold dstep;rw[ha];generalize tupJ (nmI m so)=nn at*;have d1:den a0d' G0 (.idx (.var 2) (.var 4)) [w,d,some nn,x3,some (.int t.1),some (.int t.2)] S=.ok (.int (nf so t.1)) S:=a4B' (a0P' (i:=2) rfl) (a0P' (i:=4) rfl) i1;have d2:den a0d' G0 (.idx (.var 2) (.var 5)) [w,d,some nn,x3,some (.int t.1),some (.int t.2)] S=.ok (.int (nf so t.2)) S:=a4B' (a0P' (i:=2) rfl) (a0P' (i:=5) rfl) i2
 have hC:denT a0d' G0 shC [w,d,some nn,x3,some (.int t.1),some (.int t.2)] S=.ok (keepT so t) S:=T_cm d1 d2 (by show boolR ((some (nf so t.1==nf so t.2)).map not) S=_;rw[Bool.beq_eq_decide_eq];rfl);have hK:den a0d' G0 shK [w,d,some nn,x3,some (.int t.1),some (.int t.2)] S=.ok (tieD (nt so t)) S:=by unfold shK;simp only[den,denL,Res.bind,Zg,Zf,i1,i2,Res.noErr,a1,a2];rfl
 have q:hasTy (.seq .int) (tieD (nt so t))=true:=rfl;have q2:asTup (tieD (nt so t))=two (nt so t):=rfl;unfold addT;generalize shC=c at*;generalize shK=e at*;generalize tieD (nt so t)=y at*;cases hk2:keepT so t<;>rw[hk2]at hC<;>simp[putsD,hC,hK,Res.noErr,Res.bind,q,q2,hk]
theorem b0S'{w d:Option D}{x3:Option D}:∀(l:List Ti) (ks:List (Li)) (x4 x5:Option D),(∀t∈l,(0≤t.1∧t.1<m)∧0≤t.2∧t.2<m)→ks.length+l.length<63→∃y4 y5,a2S' (dstep a0d' G0 (.tup [.var 4,.var 5]) [(some shC,shK)]) (tiesD l) [w,d,some (tupJ (nmI m so)),x3,x4,x5] ks S=.ok ([w,d,some (tupJ (nmI m so)),x3,y4,y5],l.foldl (addT so) ks) S
 | [],ks,x4,x5,_,_=>⟨x4,x5,rfl⟩
 |t::l,ks,x4,x5,hp,hl=>by
  rw[Zy]at hl
  have hlen:(addT so ks t).length≤ks.length+1:=by
   unfold addT addK;split
   ·split<;>simp
   ·omega
  obtain⟨y4,y5,e⟩:=b0S' l (addT so ks t) (some (.int t.1)) (some (.int t.2)) (λs hs=>hp s (Zb _ hs)) (by omega);refine⟨y4,y5,?_⟩;show(dstep a0d' G0 _ _ (tieD t) _ ks S).bind _=_;rw[sh_turn (hp t Zd) (by omega)];exact e
theorem a6H':∀(l:List Ti) (ks:List (Li)),l.foldl (addT so) ks=((newL so l).map two).foldl (λacc k=>if acc.contains k=true then acc else acc++[k]) ks
 | [],ks=>rfl
 |t::l,ks=>by
  rw[List.foldl_cons,a6H' l,K33.b0d'];unfold addT addK;split
  ·rw[ZE,List.foldl_cons];congr 1;by_cases z:two (nt so t)∈ks
   ·rw[if_pos z,if_pos (by simpa using z)]
   ·rw[if_neg z,if_neg (by simpa using z)]
  ·rfl
theorem b0g'(hS:Flat S)(W:Web m ts)(h:Som m so):a1h' [webD m ts,tupJ so] S=.ok (dW m ts so) S:=by
 have h1:a0n' [webD m ts,tupJ so] S=.ok (tupJ (nmI m so)) S:=a5j' hS W h;have hf:=W.few;obtain⟨y4,y5,e⟩:=b0S' (S:=S) (m:=m) (so:=so) (w:=some (webD m ts)) (d:=some (tupJ so)) (x3:=none) ts [] none none (λt ht=>by have:=W.tie t ht;omega) (by simp;omega);have e2:ts.foldl (addT so) []=dedT ((newL so ts).map two):=a6H' ts [];rw[e2]at e;have hnd:=a3a' ((newL so ts).map two)
 have hlen:(dedT ((newL so ts).map two)).length≤ts.length:=by have:=hnd.1.length_le_of_subset λk hk=>(hnd.2 k).mp hk;rw[Zj]at this;exact ZS this K33.a8X'
 have hds:dedT (dedT ((newL so ts).map two))=dedT ((newL so ts).map two):=K33.b0R' _ [] hnd.1;have hall:((dedT ((newL so ts).map two)).all λk=> !k.isEmpty)=true:=Zz.mpr λk hk=>by obtain⟨t,_,rfl⟩:=Zq.mp ((hnd.2 k).mp hk);rfl
 have hsd:a7O' (.dks (dedT ((newL so ts).map two))) S=.ok (.lst (sortT ((tiesD (newL so ts)).map asTup))) S:=by
  unfold a7O';dsimp only;rw[if_pos ⟨by omega,hall⟩];have e1:(tiesD (newL so ts)).map asTup=(newL so ts).map two:=by unfold tiesD;rw[ZL];rfl
  rw[e1];unfold sortT;rw[hds]
 have hi0:idxD (webD m ts) (.int 0) S=.ok (.int m) S:=rfl;have hi1:den a0d' G0 (.idx (.var 0) (.lit (.int 1))) [some (webD m ts),some (tupJ so),some (tupJ (nmI m so)),none,none,none] S=.ok (.tup (tiesD ts)) S:=a4B' (a0P' (i:=0) rfl) a5P' rfl;have hit:denI a0d' G0 (.seq (.idx (.var 0) (.lit (.int 1)))) [some (webD m ts),some (tupJ so),some (tupJ (nmI m so)),none,none,none] S=.ok (.items (tiesD ts)) S:=seq_of hi1 rfl;have hln:lenD [tupJ so] S=.ok (.int (so.length:Nat)) S:=K33.len51 so;have ha:opD .Add (.int m) (.int 1) S=.ok (.int (m+1)) S:=rfl;have hs:opD .Sub (.int (m+1)) (.int (so.length:Nat)) S=.ok (.int (m+1-so.length)) S:=rfl;have htu:a3H' [.lst (sortT ((tiesD (newL so ts)).map asTup))] S=.ok (.tup (sortT ((tiesD (newL so ts)).map asTup))) S:=rfl;refine a0D' rfl ?_ rfl hS low_dW;show denSs a0d' G0 a1S' [some (webD m ts),some (tupJ so),none,none,none,none] S=_;rw[a5k'];unfold shR dW;generalize webD m ts=w at*;generalize tupJ so=d at*;generalize tupJ (nmI m so)=nn at*;generalize dedT ((newL so ts).map two)=ks at*;generalize sortT ((tiesD (newL so ts)).map asTup)=r at*;rw[a1j' (d:=nn) (S':=S) (by simp only[den,denL,Res.bind,Zf,Zg,a1d',h1])];show denSs a0d' G0 _ [some w,some d,some nn,none,none,none] S=_
 rw[a0F' (ρ':=[some w,some d,some nn,some (.dks ks),y4,y5]) (S':=S) (by have hit':denI a0d' G0 (.seq (.idx (.var 0) (.lit (.int 1)))) ([some w,some d,some nn,none,none,none].set 3 none) S=.ok (.items (tiesD ts)) S:=hit;have e':a2S' (dstep a0d' G0 (.tup [.var 4,.var 5]) [(some shC,shK)]) (tiesD ts) ([some w,some d,some nn,none,none,none].set 3 none) [] S=.ok ([some w,some d,some nn,none,y4,y5],ks) S:=e;rw[denS,hit'];simp only[Res.noErr,Res.bind,e'];rfl)];refine a3L' ?_;simp only[denS,den,denL,Res.bind,Zf,Zg,hi0,Res.noErr,ha,bltD,hln,hs,hsd,htu]
end
section
variable {ts ps:List Ti}
variable {x0 x1 x6 x7 x8 x9 x10:Option D}
end
theorem b2r':a0N'=K33.a0N':=rfl
theorem x33_web:a1J'=K33.a1J':=rfl
theorem b2s':a0C'=K33.a0C':=rfl
theorem a5l':∀n,a0e' n=K33.a0e' n
 |0=>rfl
 |n+1=>by show runD (tbl [("_law_same",a0e' n)]) G0 a0T' a2l'.length 2=runD (tbl [("_law_same",K33.a0e' n)]) K33.G0 K33.a0T' K33.a2l'.length 2;rw[a5l' n]<;>rfl
theorem a8Z':a1b'=K33.a0e' 6:=a5l' 6
section
variable {ts:List Ti}
theorem a4e'(hS:Flat S)(n:Nat)(l:Li)(hl:l.length≤1000):K33.a0e' (n+2) [tupJ l,tupJ l] S=.ok (.bl true) S:=K33.a5O' hS (by rw[Zj];exact hl) λz hz=>by obtain⟨i,_,rfl⟩:=Zq.mp hz;exact K33.a8S' hS n i
theorem same_dW(hS:Flat S)(W:Web m ts):a1b' [dW m ts so,dW m ts so] S=.ok (.bl true) S:=by
 rw[a8Z'];have hf:=W.few;refine K33.a5O' (n:=5) hS (by simp) λz hz=>?_;simp only[Zo,ZO,or_false]at hz;rcases hz with rfl|rfl
 ·exact K33.a8S' hS 4 _
 ·refine K33.a5O' (n:=4) hS ?_ λz hz=>?_
  ·unfold sortT;rw[(a1a' _ _).length_eq,Zj];have h1:=a3a' ((tiesD (newL so ts)).map asTup);have h2:=h1.1.length_le_of_subset λk hk=>(h1.2 k).mp hk;rw[Zj]at h2;have h3:(tiesD (newL so ts)).length=(newL so ts).length:=Zj _;have:=K33.a8X' (so:=so) (ps:=ts);omega
  ·have:=(a1a' _ _).mem_iff.mp hz;obtain⟨k,hk,rfl⟩:=Zq.mp this;refine a4e' hS 2 k ?_;have h1:=(a3a' ((tiesD (newL so ts)).map asTup)).2 k;obtain⟨d,hd,rfl⟩:=Zq.mp (h1.mp hk);obtain⟨t,_,rfl⟩:=Zq.mp hd;exact Nat.le_of_ble_eq_true rfl
theorem a5V':a2w'=[.for_ (.var 2) (.range [.lit (.int 2)]) r33B,.ret (.lit (.bl true))]:=rfl
theorem a9a'(hS:Flat S)(W:Web m ts)(h:Som m so):a1K' [webD m ts,tupJ so] S=.ok (.bl true) S:=by
 have w8:=W.hi;have e1:a0B' [webD m ts,tupJ so] S=.ok (tupJ (nmI m so)) S:=a8W' hS W h;have e2:a0n' [webD m ts,tupJ so] S=.ok (tupJ (nmI m so)) S:=a5j' hS W h;have e3:=b2q' hS W h;have e4:=b0g' hS W h
 have e5:a1b' [tupJ (nmI m so),tupJ (nmI m so)] S=.ok (.bl true) S:=by rw[a8Z'];exact a4e' hS 4 _ (by unfold nmI;rw[Zj,K33.a0b'];omega)
 have e6:=same_dW (so:=so) hS W;refine a0D' rfl ?_ rfl hS rfl;show denSs a0i' G0 a2w' [some (webD m ts),some (tupJ so),none] S=_;rw[a5V'];generalize webD m ts=w at*;generalize tupJ so=d at*;generalize tupJ (nmI m so)=nn at*;generalize dW m ts so=v at*
 have turn:∀x:Option D,denSs a0i' G0 r33B [some w,some d,x] S=.ok (.next [some w,some d,x]) S:=λx=>by
  unfold r33B;have a1:denT a0i' G0 (.call "_law_same" [.call "new_names" [.var 0,.var 1],.call "_law_numbers" [.var 0,.var 1]]) [some w,some d,x] S=.ok true S:=by simp only[denT,den,denL,Res.bind,Zf,Zg,a0R',a1E',a1i',e1,e2,e5,truD]
  have a2:denT a0i' G0 (.call "_law_same" [.call "drawn" [.var 0,.var 1],.call "_law_shrunk" [.var 0,.var 1]]) [some w,some d,x] S=.ok true S:=by simp only[denT,den,denL,Res.bind,Zf,Zg,a0R',a2x',a1o',e3,e4,e6,truD]
  exact(b0a' (T_not a1)).trans ((b0a' (T_not a2)).trans rfl)
 have hr:denI a0i' G0 (.range [.lit (.int 2)]) [some w,some d,none] S=.ok (.items [.int 0,.int 1]) S:=rng34 (m:=2) a5P' (by decide) (by decide);refine(a0F' (ρ':=[some w,some d,some (.int 1)]) (S':=S) ?_).trans rfl;rw[a7f' hr];simp only[forI];rw[forD];show Res.bind (denSs a0i' G0 r33B [some w,some d,some (.int 0)] S) _=_;rw[turn];simp only[Res.bind];rw[forD];show Res.bind (denSs a0i' G0 r33B [some w,some d,some (.int 1)] S) _=_;rw[turn];rfl
variable {x0 x1:Option D}
theorem a9b':c_law=[.ite l33A [.ret (.lit (.bl false))] [],.for_ (.var 1) l33C l33B,.ret (.lit (.bl true))]:=rfl
theorem first33(hS:Flat S):denT t_law G0 l33A ρ S=.ok false S:=by
 have r1:=a9a' hS (m:=1) (ts:=[]) (so:=[0]) ⟨by decide,by decide,.nil,λt h=>(by cases h),by decide⟩ ⟨by decide,by decide,by decide,by decide⟩;have r2:=a9a' hS (m:=4) (ts:=[(0,1),(0,3),(1,2),(2,3)]) (so:=[1,3]) ⟨by decide,by decide,by decide,by decide,by decide⟩ ⟨by decide,by decide,by decide,by decide⟩;have a1:den t_law G0 l33a ρ S=.ok (webD 1 []) S:=by simp only[l33a,den,denL,Res.bind];rfl
 have a2:den t_law G0 l33b ρ S=.ok (webD 4 [(0,1),(0,3),(1,2),(2,3)]) S:=by simp only[l33b,den,denL,Res.bind];rfl
 have b1:den t_law G0 (.tup [.lit (.int 0)]) ρ S=.ok (tupJ [0]) S:=by simp only[den,denL,Res.bind];rfl
 have b2:den t_law G0 (.tup [.lit (.int 1),.lit (.int 3)]) ρ S=.ok (tupJ [1,3]) S:=by simp only[den,denL,Res.bind];rfl
 exact T_or (x:=false) (y:=false) (T_not (K33.T_call (k:=true) a0U' a1 b1 r1)) (T_not (K33.T_call (k:=true) a0U' a2 b2 r2))
theorem mask33(hS:Flat S)(W:Web m ts)(c:Int):∃A:Li,(∀k∈A,1≤k∧k<2^m.toNat)∧A.length=6∧den t_law G0 l33M [x0,some (.int c),x2,some (.int m),x4,x5] S=.ok (.lst (A.map D.int)) S:=by
 have h0:=W.lo;have hp:=K33.pow51 W.lo W.hi;have s1:=K33.b2k' (S:=S) (x:=m) (by omega) W.hi;refine⟨(a0c' 0 6).map λj=>1+stirV c (10+j)%(2^m.toNat-1),λk hk=>?_,by rw[Zj,K33.a0b'],?_⟩
 ·obtain⟨j,_,rfl⟩:=Zq.mp hk;have a1:=Int.emod_nonneg (stirV c (10+j)) (show(2^m.toNat-1:Int)≠0 by omega);have a2:=Int.emod_lt_of_pos (stirV c (10+j)) (show(0:Int)<2^m.toNat-1 by omega);omega
 ·rw[ZL];refine K33.compAt (rs:=λj=>[some (.int j),some (.int c),some (.int m)]) (h:=D.int) (f:=λj=>D.int (1+stirV c (10+j)%(2^m.toNat-1))) (rng34 (m:=6) a5P' (by decide) (by decide)) rfl (λ_ _=>rfl) (by decide) λj _=>?_;have e1:=K33.b0M' hS c (10+j);rw[←b2r']at e1;have e2:=o_mod (S:=S) (x:=stirV c (10+j)) (y:=2^m.toNat-1) (by omega);unfold l33K;simp only[den,denL,Res.bind,Zf,Zg,o_add,Res.noErr,a3I',e1,s1,o_sub,e2]
theorem masks33(W:Web m ts){A:Li}(hA:∀k∈A,1≤k∧k<2^m.toNat)(hA8:A.length=6):∃M:Li,(∀k∈M,1≤k∧k<2^m.toNat)∧denI t_law G0 l33I [x0,x1,x2,some (.int m),some (.lst (A.map D.int)),x5] S=.ok (.items (M.map D.int)) S:=by
 have h0:=W.lo;have h8:=W.hi;have hp:=K33.pow51 W.lo W.hi;have s1:=K33.b2k' (S:=S) (x:=m) (by omega) W.hi;have s2:=K33.b2k' (S:=S) (x:=m-1) (by omega) (by omega)
 have hlow:(1:Int)≤2^(m-1).toNat∧(2:Int)^(m-1).toNat<2^m.toNat:=by rcases K33.eight h0 h8 with rfl|rfl|rfl|rfl|rfl|rfl|rfl|rfl<;>decide
 refine⟨A++[2^m.toNat-1,2^(m-1).toNat,1],λk hk=>?_,?_⟩
 ·rcases ZX.mp hk with hk|hk
  ·exact hA k hk
  ·simp only[Zo,ZO,or_false]at hk;rcases hk with rfl|rfl|rfl<;>omega
 ·have q1:opD .Add (.lst (A.map D.int)) (.lst [.int (2^m.toNat-1),.int (2^(m-1).toNat),.int 1]) S=.ok (.lst (A.map D.int++[.int (2^m.toNat-1),.int (2^(m-1).toNat),.int 1])) S:=K33.add_lst (by simp;omega);have q3:(A++[2^m.toNat-1,2^(m-1).toNat,1]).map D.int=A.map D.int++[.int (2^m.toNat-1),.int (2^(m-1).toNat),.int 1]:=by simp
  rw[q3];unfold l33I;generalize A.map D.int=a at*;simp only[denI,den,denL,Res.bind,Zf,Zg,s1,s2,Res.noErr,o_sub,q1,a3Q',Zr,Z0]
theorem body33(hS:Flat S)(c:Int):∃y2 y3 y4 y5,denSs t_law G0 l33B [x0,some (.int c),x2,x3,x4,x5] S=.ok (.next [x0,some (.int c),y2,y3,y4,y5]) S:=by
 obtain⟨m,ts,W,ew⟩:=K33.web_eq hS c;rw[←x33_web]at ew;obtain⟨A,hA,hA8,eA⟩:=mask33 (x0:=x0) (x2:=some (webD m ts)) (x4:=x4) (x5:=x5) hS W c;obtain⟨M,hM,eM⟩:=masks33 (S:=S) (x0:=x0) (x1:=some (.int c)) (x2:=some (webD m ts)) (x5:=x5) W hA hA8;have hi:idxD (webD m ts) (.int 0) S=.ok (.int m) S:=rfl
 obtain⟨ρ',S',⟨y5,rfl,rfl⟩,ef⟩:=a5N' (step:=λx ρ S=>match asgCT (.var 5) x ρ with
   |some ρ'=>denSs t_law G0 l33L ρ' S
   |none=>.fail) (λρ U=>∃x5,ρ=[x0,some (.int c),some (webD m ts),some (.int m),some (.lst (A.map D.int)),x5]∧U=S) (M.map D.int) (by rintro d hd ρ U ⟨x5,rfl,rfl⟩;obtain⟨k,hk,rfl⟩:=Zq.mp hd;obtain⟨a1,a2,a3,a4⟩:=mask_ok W.lo W.hi (hM k hk).1 (hM k hk).2;have e1:a1C' [.int m,.int k] U=.ok (tupJ (a2C' m k)) U:=K33.lsome51 hS W.lo W.hi k;have e2:=a9a' hS W (so:=a2C' m k) ⟨a1,a2,a3,a4⟩;refine⟨_,_,⟨some (.int k),rfl,rfl⟩,?_⟩;show denSs t_law G0 l33L [x0,some (.int c),some (webD m ts),some (.int m),some (.lst (A.map D.int)),some (.int k)] U=_;unfold l33L;refine(b0a' (T_not (k:=true) ?_)).trans rfl;generalize webD m ts=w at*;generalize tupJ (a2C' m k)=d at*;simp only[denT,den,denL,Res.bind,Zf,Zg,a0U',a3J',e1,e2,truD]) [x0,some (.int c),some (webD m ts),some (.int m),some (.lst (A.map D.int)),x5] S ⟨_,rfl,rfl⟩
 refine⟨some (webD m ts),some (.int m),some (.lst (A.map D.int)),y5,?_⟩;unfold l33B;generalize webD m ts=w at*;generalize D.lst (A.map D.int)=a at*;rw[a1j' (d:=w) (S':=S') (by simp only[den,denL,Res.bind,Zf,Zg,a4x',ew])];show denSs t_law G0 _ [x0,some (.int c),some w,x3,x4,x5] S'=_;rw[a1j' (d:=.int m) (S':=S') (by simp only[den,Res.bind,Zf,Zg,hi,Res.noErr])];show denSs t_law G0 _ [x0,some (.int c),some w,some (.int m),x4,x5] S'=_;rw[a1j' eA];show denSs t_law G0 _ [x0,some (.int c),some w,some (.int m),some a,x5] S'=_;refine(a0F' (ρ':=[x0,some (.int c),some w,some (.int m),some a,y5]) (S':=S') ?_).trans rfl;rw[a7f' eM];exact ef
theorem cells33(hS:Flat S)(hl:ns.length≤63){x:List (Option D)}:∃cs:Li,denI t_law G0 l33C (some (.scr (ns.map D.int))::x) S=.ok (.items (cs.map D.int)) S:=by
 obtain⟨c,ec⟩:=K33.cell_eq hS ns;rw[←b2s']at ec;obtain⟨cs,hc,hcl⟩:∃cs:Li,cutL (ns.map D.int) (some 1) (some 5)=cs.map D.int∧cs.length≤63:=by refine⟨(ns.drop _).take _,by unfold cutL;rw[←List.map_drop,←List.map_take],?_⟩;simp;omega
 refine⟨c::cs,?_⟩;have h1:slD (.scr (ns.map D.int)) (some 1) (some 5) S=.ok (.lst (cs.map D.int)) S:=by rw[←hc];rfl
 have h2:addD (.lst [.int c]) (.lst (cs.map D.int)) S=.ok (.lst ([.int c]++cs.map D.int)) S:=by show(if 1+(cs.map D.int).length≤big then Res.ok (D.lst ([.int c]++cs.map D.int)) S else .fail)=_;rw[if_pos (by unfold big;simp;omega)]
 simp[l33C,denI,den,denL,Res.bind,Res.noErr,a2y',ec,optL,toOpt,h1,opD,h2,a3Q']
end
theorem good(ns:Li)(hl:ns.length≤63):∃S',f_law [.scr (ns.map D.int)] []=.ok (.bl true) S':=by
 obtain⟨cs,hcs⟩:=cells33 (S:=[]) Flat.nil hl (x:=[none,none,none,none,none])
 obtain⟨ρ',S',⟨_,rfl,rfl⟩,hf⟩:=a5N' (step:=λx ρ S=>match asgCT (.var 1) x ρ with
   |some ρ'=>denSs t_law G0 l33B ρ' S
   |none=>.fail) (λρ S=>∃x:Option D×Option D×Option D×Option D×Option D,ρ=[some (.scr (ns.map D.int)),x.1,x.2.1,x.2.2.1,x.2.2.2.1,x.2.2.2.2]∧S=[]) (cs.map D.int) (by rintro d hd ρ S ⟨x,rfl,rfl⟩;obtain⟨c,_,rfl⟩:=Zq.mp hd;obtain⟨z2,z3,z4,z5,e⟩:=body33 (S:=[]) Flat.nil c (x0:=some (.scr (ns.map D.int))) (x2:=x.2.1) (x3:=x.2.2.1) (x4:=x.2.2.2.1) (x5:=x.2.2.2.2);exact⟨_,_,⟨(some (.int c),z2,z3,z4,z5),rfl,rfl⟩,e⟩) [some (.scr (ns.map D.int)),none,none,none,none,none] [] ⟨(none,none,none,none,none),rfl,rfl⟩
 refine⟨[],a0D' rfl ?_ rfl Flat.nil rfl⟩;show denSs t_law G0 c_law [some (.scr (ns.map D.int)),none,none,none,none,none] []=_;rw[a9b'];refine(b0a' (first33 Flat.nil)).trans ?_;have h9:=(a7f' (t:=.var 1) (body:=l33B) hcs).trans hf;exact(a0F' h9).trans rfl
end K33
section
namespace K33
theorem walk{l:PySem.W.OpenLaw}{d:DefRec}{K:Params→Fg}(hn:l.most=some 63)(hdf:d.params.defaults=[])
  (hY:∀(w:World) (h:Heap),YP w h→(K w.params).In h)
  (F:∀(w:World) (mg:Mg) (fa:Addr) (h:Heap),(K w.params).In h→h.Ns mainGlobals mg→mg d.name=some (.ref fa)→
   ∃fd:FuncData,(∀(s:Shared) (u:Value),BindsTo s fd ⟨[u],[]⟩ [("_law_script",u)])∧∀base:Heap,(K w.params).In base→base.Ns mainGlobals mg→FnOk l.prog w (K w.params) mg base (CX1 l.prog w) 11 fa fd ["_law_script"] (spLaw (K w.params))):
  PySem.W.WalkO q loose XP YP l.row.toRowW d [] (λf vs=>PySem.call f vs):=
 L2.walk_of (n:=63) (k:=11) (x:="_law_script") (CX:=λw=>CX1 l.prog w) (sp:=λw=>spLaw (K w.params)) hn (by decide) hdf ⟨rfl,by decide,by decide,rfl⟩ hY F (λ_ _ a ns hl hO hS=>⟨a,ns,rfl,hO,hS,hl,λ_=>rfl⟩) λ_ _ _ _ _ z=>cx1_0 _ _ _ _ _ z
end K33
namespace PySem.W.Fast
def tw8090666188562324974:=Nat
def tw16449211993839025504:=Nat
def tw11776348305555856063:=Nat
def tw1692848151261063781:=Nat
def tw4880183937090771621:=Nat
def tw16615029066710482125:=Nat
def tw1161361229538112506:=Nat
def tw15833201531433931680:=Nat
def tw13511506233873811871:=Nat
def tw18400469841508285438:=Nat
def tw7091128715214530855:=Nat
def tw18359291174673026395:=Nat
def tw18293275167717364024:=Nat
def tw11977644932543858368:=Nat
def tw8708157279110757605:=Nat
def tw5805848219581184714:=Nat
def tw11144076443622947874:=Nat
def tw16632896599448523279:=Nat
def tw12209589013708159577:=Nat
def tw10952577076836961644:=Nat
def tw10371730950136414818:=Nat
def tw6379029241049905173:=Nat
def tw8533787583703896585:=Nat
def tw13987801304134607535:=Nat
def tw9062666877325394391:=Nat
def tw7928289679961490251:=Nat
def tw8740656099255206531:=Nat
def tw12515419623894453513:=Nat
def tw766193171997142521:=Nat
def tw17505688987887316055:=Nat
def tw2160681500925210950:=Nat
def tw9915549312101786093:=Nat
def tw15222751780823914210:=Nat
def tw5876864364735859295:=Nat
def tw6876560915942001037:=Nat
def tw18258341235650077734:=Nat
def tw4166132887490518275:=Nat
def tw12985583504778206170:=Nat
def tw5006418780501086205:=Nat
def tw5499103778345851322:=Nat
def tw17782588003574045060:=Nat
def tw12683533115398160927:=Nat
def tw551802349193324005:=Nat
def tw4946895316530329532:=Nat
def tw13384419259132237958:=Nat
end PySem.W.Fast
open PySem PySem.W PyProof.Rows
set_option maxRecDepth 100000 in
set_option maxHeartbeats 0 in
theorem PySem.Challenge.cw_pairwebs_k33_places_drawn_together_holds : PySem.Challenge.rw_pairwebs_k33_places_drawn_together.Holds := by
 w_on;o_law;k_head;(case hw=>w_witness2)
 k_fill
 refine K33.walk (l:=PySem.Challenge.rw_pairwebs_k33_places_drawn_together) rfl rfl (λw h Y=>PySem.W.kIn_of Y) ?F
 case F=>
  intro w mg fa h KX G hmg
  refine' K33.all_mk KX G hmg K33.good ⟨K33.dm ?_ ?_ ?_ ?_,K33.dm ?_ ?_ ?_ ?_,K33.dm ?_ ?_ ?_ ?_,K33.dm ?_ ?_ ?_ ?_,K33.dm ?_ ?_ ?_ ?_,K33.dm ?_ ?_ ?_ ?_,K33.dm ?_ ?_ ?_ ?_,K33.dm ?_ ?_ ?_ ?_,K33.dm ?_ ?_ ?_ ?_,K33.dm ?_ ?_ ?_ ?_,K33.dm ?_ ?_ ?_ ?_,K33.dm ?_ ?_ ?_ ?_,K33.dm ?_ ?_ ?_ ?_,K33.dm ?_ ?_ ?_ ?_,K33.dm ?_ ?_ ?_ ?_,K33.dm ?_ ?_ ?_ ?_,K33.dm ?_ ?_ ?_ ?_,K33.dm ?_ ?_ ?_ ?_,K33.dm ?_ ?_ ?_ ?_,K33.dm ?_ ?_ ?_ ?_,K33.dm ?_ ?_ ?_ ?_,K33.dm ?_ ?_ ?_ ?_,K33.dm ?_ ?_ ?_ ?_,K33.dm ?_ ?_ ?_ ?_⟩ ?Z ?_ ?R
  case R=>kernel_rfl
  case Z=>intro x hx;simp only[Py.a1s',Zo,List.mem_nil_iff,or_false]at hx;rcases hx with rfl|rfl|rfl|rfl|rfl|rfl|rfl|rfl|rfl|rfl|rfl|rfl|rfl|rfl|rfl|rfl|rfl|rfl|rfl|rfl|rfl<;>k_is
  all_goals first|k_is|skip
end
