import PyProof.Rows.All
import Wide.All
import OpenK.AllK
import Wide.FinOn
import Lean
import PyProof.EqAt
import PyProof.EqKinds
import PyProof.TupleCall
import PyProof.ListMulAny
import PyProof.FactsAll.tuple
import KE.IntBitsLaws
import PyProof.NeKinds
import PyProof.FactsAll.tuple_2
import PyProof.SumWalkG
import PyProof.MinMaxWalk
import PyProof.Rows.SeqMore
import KE.KRevIter
import PyProof.FactsAll.range_2
import PyProof.EnumFor
import PyProof.TupleOfGen
import PyProof.ListRange
import PyProof.Rows.SetFrom
import PyProof.WalksMore
import PyProof.FactsAll.subtypes_4
import PyProof.RangeFor
import PyProof.Rows.SortRuns
import KE.KSortAsk
import KE.KSortTup
import PySem.Challenge.RW_pairwebs_k15_whole_pairings
noncomputable section
set_option genSizeOfSpec false
set_option Elab.async false
set_option linter.all false
set_option maxRecDepth 100000
set_option maxHeartbeats 16000000
section
namespace L2
open PySem PySem.Spec PyProof.Rows
abbrev Key:=Sum Int Str
def keyIs:Key→Value→Bool
 | .inl k,v=>Value.isInt k v
 | .inr x,v=>Value.isStrOf x v
def keyH (w:World):Key→Int
 | .inl k=>hashInt k
 | .inr x=>hashStr w x
theorem a0B':∀{k:Key} {v:Value},keyIs k v=true→(∃i t,k=Sum.inl i∧v=Value.int i t)∨(∃x t,k=Sum.inr x∧v=Value.str x t)
 | .inl i,v,h=>by
  obtain⟨t,e⟩:=Value.isInt_shape (k:=i) (v:=v) h
  exact .inl ⟨i,t,rfl,e⟩
 | .inr x,v,h=>by
  obtain⟨t,e⟩:=Value.isStrOf_shape (x:=x) (v:=v) h
  exact .inr ⟨x,t,rfl,e⟩
theorem key_ll (a b:Int):decide ((Sum.inl a:Key)=Sum.inl b)=(a==b):=by
 by_cases e:a=b
 ·subst e;simp
 ·have h:¬(Sum.inl a:Key)=Sum.inl b:=fun q=>e (Sum.inl.inj q)
  rw[decide_eq_false h]
  exact(beq_eq_false_iff_ne.mpr e).symm
theorem key_rr (a b:Str):decide ((Sum.inr a:Key)=Sum.inr b)=decide (a=b):=by
 by_cases e:a=b
 ·subst e;simp
 ·have h:¬(Sum.inr a:Key)=Sum.inr b:=fun q=>e (Sum.inr.inj q)
  rw[decide_eq_false h,decide_eq_false e]
theorem key_lr (a:Int)(b:Str):decide ((Sum.inl a:Key)=Sum.inr b)=false:=decide_eq_false (fun q=>nomatch q)
theorem key_rl (a:Str)(b:Int):decide ((Sum.inr a:Key)=Sum.inl b)=false:=decide_eq_false (fun q=>nomatch q)
def a9x' (prog:Program)(w:World):PySem.KeyKind prog w Key where
 is:=keyIs
 hash:=keyH w
 inj:=fun v a b ha hb=>by
  rcases a0B' ha with⟨i,t,rfl,rfl⟩| ⟨x,t,rfl,rfl⟩
  ·rcases a0B' hb with⟨j,u,rfl,e⟩| ⟨y,u,rfl,e⟩
   ·injection e with e1 _;rw[e1]
   ·exact nomatch e
  ·rcases a0B' hb with⟨j,u,rfl,e⟩| ⟨y,u,rfl,e⟩
   ·exact nomatch e
   ·injection e with e1 _;rw[e1]
 byValue:=fun k v h=>by
  rcases a0B' h with⟨i,t,rfl,rfl⟩| ⟨x,t,rfl,rfl⟩<;>rfl
 pyHash:=fun hv h=>by
  rcases a0B' hv with⟨i,t,rfl,rfl⟩| ⟨x,t,rfl,rfl⟩
  ·exact wpAny_pyHash_int h
  ·exact wpAny_pyHash_str h
 eqBool:=fun hu hv h=>by
  rcases a0B' hu with⟨i,t,rfl,rfl⟩| ⟨x,t,rfl,rfl⟩
  ·rcases a0B' hv with⟨j,u,rfl,rfl⟩| ⟨y,u,rfl,rfl⟩
   ·rw[key_ll]at h;exact wpAny_eqBool_int h
   ·rw[key_lr]at h;exact SeqAt.EqAt.int_str i t y u _ _ _ _ h
  ·rcases a0B' hv with⟨j,u,rfl,rfl⟩| ⟨y,u,rfl,rfl⟩
   ·rw[key_rl]at h;exact SeqAt.EqAt.str_int x t j u _ _ _ _ h
   ·rw[key_rr]at h;exact wpAny_eqBool_str h
 «strs»:=fun k x t v h=>by
  rcases a0B' h with⟨i,u,rfl,e⟩| ⟨y,u,rfl,e⟩
  ·exact nomatch e
  ·injection e with e1 _
   subst e1
   cases v<;>rfl
end L2
namespace L2
open PySem PySem.Spec PyProof.Rows
inductive V where
 |non|bl (b:Bool)|int (i:Int)|str (x:Str)|byt (b:Array UInt8)|flt (b:UInt64)|ref (a:Addr)|ty (n:String)
 deriving DecidableEq
def RelV:V→Value→Prop
 | .non,u=>u=Value.none
 | .bl b,u=>u=Value.bool b
 | .int i,u=>∃t,u=Value.int i t
 | .str x,u=>∃t,u=Value.str x t
 | .byt b,u=>∃t,u=Value.bytes b t
 | .flt b,u=>∃t,u=Value.float b t
 | .ref a,u=>u=Value.ref a
 | .ty n,u=>u=Value.type n
abbrev Vals:List V→List Value→Prop:=Paired RelV
theorem Vals.length {xs:List V}{us:List Value}(r:Vals xs us):xs.length=us.length:=Paired.length r
theorem Vals.get:∀{xs:List V} {us:List Value} {i:Nat} {x:V},Vals xs us→xs[i]? =some x→∃u,us[i]? =some u∧RelV x u
 |_,_,_,_,.nil,e=>by simp at e
 |_,_,0,_,.cons r _,e=>by simp at e;subst e;exact⟨_,rfl,r⟩
 |_,_,i+1,x,.cons _ t,e=>by
  obtain⟨u,h1,h2⟩:=Vals.get (i:=i) (x:=x) t (by simpa using e)
  exact⟨u,by simpa using h1,h2⟩
theorem Vals.set {x:V}{u:Value}(r:RelV x u):∀{xs:List V} {us:List Value} (i:Nat),Vals xs us→Vals (xs.set i x) (us.set i u)
 |_,_,_,.nil=>.nil
 |_,_,0,.cons _ t=>.cons r t
 |_,_,i+1,.cons q t=>.cons q (Vals.set r i t)
theorem Vals.append:∀{xs ys:List V} {us ws:List Value},Vals xs us→Vals ys ws→Vals (xs++ys) (us++ws)
 |_,_,_,_,.nil,s=>s
 |_,_,_,_,.cons r t,s=>.cons r (Vals.append t s)
theorem Vals.take:∀{xs:List V} {us:List Value} (n:Nat),Vals xs us→Vals (xs.take n) (us.take n)
 |_,_,0,_=>.nil
 |_,_,_+1,.nil=>.nil
 |_,_,n+1,.cons r t=>.cons r (Vals.take n t)
theorem Vals.drop:∀{xs:List V} {us:List Value} (n:Nat),Vals xs us→Vals (xs.drop n) (us.drop n)
 |_,_,0,r=>r
 |_,_,_+1,.nil=>.nil
 |_,_,n+1,.cons _ t=>Vals.drop n t
def RelO:Option V→Option Value→Prop
 |some v,some u=>RelV v u
 |none,none=>True
 |_,_=>False
def KV {κ:Type}:List (κ×V)→List (κ×Value)→Prop:=Paired fun(p:κ×V) (q:κ×Value)=>p.1=q.1∧RelV p.2 q.2
def kV:Key→V
 | .inl i=>.int i
 | .inr x=>.str x
inductive HO where
 |lst (xs:List V)
 |tup (xs:List V)
 |dK (kvs:List (Key×V))|dT (kvs:List (List Key×V))
 |set (S:Int→Bool) (n:Nat)
 |ins (C dx:Addr) (fs:List (Str×V))
 |own (x:Addr)
 |xd (fs:List (Str×V))
 |met (f x:Addr)
 |rng (lo hi:Int)
 |frz (o:Obj) (u:HO)
 |tbl (ps:Array Value)
 |ext (φ:Heap→Prop)
abbrev Hp:=Addr→Option HO
def upd (H:Hp)(a:Addr)(o:HO):Hp:=fun b=>if b=a then some o else H b
theorem a0I' {H:Hp}{a:Addr}{o:HO}:upd H a o a=some o:=by unfold upd;rw[if_pos rfl]
theorem a0t' {H:Hp}{a b:Addr}{o:HO}(h:b≠a):upd H a o b=H b:=by unfold upd;rw[if_neg h]
theorem a0i' {H:Hp}{a b:Addr}{o:HO}(h:H a=some o)(h':H b=none):a≠b:=by
 intro e;subst e;rw[h]at h';cases h'
section
variable (P:Program)(w:World)
def ObjOk (H:Hp)(h:Heap)(a:Addr):HO→Prop
 | .lst xs=>xs.length≤sizeLine∧∃(its:List Value) (n:Nat),Vals xs its∧h.get? a=some {cls:=.type "list",data:=.seq its.toArray n}
 | .tup xs=>xs.length≤sizeLine∧∃its:List Value,Vals xs its∧IsTup h a its.toArray
 | .dK kvs=>kvs.length≤sizeLine∧(a==sysModules)=false∧∃vs,KV kvs vs∧h.DictOf (a9x' P w) a vs
 | .dT kvs=>kvs.length≤sizeLine∧(a==sysModules)=false∧∃xs:List (List Key×Addr×Value),
   Paired (fun(p:List Key×V) (q:List Key×Addr×Value)=>p.1=q.1∧H q.2.1=some (.tup (p.1.map kV))∧RelV p.2 q.2.2) kvs xs∧
   ∃o es ep,h.get? a=some o∧o.ExactDict∧o.data=.dict es ep∧es.toList=xs.map (entryOfKey (tupleKind (a9x' P w)))∧(xs.map (·.1)).Nodup
 | .set S n=>h.SetOf (intKind P w) a S n
 | .ins C dx fs=>H dx=some (.own a)∧fs.length≤1000∧dx≠a∧h.get? a=some (PySem.W.instObj C dx)∧
   ∃mA,h.Ns1 dx mA∧(∀f,RelO (fs.lookup f) (mA f))∧PySem.Within mA (fs.map (·.1))
 | .own _=>∃o,h.get? a=some o
 | .xd fs=>∃mA,h.Ns1 a mA∧∀f,RelO (fs.lookup f) (mA f)
 | .rng lo hi=>∃t u v,h.get? a=some {cls:=.type "range",data:=.fields #[.int lo t,.int hi u,.int 1 v]}
 | .frz o u=>h.get? a=some o∧ObjOk H h a u
 | .tbl ps=>h.get? a=some {cls:=.none,data:=.fields ps}
 | .met f x=>h.get? a=some (PySem.W.methodObj (.ref f) (.ref x))
 | .ext φ=>φ h∧(∃o,h.get? a=some o)∧∀h1 h2:Heap,φ h1→(∀o,h1.get? a=some o→h2.get? a=some o)→φ h2
def HOk (H:Hp)(h:Heap):Prop:=∀a o,H a=some o→ObjOk P w H h a o
end
section
variable {P:Program}{w:World}{H H':Hp}{h h':Heap}{a:Addr}{o:HO}
theorem ObjOk.lt (x:ObjOk P w H h a o):a<h.objs.size:=by
 cases o with
 |lst xs=>obtain⟨_,_,_,_,e⟩:=x;exact Heap.lt_size e
 |tup xs=>obtain⟨_,_,_,p⟩:=x;exact p.lt
 |dK kvs=>obtain⟨_,_,_,_,o,_,_,e,_⟩:=x;exact Heap.lt_size e
 |dT kvs=>obtain⟨_,_,_,_,o,_,_,e,_⟩:=x;exact Heap.lt_size e
 |set S n=>obtain⟨o,_,_,_,e,_⟩:=x;exact Heap.lt_size e
 |ins C dx fs=>obtain⟨_,_,_,e,_⟩:=x;exact Heap.lt_size e
 |own y=>obtain⟨_,e⟩:=x;exact Heap.lt_size e
 |xd fs=>obtain⟨_,⟨_,_,_,e,_⟩,_⟩:=x;exact Heap.lt_size e
 |rng lo hi=>obtain⟨_,_,_,e⟩:=x;exact Heap.lt_size e
 |frz ob u=>obtain⟨e,_⟩:=x;exact Heap.lt_size e
 |tbl ps=>exact Heap.lt_size (show h.get? a=some _ from x)
 |met f y=>exact Heap.lt_size (show h.get? a=some _ from x)
 |ext φ=>obtain⟨_,⟨_,e⟩,_⟩:=x;exact Heap.lt_size e
theorem Paired.mapP {α β:Type}{F G:α→β→Prop}:∀{l₁:List α} {l₂:List β},Paired F l₁ l₂→(∀a b,F a b→G a b)→Paired G l₁ l₂
 |_,_,.nil,_=>.nil
 |_,_,.cons r t,f=>.cons (f _ _ r) (Paired.mapP t f)
theorem ObjOk.stay (x:ObjOk P w H h a o)(k:∀b u,(b=a∨H b=some (.own a))→h.get? b=some u→h'.get? b=some u)
  (ho:∀b,H b=some (.own a)→H' b=some (.own a)) (ht:∀b xs,H b=some (.tup xs)→H' b=some (.tup xs)):ObjOk P w H' h' a o:=by
 induction o with
 |lst xs=>obtain⟨z,its,n,r,e⟩:=x;exact⟨z,its,n,r,k _ _ (.inl rfl) e⟩
 |tup xs=>obtain⟨z,its,r,ob,e,c⟩:=x;exact⟨z,its,r,ob,k _ _ (.inl rfl) e,c⟩
 |dK kvs=>obtain⟨z,y,vs,r,ob,es,ep,e,c⟩:=x;exact⟨z,y,vs,r,ob,es,ep,k _ _ (.inl rfl) e,c⟩
 |dT kvs=>
  obtain⟨z,y,xs,r,ob,es,ep,e,c⟩:=x
  exact⟨z,y,xs,Paired.mapP r fun p q z=>⟨z.1,ht _ _ z.2.1,z.2.2⟩,ob,es,ep,k _ _ (.inl rfl) e,c⟩
 |set S n=>obtain⟨ob,es,ep,t,e,c⟩:=x;exact⟨ob,es,ep,t,k _ _ (.inl rfl) e,c⟩
 |ins C dx fs=>
  obtain⟨d,z,ne,e,mA,⟨od,es,ep,e2,c⟩,r⟩:=x
  exact⟨ho _ d,z,ne,k _ _ (.inl rfl) e,mA,⟨od,es,ep,k _ _ (.inr d) e2,c⟩,r⟩
 |own y=>obtain⟨ob,e⟩:=x;exact⟨ob,k _ _ (.inl rfl) e⟩
 |xd fs=>obtain⟨mA,⟨od,es,ep,e,c⟩,r⟩:=x;exact⟨mA,⟨od,es,ep,k _ _ (.inl rfl) e,c⟩,r⟩
 |rng lo hi=>obtain⟨t,u,v,e⟩:=x;exact⟨t,u,v,k _ _ (.inl rfl) e⟩
 |frz ob u ih=>obtain⟨e,q⟩:=x;exact⟨k _ _ (.inl rfl) e,ih q⟩
 |tbl ps=>
  have e:h.get? a=some {cls:=.none,data:=.fields ps}:=x
  show h'.get? a=some {cls:=.none,data:=.fields ps}
  exact k a _ (.inl rfl) e
 |met f y=>
  have e:h.get? a=some (PySem.W.methodObj (.ref f) (.ref y)):=x
  show h'.get? a=some (PySem.W.methodObj (.ref f) (.ref y))
  exact k a _ (.inl rfl) e
 |ext φ=>obtain⟨p,⟨o,e⟩,st⟩:=x;exact⟨st _ _ p fun o q=>k _ _ (.inl rfl) q,⟨o,k _ _ (.inl rfl) e⟩,st⟩
theorem HOk.lt (x:HOk P w H h)(e:H a=some o):a<h.objs.size:=(x a o e).lt
theorem HOk.fresh (x:HOk P w H h)(e:h.objs.size≤a):H a=none:=by
 cases q:H a with
 |none=>rfl
 |some u=>exact absurd (Nat.lt_of_lt_of_le (x.lt q) e) (Nat.lt_irrefl _)
theorem HOk.kept (x:HOk P w H h)(k:∀b u,h.get? b=some u→h'.get? b=some u):HOk P w H h':=fun a o e=>
 (x a o e).stay (fun b u _ q=>k b u q) (fun _ q=>q) fun _ _ q=>q
theorem HOk.laid (x:HOk P w H h)(k:∀b u,h.get? b=some u→h'.get? b=some u)(hp:h.objs.size≤a)(new:ObjOk P w (upd H a o) h' a o):HOk P w (upd H a o) h':=fun b u e=>by
 have hn:=x.fresh hp
 by_cases hb:b=a
 ·subst hb;rw[a0I']at e;cases e;exact new
 ·rw[a0t' hb]at e
  exact(x b u e).stay (fun c v _ q=>k c v q) (fun c q=>by rw[a0t' (a0i' q hn)];exact q) fun c xs q=>by rw[a0t' (a0i' q hn)];exact q
end
def Rd (H:Hp)(a:Addr)(u:HO):Prop:=H a=some u∨∃o,H a=some (.frz o u)
theorem Rd.ok {P:Program}{w:World}{H:Hp}{h:Heap}{a:Addr}{u:HO}(r:Rd H a u)(x:HOk P w H h):ObjOk P w H h a u:=by
 rcases r with r| ⟨o,r⟩
 ·exact x a u r
 ·obtain⟨_,q⟩:=x a _ r
  exact q
def Mut:Option HO→Prop
 |some (.lst _)=>True
 |some (.dK _)=>True
 |some (.dT _)=>True
 |some (.set _ _)=>True
 |some (.ins _ _ _)=>True
 |some (.ext _)=>True
 |_=>False
section
variable {P:Program}{w:World}{H:Hp}{h h':Heap}{x e:Addr}{o':HO}
theorem HOk.write (ok:HOk P w H h)(mu:Mut (H x))(he:e=x∨H e=some (.own x))(k:∀b u,b≠e→h.get? b=some u→h'.get? b=some u)(heo:∃u,h'.get? e=some u)
  (new:ObjOk P w (upd H x o') h' x o'):HOk P w (upd H x o') h':=fun b u q=>by
 have nown:∀c y,H c=some (.own y)→c≠x:=fun c y r z=>by subst z;rw[r]at mu;exact mu
 have ntup:∀c xs,H c=some (.tup xs)→c≠x:=fun c xs r z=>by subst z;rw[r]at mu;exact mu
 by_cases hb:b=x
 ·subst hb;rw[a0I']at q;cases q;exact new
 ·rw[a0t' hb]at q
  by_cases hbe:b=e
  ·have q':H b=some (.own x):=by
    rcases he with z|z
    ·exact absurd (hbe.trans z) hb
    ·rw[hbe];exact z
   rw[q]at q';cases q'
   obtain⟨v,hv⟩:=heo
   exact⟨v,by rw[hbe];exact hv⟩
  ·refine(ok b u q).stay (fun c v hc r=>k c v ?_ r) (fun c r=>by rw[a0t' (nown c b r)];exact r) fun c xs r=>by rw[a0t' (ntup c xs r)];exact r
   rcases hc with rfl|hc
   ·exact hbe
   ·rintro rfl
    rcases he with z|z
    ·exact nown c b hc z
    ·rw[hc]at z;cases z;exact hb rfl
end
structure Un (fs ex:List Addr)(H H':Hp)(h h':Heap):Prop where
 keep:∀b o,h.get? b=some o→H b=none→b∉fs→b∉ex→h'.get? b=some o
 slot:∀b o,h.get? b=some o→H b=none→b∈fs→b∉ex→∃sl,h'.get? b=some {o with slots:=sl}
 free:∀b o,h.get? b=some o→H b=none→b∉ex→H' b=none
 there:∀b o,h.get? b=some o→b∉ex→∃o',h'.get? b=some o'
 tups:∀b xs,H b=some (.tup xs)→H' b=some (.tup xs)
 frzs:∀b o u,H b=some (.frz o u)→H' b=some (.frz o u)
 tbls:∀b ps,H b=some (.tbl ps)→∃more,H' b=some (.tbl (ps++more))
section
variable {fs fs' ex ex':List Addr}{H H1 H2:Hp}{h h1 h2 h':Heap}{a x e:Addr}{o:HO}
theorem Un.any (u:Un fs ex H H1 h h1){b:Addr}{ob:Obj}(q:h.get? b=some ob)(n:H b=none)(hx:b∉ex):∃sl,h1.get? b=some {ob with slots:=sl}:=by
 by_cases hb:b∈fs
 ·exact u.slot b ob q n hb hx
 ·exact⟨ob.slots,u.keep b ob q n hb hx⟩
theorem Un.kept (k:∀b u,h.get? b=some u→h'.get? b=some u):Un fs ex H H h h':=
 ⟨fun b ob q _ _ _=>k b ob q,fun b ob q _ _ _=>⟨ob.slots,k b ob q⟩,fun _ _ _ n _=>n,fun b ob q _=>⟨ob,k b ob q⟩,fun _ _ q=>q,fun _ _ _ q=>q,fun _ ps q=>⟨#[],by rw[q];simp⟩⟩
theorem Un.refl:Un fs ex H H h h:=Un.kept fun _ _ q=>q
theorem Un.laid (k:∀b u,h.get? b=some u→h'.get? b=some u)(hp:h.objs.size≤a)(hn:H a=none):Un fs ex H (upd H a o) h h' where
 keep:=fun b u q _ _ _=>k b u q
 slot:=fun b u q _ _ _=>⟨u.slots,k b u q⟩
 free:=fun b u q n _=>by rw[a0t' (Nat.ne_of_lt (Nat.lt_of_lt_of_le (Heap.lt_size q) hp))];exact n
 there:=fun b u q _=>⟨u,k b u q⟩
 tups:=fun b xs q=>by rw[a0t' (a0i' q hn)];exact q
 frzs:=fun b u xs q=>by rw[a0t' (a0i' q hn)];exact q
 tbls:=fun b ps q=>⟨#[],by rw[a0t' (a0i' q hn),q];simp⟩
theorem Un.write (mu:Mut (H x))(he:e=x∨H e=some (.own x))(k:∀b u,b≠e→h.get? b=some u→h'.get? b=some u)(heo:∃u,h'.get? e=some u):Un fs ex H (upd H x o) h h':=by
 have hx:∀b,H b=none→b≠x:=fun b n z=>by subst z;rw[n]at mu;exact mu
 have hb:∀b,H b=none→b≠e:=fun b n z=>by
  subst z
  rcases he with r|r
  ·exact hx b n r
  ·rw[n]at r;cases r
 have hm:∀b u,H b=some u→¬Mut (some u)→b≠x:=fun b u q nm z=>by subst z;rw[q]at mu;exact nm mu
 refine⟨fun b u q n _ _=>k b u (hb b n) q,fun b u q n _ _=>⟨u.slots,k b u (hb b n) q⟩,fun b u q n _=>by rw[a0t' (hx b n)];exact n,fun b u q _=> ?_,
  fun b xs q=>by rw[a0t' (hm b _ q fun z=>z)];exact q,fun b u xs q=>by rw[a0t' (hm b _ q fun z=>z)];exact q,fun b ps q=>⟨#[],by rw[a0t' (hm b _ q fun z=>z),q];simp⟩⟩
 by_cases hbe:b=e
 ·subst hbe;exact heo
 ·exact⟨u,k b u hbe q⟩
end
def trk (h:Heap)(H:Hp):List Addr:=(List.range h.objs.size).filter fun a=>(H a).isSome
def hidT (h:Heap)(H:Hp):Heap:=PySem.W.hideAll h (trk h H)
theorem b1w' (h:Heap)(H:Hp):(hidT h H).objs.size=h.objs.size:=PySem.W.hideAll_size _ _
theorem b3A' {h:Heap}{H:Hp}{b:Addr}{o:Obj}(e:h.get? b=some o)(n:H b=none):(hidT h H).get? b=some o:=
 PySem.W.hideAll_get _ e fun hm=>by
  have q:(H b).isSome=true:=(List.mem_filter.mp hm).2
  rw[n]at q;simp at q
theorem of_hidT {h:Heap}{H:Hp}{b:Addr}{o:Obj}(e:(hidT h H).get? b=some o):h.get? b=some o∧H b=none:=by
 have e':h.get? b=some o:=PySem.W.of_hideAll (trk h H) e
 refine⟨e',?_⟩
 cases q:H b with
 |none=>rfl
 |some x=>
  have hm:b∈trk h H:=List.mem_filter.mpr ⟨List.mem_range.mpr (Heap.lt_size e'),by simp[q]⟩
  have z:(hidT h H).get? b=none:=PySem.W.hideAll_none (trk h H) hm
  rw[z]at e;cases e
end L2
namespace L2
open PySem PySem.Spec PyProof.Rows
structure Mod (K:PySem.W.Frag)(mg:Str→Option Value)(base:Heap):Prop where
 kin:K.In base
 glob:base.Ns mainGlobals mg
 blt:∃mb,base.Ns builtinsNs mb∧∀x:Str,x≠"__name__"→mb x=bootBuiltins x
 nolimit:base.NoLimit
structure Cx where
 prog:Program
 w:World
 K:PySem.W.Frag
 mg:Str→Option Value
 base:Heap
 A:Around
 N:List Str
 s₀:Shared
 H₀:Hp
 env:Env
 outer:List Env
 stack:List Env
 ex:List Addr
 fn:Str→Bool
 calm:Bool
 pn:List (Addr×Obj)
 xe:Value→Shared→Prop
def frs (l:List Env):List Addr:=l.filterMap (·.frame)
abbrev Cx.fs (X:Cx):List Addr:=frs X.outer
def Vis (sc:Scope)(x:Str):Prop:=sc.names.lookup x=some .local∨sc.names.lookup x=some .cell∨sc.names.lookup x=some .free
def Loc (sc:Scope)(x:Str):Prop:=sc.names.lookup x=some .local∨sc.names.lookup x=some .cell
def Look (env:Env)(h:Heap)(m:Str→Option Value)(x:Str)(u:Value):Prop:=
 (env.kindOf x=some .local∧m x=some u)∨((env.kindOf x=some .cell∨env.kindOf x=some .free)∧∃c,env.cells.lookup x=some c∧h.IsCell c (some u))
structure Cx.Ok (X:Cx):Prop where
 mod:Mod X.K X.mg X.base
 kind:X.env.scope.kind=.function
 glob:X.env.globals=mainGlobals
 blt:X.env.builtins=builtinsNs
 above:X.s₀.heap.objs.size≤X.env.locals
 inj:∀x y c,X.env.cells.lookup x=some c→X.env.cells.lookup y=some c→x=y
 has:∀x,(X.env.kindOf x=some .cell∨X.env.kindOf x=some .free)→∃c,X.env.cells.lookup x=some c
 cab:∀x c,X.fn x=true→X.env.cells.lookup x=some c→X.s₀.heap.objs.size≤c
 hd:X.calm=true→X.A.handled=none
 frames:X.A.frames=some X.stack
 stk:X.stack=X.outer∨(X.stack=X.env::X.outer∧X.env.frame=some X.env.locals)
 exf:∀b∈X.ex,b≠X.env.locals∧∀x c,X.env.cells.lookup x=some c→c≠b
 bs:∀b o,X.base.get? b=some o→X.s₀.heap.get? b=some o∧X.H₀ b=none
 bsz:X.base.objs.size≤X.s₀.heap.objs.size
 noex:∀b o,X.base.get? b=some o→b∉X.ex
 exfs:∀b∈X.ex,b∉X.fs
 funs:X.s₀.heap.FunFrames X.base X.outer
 frf:∀b∈X.fs,X.H₀ b=none
structure Inv (X:Cx)(pins:List (Addr×Obj))(σ:List (Option V))(H:Hp)(s:Shared):Prop where
 ok:X.Ok
 os:s.os=X.s₀.os
 bare:AllBare s.gens
 base:Un X.fs X.ex X.H₀ H X.s₀.heap s.heap
 loc:∃m,s.heap.Ns X.env.locals m∧∀(i:Nat) (x:Str) (v:V),X.N[i]? =some x→σ[i]? =some (some v)→Vis X.env.scope x→∃u,RelV v u∧Look X.env s.heap m x u
 cell:∀x c,X.env.cells.lookup x=some c→∃v,s.heap.IsCell c v
 free:H X.env.locals=none
 freeC:∀x c,X.env.cells.lookup x=some c→H c=none
 pin:∀p∈X.pn++pins,s.heap.get? p.1=some p.2∧H p.1=none∧p.1≠X.env.locals∧p.1∉X.fs∧∀v,p.2.data≠.cell v
 hok:HOk X.prog X.w H s.heap
 len:σ.length=X.N.length
section
variable {X:Cx}{pins:List (Addr×Obj)}{σ:List (Option V)}{H H':Hp}{s:Shared}{h':Heap}
theorem Cx.Ok.nofr (ok:X.Ok){b:Addr}{o:Obj}(e:X.base.get? b=some o):b∉X.fs:=fun hb=>by
 have:=(ok.funs.mem hb).1
 rw[e]at this;cases this
theorem Inv.bs (I:Inv X pins σ H s):∀b o,X.base.get? b=some o→s.heap.get? b=some o∧H b=none:=fun b o e=>
 ⟨I.base.keep b o (I.ok.bs b o e).1 (I.ok.bs b o e).2 (I.ok.nofr e) (I.ok.noex b o e),I.base.free b o (I.ok.bs b o e).1 (I.ok.bs b o e).2 (I.ok.noex b o e)⟩
theorem Inv.bk (I:Inv X pins σ H s):∀b o,X.base.get? b=some o→s.heap.get? b=some o:=fun b o e=>(I.bs b o e).1
theorem Inv.mod (I:Inv X pins σ H s):Mod X.K X.mg X.base:=I.ok.mod
theorem Inv.kIn (I:Inv X pins σ H s):X.K.In s.heap:=I.ok.mod.kin.keeps I.bk
theorem Inv.lt (I:Inv X pins σ H s):X.env.locals<s.heap.objs.size:=let⟨_,hn,_⟩:=I.loc;hn.lt
theorem Inv.sz (I:Inv X pins σ H s):X.s₀.heap.objs.size≤s.heap.objs.size:=Nat.le_trans I.ok.above (Nat.le_of_lt I.lt)
theorem Inv.nofs (I:Inv X pins σ H s){a:Addr}(h:s.heap.objs.size≤a):a∉X.fs:=fun hb=>by
 obtain⟨_,o,ho,_⟩:=I.ok.funs.mem hb
 exact absurd (Nat.lt_of_lt_of_le (Heap.lt_size ho) (Nat.le_trans I.sz h)) (Nat.lt_irrefl _)
theorem Inv.cne (I:Inv X pins σ H s):∀x c,X.env.cells.lookup x=some c→c≠X.env.locals:=fun x c e z=>by
 obtain⟨v,o,ho,hd⟩:=I.cell x c e
 obtain⟨m,⟨o',es,ep,ho',hd',_⟩,_⟩:=I.loc
 rw[z,ho']at ho;cases ho;rw[hd']at hd;cases hd
theorem Inv.funs (I:Inv X pins σ H s):s.heap.FunFrames X.base X.outer:=by
 have all:∀(l:List Env),(∀b∈frs l,b∈X.fs)→X.s₀.heap.FunFrames X.base l→s.heap.FunFrames X.base l:=by
  intro l
  induction l with
  |nil=>intro _ _;trivial
  |cons env r ih=>
   intro hs hl
   obtain⟨hk,⟨L,o,hf,hn,ho,hd⟩,hr⟩:=hl
   have hL:L∈X.fs:=hs L (by unfold frs;rw[List.filterMap_cons,hf];exact List.mem_cons_self)
   obtain⟨sl,e⟩:=I.base.slot L o ho (I.ok.frf L hL) hL fun z=>I.ok.exfs L z hL
   exact⟨hk,⟨L,_,hf,hn,e,hd⟩,ih (fun b hb=>hs b (by unfold frs;rw[List.filterMap_cons,hf];exact List.mem_cons_of_mem _ hb)) hr⟩
 exact all X.outer (fun _ hb=>hb) I.ok.funs
theorem Inv.stack (I:Inv X pins σ H s):s.heap.FunFrames X.base X.stack:=by
 rcases I.ok.stk with e| ⟨e,hf⟩
 ·rw[e];exact I.funs
 ·rw[e]
  obtain⟨m,hn,_⟩:=I.loc
  refine .cons (by rw[I.ok.kind];decide) hf hn ?_ I.funs
  exact Heap.get?_none_of_le (Nat.le_trans I.ok.bsz I.ok.above)
theorem Inv.stkSub (I:Inv X pins σ H s):∀b∈frs X.stack,b∈X.env.locals::X.fs:=fun b hb=>by
 rcases I.ok.stk with e| ⟨e,hf⟩
 ·rw[e]at hb;exact List.mem_cons_of_mem _ hb
 ·rw[e]at hb
  unfold frs at hb
  rw[List.filterMap_cons,hf]at hb
  exact hb
theorem Inv.stkFree (I:Inv X pins σ H s):∀b∈frs X.stack,H b=none:=fun b hb=>by
 rcases List.mem_cons.mp (I.stkSub b hb)with e|hb
 ·rw[e];exact I.free
 ·obtain⟨_,o,ho,_⟩:=I.ok.funs.mem hb
  exact I.base.free b o ho (I.ok.frf b hb) fun z=>I.ok.exfs b z hb
theorem Inv.step {g':Array GenState}{t':Nat}{d':Drawn}{ch:List Addr}(I:Inv X pins σ H s)
  (hch:∀b∈ch,(b∈X.ex∨X.s₀.heap.objs.size≤b)∧b≠X.env.locals∧(∀x c,X.env.cells.lookup x=some c→c≠b)∧∀p∈X.pn++pins,p.1≠b)
  (keep:∀b o,b≠X.env.locals→b∉X.fs→b∉ch→s.heap.get? b=some o→H b=none→h'.get? b=some o)
  (slot:∀b o,b≠X.env.locals→b∈X.fs→b∉ch→s.heap.get? b=some o→H b=none→∃sl,h'.get? b=some {o with slots:=sl}) (free:∀b o,b∉ch→s.heap.get? b=some o→H b=none→H' b=none)
  (there:∀b o,b∉ch→s.heap.get? b=some o→∃o',h'.get? b=some o')
  (tups:∀b xs,H b=some (.tup xs)→H' b=some (.tup xs)) (frzs:∀b o u,H b=some (.frz o u)→H' b=some (.frz o u)) (tbls:∀b ps,H b=some (.tbl ps)→∃more,H' b=some (.tbl (ps++more)))
  (ns:∀m,s.heap.Ns X.env.locals m→h'.Ns X.env.locals m) (hok:HOk X.prog X.w H' h') (hg:AllBare g'):
  Inv X pins σ H' {s with heap:=h',gens:=g',drawn:=d',toks:=t'}:=by
 have neL:∀b o,X.s₀.heap.get? b=some o→b≠X.env.locals:=fun b o e=>Nat.ne_of_lt (Nat.lt_of_lt_of_le (Heap.lt_size e) I.ok.above)
 have neC:∀b o,X.s₀.heap.get? b=some o→b∉X.ex→b∉ch:=fun b o e hx hb=>by
  rcases(hch b hb).1 with z|z
  ·exact hx z
  ·exact absurd (Nat.lt_of_lt_of_le (Heap.lt_size e) z) (Nat.lt_irrefl _)
 have cellK:∀x c,X.env.cells.lookup x=some c→∀v,s.heap.IsCell c v→h'.IsCell c v:=fun x c e v ⟨o,ho,hd⟩=>by
  have nch:c∉ch:=fun z=>(hch c z).2.2.1 x c e rfl
  by_cases hc:c∈X.fs
  ·obtain⟨sl,q⟩:=slot c o (I.cne x c e) hc nch ho (I.freeC x c e)
   exact⟨_,q,hd⟩
  ·exact⟨o,keep c o (I.cne x c e) hc nch ho (I.freeC x c e),hd⟩
 refine⟨I.ok,I.os,hg,⟨fun b o e n hb hx=> ?_,fun b o e n hb hx=> ?_,fun b o e n hx=> ?_,fun b o e hx=> ?_,fun b xs e=>tups b xs (I.base.tups b xs e),fun b o xs e=>frzs b o xs (I.base.frzs b o xs e),fun b ps e=> ?_⟩,?_,fun x c e=> ?_,?_,fun x c e=> ?_,fun p hp=> ?_,hok,I.len⟩
 ·exact keep b o (neL b o e) hb (neC b o e hx) (I.base.keep b o e n hb hx) (I.base.free b o e n hx)
 ·obtain⟨sl,e1⟩:=I.base.slot b o e n hb hx
  obtain⟨sl',e2⟩:=slot b _ (neL b o e) hb (neC b o e hx) e1 (I.base.free b o e n hx)
  exact⟨sl',e2⟩
 ·obtain⟨o',e1⟩:=I.base.there b o e hx
  exact free b o' (neC b o e hx) e1 (I.base.free b o e n hx)
 ·obtain⟨o',e1⟩:=I.base.there b o e hx
  exact there b o' (neC b o e hx) e1
 ·obtain⟨m1,e1⟩:=I.base.tbls b ps e
  obtain⟨m2,e2⟩:=tbls b _ e1
  exact⟨m1++m2,by rw[e2,Array.append_assoc]⟩
 ·obtain⟨m,hn,hl⟩:=I.loc
  refine⟨m,ns m hn,fun i x v e1 e2 e3=> ?_⟩
  obtain⟨u,r,l⟩:=hl i x v e1 e2 e3
  refine⟨u,r,?_⟩
  rcases l with l| ⟨k,c,e,z⟩
  ·exact .inl l
  ·exact .inr ⟨k,c,e,cellK x c e _ z⟩
 ·obtain⟨v,z⟩:=I.cell x c e
  exact⟨v,cellK x c e v z⟩
 ·obtain⟨m,⟨o,_,_,ho,_⟩,_⟩:=I.loc
  exact free _ o (fun z=>(hch _ z).2.1 rfl) ho I.free
 ·obtain⟨v,o,ho,hd⟩:=I.cell x c e
  exact free c o (fun z=>(hch c z).2.2.1 x c e rfl) ho (I.freeC x c e)
 ·obtain⟨e,n,ne,nf,d⟩:=I.pin p hp
  have nch:p.1∉ch:=fun z=>(hch p.1 z).2.2.2 p hp rfl
  exact⟨keep p.1 p.2 ne nf nch e n,free p.1 p.2 nch e n,ne,nf,d⟩
theorem Inv.un {t':Nat}(I:Inv X pins σ H s)(u:Un X.fs [] H H' s.heap h')(hok:HOk X.prog X.w H' h'):Inv X pins σ H' {s with heap:=h',toks:=t'}:=by
 obtain⟨m,⟨o,es,ep,ho,r⟩,_⟩:=id I.loc
 obtain⟨sl,hL⟩:=u.any ho I.free (by simp)
 exact I.step (g':=s.gens) (d':=s.drawn) (ch:=[]) (fun _ z=>nomatch z) (fun b o _ hb _ e n=>u.keep b o e n hb (by simp)) (fun b o _ hb _ e n=>u.slot b o e n hb (by simp)) (fun b o _ e n=>u.free b o e n (by simp)) (fun b o _ e=>u.there b o e (by simp)) u.tups u.frzs u.tbls (fun m' hm=>by
  obtain⟨o',es',ep',ho',r'⟩:=hm
  rw[ho]at ho';cases ho'
  exact⟨_,es',ep',hL,r'⟩) hok I.bare
theorem Inv.call {g':Array GenState}{t':Nat}{d':Drawn}{ch:List Addr}(I:Inv X pins σ H s)(u:Un (frs X.stack) ch H H' s.heap h')(hok:HOk X.prog X.w H' h')(hg:AllBare g')
  (hch:∀b∈ch,(b∈X.ex∨X.s₀.heap.objs.size≤b)∧b≠X.env.locals∧(∀x c,X.env.cells.lookup x=some c→c≠b)∧∀p∈X.pn++pins,p.1≠b):
  Inv X pins σ H' {s with heap:=h',gens:=g',drawn:=d',toks:=t'}:=by
 obtain⟨m,⟨o,es,ep,ho,r⟩,_⟩:=id I.loc
 obtain⟨sl,hL⟩:=u.any ho I.free fun z=>(hch _ z).2.1 rfl
 exact I.step (ch:=ch) hch (fun b o hL hb hc e n=>u.keep b o e n (fun z=>(List.mem_cons.mp (I.stkSub b z)).elim hL hb) hc) (fun b o _ _ hc e n=>u.any e n hc) (fun b o hc e n=>u.free b o e n hc) (fun b o hc e=>u.there b o e hc) u.tups u.frzs u.tbls (fun m' hm=>by
  obtain⟨o',es',ep',ho',r'⟩:=hm
  rw[ho]at ho';cases ho'
  exact⟨_,es',ep',hL,r'⟩) hok hg
theorem Inv.turned {t':Nat}{it:Addr}(I:Inv X pins σ H s)(k:∀b o,b≠it→s.heap.get? b=some o→h'.get? b=some o)(hn:H it=none)(hL:it≠X.env.locals)
  (h1:it∈X.ex∨X.s₀.heap.objs.size≤it) (h2:∀x c,X.env.cells.lookup x=some c→c≠it) (h3:∀p∈X.pn++pins,p.1≠it):Inv X pins σ H {s with heap:=h',toks:=t'}:=by
 have nit:∀b u,H b=some u→b≠it:=fun b u e z=>by rw[z,hn]at e;cases e
 refine I.step (g':=s.gens) (d':=s.drawn) (ch:=[it]) (fun b hb=> ?_) (fun b o _ _ hc e _=>k b o (fun z=>hc (by simp[z])) e) (fun b o _ _ hc e _=>⟨o.slots,k b o (fun z=>hc (by simp[z])) e⟩) (fun _ _ _ _ n=>n)
  (fun b o hc e=>⟨o,k b o (fun z=>hc (by simp[z])) e⟩) (fun _ _ e=>e) (fun _ _ _ e=>e) (fun b ps e=>⟨#[],by rw[e];simp⟩) (fun m hm=> ?_) (fun b u e=> ?_) I.bare
 ·have e:b=it:=by simpa using hb
  subst e
  exact⟨h1,hL,h2,h3⟩
 ·obtain⟨o,es,ep,ho,r⟩:=hm
  exact⟨o,es,ep,k _ o (Ne.symm hL) ho,r⟩
 ·refine(I.hok b u e).stay (fun c v hc q=>k c v ?_ q) (fun _ q=>q) fun _ _ q=>q
  rcases hc with z|z
  ·rw[z];exact nit b u e
  ·exact nit c _ z
theorem Inv.tok (I:Inv X pins σ H s)(t:Nat):Inv X pins σ H {s with toks:=t}:=I.un (h':=s.heap) (t':=t) Un.refl I.hok
theorem Inv.kept {t':Nat}(I:Inv X pins σ H s)(k:∀b u,s.heap.get? b=some u→h'.get? b=some u):Inv X pins σ H {s with heap:=h',toks:=t'}:=I.un (Un.kept k) (I.hok.kept k)
theorem Inv.laid {a:Addr}{o:HO}{t':Nat}(I:Inv X pins σ H s)(k:∀b u,s.heap.get? b=some u→h'.get? b=some u)(hp:s.heap.objs.size≤a)(new:ObjOk X.prog X.w (upd H a o) h' a o):
  Inv X pins σ (upd H a o) {s with heap:=h',toks:=t'}:=I.un (Un.laid k hp (I.hok.fresh hp)) (I.hok.laid k hp new)
theorem Inv.write {x e:Addr}{o:HO}{t':Nat}(I:Inv X pins σ H s)(mu:Mut (H x))(he:e=x∨H e=some (.own x))(k:∀b u,b≠e→s.heap.get? b=some u→h'.get? b=some u)(heo:∃u,h'.get? e=some u)
  (new:ObjOk X.prog X.w (upd H x o) h' x o):Inv X pins σ (upd H x o) {s with heap:=h',toks:=t'}:=I.un (Un.write mu he k heo) (I.hok.write mu he k heo new)
theorem Inv.pins_of {pins':List (Addr×Obj)}(I:Inv X pins σ H s)(h:∀p∈pins',s.heap.get? p.1=some p.2∧H p.1=none∧p.1≠X.env.locals∧p.1∉X.fs∧∀v,p.2.data≠.cell v):Inv X pins' σ H s:=
 ⟨I.ok,I.os,I.bare,I.base,I.loc,I.cell,I.free,I.freeC,fun p hp=>(List.mem_append.mp hp).elim (fun z=>I.pin p (List.mem_append_left _ z)) (h p),I.hok,I.len⟩
theorem a9y' {N:List Str}(hN:N.Nodup){i j:Nat}{x:Str}(a:N[i]? =some x)(b:N[j]? =some x):i=j:=by
 obtain⟨h1,e1⟩:=List.getElem?_eq_some_iff.mp a
 obtain⟨h2,e2⟩:=List.getElem?_eq_some_iff.mp b
 exact(List.getElem_inj hN).mp (e1.trans e2.symm)
theorem a7S' {M:Model}{A:Around}{E:Value→Shared→Prop}{i:Nat}{x:Str}{v:V}{u:Value}{Q:Unit→Shared→Prop}(I:Inv X pins σ H s)(hN:X.N.Nodup)(hi:X.N[i]? =some x)(hx:Loc X.env.scope x)(r:RelV v u)
  (h:∀s',Inv X pins (σ.set i (some v)) H s'→(∃a,Heap.SameBut a s.heap s'.heap∧(a=X.env.locals∨X.env.cells.lookup x=some a))→Q () s') (hf:X.fn x=true∨X.env.scope.names.lookup x=some .local:=by first|exact .inl rfl|exact .inr rfl|assumption):wpAny M A (storeName X.env x u) Q E s:=by
 obtain⟨m,hn,hl⟩:=id I.loc
 have hcls:(X.env.scope.kind== .class||(X.env.scope.kind== .module&&X.env.locals !=X.env.globals))=false:=by rw[I.ok.kind];rfl
 have hiσ:i<σ.length:=by rw[I.len];exact(List.getElem?_eq_some_iff.mp hi).1
 have cne:=I.cne
 have tracked:∀{a:Addr} {h':Heap},(∃o,s.heap.get? a=some o∧H a=none)→Heap.SameBut a s.heap h'→HOk X.prog X.w H h':=fun{a h'} ha hs b ob e=>by
  obtain⟨_,_,hfree⟩:=ha
  refine(I.hok b ob e).stay (fun c w' hc q=>(hs.2 c ?_).trans q) (fun _ q=>q) fun _ _ q=>q
  rintro rfl
  rcases hc with rfl|hc
  ·rw[hfree]at e;cases e
  ·rw[hfree]at hc;cases hc
 rcases hx with hk|hk
 ·refine wpAny_storeName_local hk hn (fun h' hn' hs=> ?_) hcls
  obtain⟨oL,_,_,hoL,_⟩:=id hn
  refine h _ ⟨I.ok,I.os,I.bare,⟨fun b o e n hb hx=> ?_,fun b o e n hb hx=> ?_,I.base.free,fun b o e hx=> ?_,I.base.tups,I.base.frzs,I.base.tbls⟩,⟨_,hn',fun j y v' e1 e2 e3=> ?_⟩,fun y c e=> ?_,I.free,I.freeC,fun p hp=> ?_,tracked ⟨oL,hoL,I.free⟩ hs,by simpa using I.len⟩ ⟨_,hs,.inl rfl⟩
  ·exact(hs.2 b (Nat.ne_of_lt (Nat.lt_of_lt_of_le (Heap.lt_size e) I.ok.above))).trans (I.base.keep b o e n hb hx)
  ·obtain⟨sl,e1⟩:=I.base.slot b o e n hb hx
   exact⟨sl,(hs.2 b (Nat.ne_of_lt (Nat.lt_of_lt_of_le (Heap.lt_size e) I.ok.above))).trans e1⟩
  ·obtain⟨o',e1⟩:=I.base.there b o e hx
   exact⟨o',(hs.2 b (Nat.ne_of_lt (Nat.lt_of_lt_of_le (Heap.lt_size e) I.ok.above))).trans e1⟩
  ·by_cases hj:j=i
   ·subst hj
    rw[hi]at e1;cases e1
    rw[List.getElem?_set_self hiσ]at e2
    cases e2
    exact⟨u,r,.inl ⟨hk,by simp⟩⟩
   ·rw[List.getElem?_set_ne (Ne.symm hj)]at e2
    obtain⟨u',r',q⟩:=hl j y v' e1 e2 e3
    refine⟨u',r',?_⟩
    rcases q with⟨k,e⟩| ⟨k,c,e,z⟩
    ·refine .inl ⟨k,?_⟩
     have:y≠x:=fun e=>hj (a9y' hN e1 (e▸hi))
     simp[this,e]
    ·exact .inr ⟨k,c,e,z.sameBut hs (cne y c e)⟩
  ·obtain⟨w',z⟩:=I.cell y c e
   exact⟨w',z.sameBut hs (cne y c e)⟩
  ·obtain⟨e,n,ne,nf,d⟩:=I.pin p hp
   exact⟨(hs.2 p.1 ne).trans e,n,ne,nf,d⟩
 ·have hfn:X.fn x=true:=by
   rcases hf with z|z
   ·exact z
   ·rw[z]at hk;cases hk
  obtain⟨c,hc⟩:=I.ok.has x (.inl hk)
  obtain⟨w',z⟩:=I.cell x c hc
  refine wpAny_storeName_cell I.ok.kind hk hc z (fun h' hc' hs=> ?_)
  obtain⟨oc,hoc,hocd⟩:=id z
  refine h {s with heap:=h'} ⟨I.ok,I.os,I.bare,⟨fun b o e n hb hx=> ?_,fun b o e n hb hx=> ?_,I.base.free,fun b o e hx=> ?_,I.base.tups,I.base.frzs,I.base.tbls⟩,⟨m,hn.sameBut hs (Ne.symm (cne x c hc)),fun j y v' e1 e2 e3=> ?_⟩,fun y c' e=> ?_,I.free,I.freeC,fun p hp=> ?_,tracked ⟨oc,hoc,I.freeC x c hc⟩ hs,by simpa using I.len⟩ ⟨c,hs,.inr hc⟩
  ·exact(hs.2 b (Nat.ne_of_lt (Nat.lt_of_lt_of_le (Heap.lt_size e) (I.ok.cab x c hfn hc)))).trans (I.base.keep b o e n hb hx)
  ·obtain⟨sl,e1⟩:=I.base.slot b o e n hb hx
   exact⟨sl,(hs.2 b (Nat.ne_of_lt (Nat.lt_of_lt_of_le (Heap.lt_size e) (I.ok.cab x c hfn hc)))).trans e1⟩
  ·obtain⟨o',e1⟩:=I.base.there b o e hx
   exact⟨o',(hs.2 b (Nat.ne_of_lt (Nat.lt_of_lt_of_le (Heap.lt_size e) (I.ok.cab x c hfn hc)))).trans e1⟩
  ·by_cases hj:j=i
   ·subst hj
    rw[hi]at e1;cases e1
    rw[List.getElem?_set_self hiσ]at e2
    cases e2
    exact⟨u,r,.inr ⟨.inl hk,c,hc,hc'⟩⟩
   ·rw[List.getElem?_set_ne (Ne.symm hj)]at e2
    obtain⟨u',r',q⟩:=hl j y v' e1 e2 e3
    refine⟨u',r',?_⟩
    rcases q with q| ⟨k,c',e,z'⟩
    ·exact .inl q
    ·refine .inr ⟨k,c',e,z'.sameBut hs ?_⟩
     rintro rfl
     exact hj (a9y' hN e1 (I.ok.inj _ _ _ e hc▸hi))
  ·by_cases hcc:c'=c
   ·subst hcc;exact⟨_,hc'⟩
   ·obtain⟨w2,z2⟩:=I.cell y c' e
    exact⟨w2,z2.sameBut hs hcc⟩
  ·obtain⟨e,n,ne,nf,d⟩:=I.pin p hp
   refine⟨(hs.2 p.1 ?_).trans e,n,ne,nf,d⟩
   intro q
   rw[q,hoc]at e
   have q':oc=p.2:=Option.some.inj e
   exact d w' (by rw[←q'];exact hocd)
theorem a9z' {M:Model}{A:Around}{E:Value→Shared→Prop}{i:Nat}{x:Str}{v:V}{u:Value}{Q:Unit→Shared→Prop}(I:Inv X pins σ H s)(hN:X.N.Nodup)(hi:X.N[i]? =some x)(hx:Loc X.env.scope x)(r:RelV v u)
  (h:∀s',Inv X pins (σ.set i (some v)) H s'→Q () s') (hf:X.fn x=true∨X.env.scope.names.lookup x=some .local:=by first|exact .inl rfl|exact .inr rfl|assumption):wpAny M A (storeName X.env x u) Q E s:=
 a7S' I hN hi hx r (fun s' I' _=>h s' I') hf
theorem Inv.call' {s':Shared}{ch:List Addr}(I:Inv X pins σ H s)(ho:s'.os=s.os)(u:Un (frs X.stack) ch H H' s.heap s'.heap)(hok:HOk X.prog X.w H' s'.heap)(hg:AllBare s'.gens)
  (hch:∀b∈ch,(b∈X.ex∨X.s₀.heap.objs.size≤b)∧b≠X.env.locals∧(∀x c,X.env.cells.lookup x=some c→c≠b)∧∀p∈X.pn++pins,p.1≠b):Inv X pins σ H' s':=by
 obtain⟨h',g',d',t',o'⟩:=s'
 have e:o'=s.os:=ho
 subst e
 exact I.call (g':=g') (t':=t') (d':=d') u hok hg hch
end
abbrev XK:=Value→Option Addr→Hp→Prop
abbrev St:=List (Option V)
abbrev VK:=V→Hp→Prop
abbrev TE:=St→Hp→VK→Prop
abbrev TT:=St→Hp→(Bool→Hp→Prop)→Prop
abbrev TA:=St→Hp→(List V→Hp→Prop)→Prop
structure Ends where
 nx:St→Hp→Prop
 rt:VK
 bk:St→Hp→Prop:=fun _ _=>False
 ct:St→Hp→Prop:=fun _ _=>False
abbrev TS:=Ends→St→Hp→Prop
def EP (X:Cx)(pins:List (Addr×Obj))(σ:St)(Q:VK)(u:Value)(s':Shared):Prop:=∃v H',Inv X pins σ H' s'∧RelV v u∧Q v H'
def TP (X:Cx)(pins:List (Addr×Obj))(σ:St)(Q:Bool→Hp→Prop)(b:Bool)(s':Shared):Prop:=∃H',Inv X pins σ H' s'∧Q b H'
def AP (X:Cx)(pins:List (Addr×Obj))(σ:St)(Q:List V→Hp→Prop)(us:List Value)(s':Shared):Prop:=∃vs H',Inv X pins σ H' s'∧Vals vs us∧Q vs H'
def SP (X:Cx)(pins:List (Addr×Obj))(D:Ends)(f:Flow)(s':Shared):Prop:=
 match f with
 | .next=>∃σ' H',Inv X pins σ' H' s'∧D.nx σ' H'
 | .brk=>∃σ' H',Inv X pins σ' H' s'∧D.bk σ' H'
 | .cont=>∃σ' H',Inv X pins σ' H' s'∧D.ct σ' H'
 | .ret u=>∃v σ' H',Inv X pins σ' H' s'∧RelV v u∧D.rt v H'
def PE (X:Cx)(e:Expr)(t:TE):Prop:=
 ∀(pins:List (Addr×Obj)) (s:Shared) (σ:St) (H:Hp) (Q:VK),Inv X pins σ H s→t σ H Q→wpAny (model X.prog X.w) X.A (eval e X.env) (EP X pins σ Q) X.xe s
def PT (X:Cx)(e:Expr)(t:TT):Prop:=
 ∀(pins:List (Addr×Obj)) (s:Shared) (σ:St) (H:Hp) (Q:Bool→Hp→Prop),Inv X pins σ H s→t σ H Q→wpAny (model X.prog X.w) X.A (isTrue e X.env (eval e X.env)) (TP X pins σ Q) X.xe s
def PW (X:Cx)(e:Expr)(t:TT):Prop:=
 ∀(whole:Sem Value) (pins:List (Addr×Obj)) (s:Shared) (σ:St) (H:Hp) (Q:Bool→Hp→Prop),Inv X pins σ H s→t σ H Q→wpAny (model X.prog X.w) X.A (isTrue e X.env whole) (TP X pins σ Q) X.xe s
theorem PW.pt {X:Cx}{e:Expr}{t:TT}(h:PW X e t):PT X e t:=h _
def PA (X:Cx)(es:List Expr)(t:TA):Prop:=
 ∀(pos:Pos) (pins:List (Addr×Obj)) (s:Shared) (σ:St) (H:Hp) (Q:List V→Hp→Prop),Inv X pins σ H s→t σ H Q→wpAny (model X.prog X.w) X.A (spliced (backTo pos (starEach es X.env))) (AP X pins σ Q) X.xe s
def PS (X:Cx)(st:Stmt)(t:TS):Prop:=
 ∀(pins:List (Addr×Obj)) (s:Shared) (σ:St) (H:Hp) (D:Ends),Inv X pins σ H s→t D σ H→wpAny (model X.prog X.w) X.A (exec st X.env) (SP X pins D) X.xe s
def PSs (X:Cx)(st:List Stmt)(t:TS):Prop:=
 ∀(pins:List (Addr×Obj)) (s:Shared) (σ:St) (H:Hp) (D:Ends),Inv X pins σ H s→t D σ H→wpAny (model X.prog X.w) X.A (execs st X.env) (SP X pins D) X.xe s
theorem thn {α:Type}{t:Sem α}{Q Q':α→Shared→Prop}{M:Model}{A:Around}{E:Value→Shared→Prop}{s:Shared}(h:wpAny M A t Q E s)(hQ:∀a s,Q a s→Q' a s):wpAny M A t Q' E s:=wpAny_mono h hQ fun _ _ x=>x
end L2
namespace L2
open PySem PySem.Spec PyProof.Rows
section
variable {X:Cx}
def tVar (i:Nat):TE:=fun σ H Q=>∃v,σ[i]? =some (some v)∧Q v H
def tC (v:V):TE:=fun _ H Q=>Q v H
theorem pe_var {i:Nat}{x:Str}{pos:Pos}(hN:X.N[i]? =some x)(hv:Vis X.env.scope x)(hd:(x==("__debug__":Str))=false:=by decide)(hcd:(x==("__classdict__":Str))=false:=by decide):PE X (.Name x pos) (tVar i):=by
 intro pins s σ H Q I h
 obtain⟨v,e,h⟩:=h
 obtain⟨m,hn,hl⟩:=I.loc
 obtain⟨u,r,l⟩:=hl i x v hN e hv
 have fin:EP X pins σ Q u s:=⟨v,H,I,r,h⟩
 rcases l with⟨hk,hm⟩| ⟨hk,c,hc,hcell⟩
 ·exact wpAny_Name (wpAny_loadName_local I.ok.kind hk hn hm fin) hd
 ·rcases hk with hk|hk
  ·exact wpAny_Name (wpAny_loadName_cell I.ok.kind hk hc hcell fin) hd
  ·exact wpAny_Name (wpAny_loadName_free I.ok.kind hk hc hcell fin hcd) hd
theorem pe_int {i j pos}:PE X (.Constant (.int i) j pos) (tC (.int i)):=fun _ _ _ H _ I h=>wpAny_Constant_int ⟨.int i,H,I.tok _,⟨_,rfl⟩,h⟩
theorem pe_bl {b j pos}:PE X (.Constant (.bool b) j pos) (tC (.bl b)):=fun _ _ _ H _ I h=>Constant_bool ⟨.bl b,H,I,rfl,h⟩
theorem pe_non {j pos}:PE X (.Constant .none j pos) (tC .non):=fun _ _ _ H _ I h=>Constant_none ⟨.non,H,I,rfl,h⟩
theorem pe_str {x j pos}:PE X (.Constant (.str x) j pos) (tC (.str x)):=fun _ _ _ H _ I h=>Calls.Constant_str ⟨.str x,H,I.tok _,⟨_,rfl⟩,h⟩
def Gl (X:Cx)(x:Str):Prop:=X.env.kindOf x=some .globalImplicit
theorem b2O' {E:Value→Shared→Prop}{pins:List (Addr×Obj)}{s:Shared}{σ:St}{H:Hp}{x:Str}{u:Value}{pos:Pos}{Q:Value→Shared→Prop}(I:Inv X pins σ H s)(hg:Gl X x)(hm:X.mg x=some u)(h:Q u s)
  (hd:(x==("__debug__":Str))=false:=by decide):wpAny (model X.prog X.w) X.A (eval (.Name x pos) X.env) Q E s:=
 Calls.Name_function_global I.ok.kind hg (Calls.loadGlobal_global (by rw[I.ok.glob];exact I.mod.glob.keeps I.bk) hm h) hd
theorem a5C' {E:Value→Shared→Prop}{pins:List (Addr×Obj)}{s:Shared}{σ:St}{H:Hp}{x:Str}{u:Value}{pos:Pos}{Q:Value→Shared→Prop}(I:Inv X pins σ H s)(hg:Gl X x)(hm:X.mg x=none)(hv:bootBuiltins x=some u)(h:Q u s)
  (hn:x≠"__name__":=by decide) (hd:(x==("__debug__":Str))=false:=by decide):wpAny (model X.prog X.w) X.A (eval (.Name x pos) X.env) Q E s:=by
 obtain⟨mb,h1,h2⟩:=I.mod.blt
 exact Calls.Name_function_global I.ok.kind hg (Calls.loadGlobal_builtin (by rw[I.ok.glob];exact I.mod.glob.keeps I.bk) hm (by rw[I.ok.blt];exact h1.keeps I.bk) ((h2 x hn).trans hv) h) hd
theorem pe_glob {x:Str}{v:V}{u:Value}{pos:Pos}(hg:Gl X x)(hm:X.mg x=some u)(r:RelV v u)(hd:(x==("__debug__":Str))=false:=by decide):PE X (.Name x pos) (tC v):=
 fun _ _ _ H _ I h=>b2O' I hg hm ⟨v,H,I,r,h⟩ hd
theorem pe_bltn {x:Str}{v:V}{u:Value}{pos:Pos}(hg:Gl X x)(hm:X.mg x=none)(hv:bootBuiltins x=some u)(r:RelV v u)(hn:x≠"__name__":=by decide)(hd:(x==("__debug__":Str))=false:=by decide):PE X (.Name x pos) (tC v):=
 fun _ _ _ H _ I h=>a5C' I hg hm hv ⟨v,H,I,r,h⟩ hn hd
variable {a b:Expr}{ta tb:TE}{pos:Pos}
variable {tA tB':TT}{rest:List Expr}
def tAnd (t u:TT):TT:=fun σ H Q=>t σ H fun c H1=>if c=true then u σ H1 Q else Q false H1
def tOr (t u:TT):TT:=fun σ H Q=>t σ H fun c H1=>if c=true then Q true H1 else u σ H1 Q
def tNot (t:TT):TT:=fun σ H Q=>t σ H fun c H1=>Q (!c) H1
theorem pw_and1 (ha:PT X a tA):PW X (.BoolOp .And [a] pos) tA:=by
 intro wh pins s σ H Q I h
 refine isTrue_and (thn (ha pins s σ H Q I h) fun c s1 e=> ?_)
 cases c with
 |true=>exact isTrue_and_nil e
 |false=>exact e
theorem pw_or1 (ha:PT X a tA):PW X (.BoolOp .Or [a] pos) tA:=by
 intro wh pins s σ H Q I h
 refine isTrue_or (thn (ha pins s σ H Q I h) fun c s1 e=> ?_)
 cases c with
 |false=>exact isTrue_or_nil e
 |true=>exact e
theorem pw_and (ha:PT X a tA)(hb:PW X (.BoolOp .And (b::rest) pos) tB'):PW X (.BoolOp .And (a::b::rest) pos) (tAnd tA tB'):=by
 intro wh pins s σ H Q I h
 refine isTrue_and (thn (ha pins s σ H _ I h) fun c s1 ⟨H1,I1,q1⟩=> ?_)
 cases c with
 |true=>exact hb wh pins s1 σ H1 Q I1 q1
 |false=>exact⟨H1,I1,q1⟩
theorem pw_or (ha:PT X a tA)(hb:PW X (.BoolOp .Or (b::rest) pos) tB'):PW X (.BoolOp .Or (a::b::rest) pos) (tOr tA tB'):=by
 intro wh pins s σ H Q I h
 refine isTrue_or (thn (ha pins s σ H _ I h) fun c s1 ⟨H1,I1,q1⟩=> ?_)
 cases c with
 |true=>exact⟨H1,I1,q1⟩
 |false=>exact hb wh pins s1 σ H1 Q I1 q1
theorem pt_not (ha:PT X a tA):PT X (.UnaryOp .Not a pos) (tNot tA):=by
 intro pins s σ H Q I h
 exact isTrue_not (ha pins s σ H (fun c H1=>Q (!c) H1) I h)
def tAndV (ta tb:TE):TE:=fun σ H Q=>ta σ H fun x H1=>∃c,x=.bl c∧if c=true then tb σ H1 Q else Q (.bl false) H1
def tOrV (ta tb:TE):TE:=fun σ H Q=>ta σ H fun x H1=>∃c,x=.bl c∧if c=true then Q (.bl true) H1 else tb σ H1 Q
theorem pe_one {op}{t:TE}(h:PE X a t):PE X (.BoolOp op [a] pos) t:=fun pins s σ H Q I hw=>BoolOp_one (h pins s σ H Q I hw)
theorem pe_and (ha:PE X a ta)(hb:PE X (.BoolOp .And (b::rest) pos) tb):PE X (.BoolOp .And (a::b::rest) pos) (tAndV ta tb):=by
 intro pins s σ H Q I h
 refine BoolOp_and (thn (ha pins s σ H _ I h) fun v s1 ⟨x,H1,I1,r1,q1⟩=> ?_)
 obtain⟨c,rfl,q1⟩:=q1
 cases r1
 refine wpAny_truthy_bool ?_
 cases c with
 |true=>exact hb pins s1 σ H1 Q I1 q1
 |false=>exact⟨.bl false,H1,I1,rfl,q1⟩
theorem pe_or (ha:PE X a ta)(hb:PE X (.BoolOp .Or (b::rest) pos) tb):PE X (.BoolOp .Or (a::b::rest) pos) (tOrV ta tb):=by
 intro pins s σ H Q I h
 refine BoolOp_or (thn (ha pins s σ H _ I h) fun v s1 ⟨x,H1,I1,r1,q1⟩=> ?_)
 obtain⟨c,rfl,q1⟩:=q1
 cases r1
 refine wpAny_truthy_bool ?_
 cases c with
 |false=>exact hb pins s1 σ H1 Q I1 q1
 |true=>exact⟨.bl true,H1,I1,rfl,q1⟩
def tIf (t:TT)(ta tb:TE):TE:=fun σ H Q=>t σ H fun c H1=>if c=true then ta σ H1 Q else tb σ H1 Q
theorem b3B' {c:Expr}(hc:PT X c tA)(ha:PE X a ta)(hb:PE X b tb):PE X (.IfExp c a b pos) (tIf tA ta tb):=by
 intro pins s σ H Q I h
 refine wpAny_IfExp (thn (hc pins s σ H _ I h) fun d s1 ⟨H1,I1,q1⟩=> ?_)
 cases d with
 |true=>exact ha pins s1 σ H1 Q I1 q1
 |false=>exact hb pins s1 σ H1 Q I1 q1
end
end L2
namespace L2
open PySem PySem.Spec PyProof.Rows
def SqL (K:PySem.W.Frag)(H:Hp)(a:Addr)(xs:List V):Prop:=
 Rd H a (.lst xs)∨
  ∃(o:Obj) (its:Array Value) (n:Nat),K.lookup a=some o∧o.cls=.type "list"∧o.dict=none∧o.data=.seq its n∧its.size≤sizeLine∧Vals xs its.toList
def SqT (K:PySem.W.Frag)(H:Hp)(a:Addr)(xs:List V):Prop:=
 Rd H a (.tup xs)∨
  ∃(o:Obj) (its:Array Value) (n:Nat),K.lookup a=some o∧o.cls=.type "tuple"∧o.data=.seq its n∧its.size≤sizeLine∧Vals xs its.toList
def absV:Value→Option V
 | .none=>some .non
 | .bool b=>some (.bl b)
 | .int i _=>some (.int i)
 | .str x _=>some (.str x)
 | .bytes b _=>some (.byt b)
 | .float b _=>some (.flt b)
 | .ref a=>some (.ref a)
 | .type n=>some (.ty n)
 |_=>none
theorem RelV.abs {x:V}{u:Value}(r:RelV x u):absV u=some x:=by
 cases x with
 |non=>cases r;rfl
 |bl _=>cases r;rfl
 |int _=>obtain⟨t,rfl⟩:=r;rfl
 |str _=>obtain⟨t,rfl⟩:=r;rfl
 |byt _=>obtain⟨t,rfl⟩:=r;rfl
 |flt _=>obtain⟨t,rfl⟩:=r;rfl
 |ref _=>cases r;rfl
 |ty _=>cases r;rfl
theorem RelV.inj {x y:V}{u:Value}(r:RelV x u)(q:RelV y u):x=y:=Option.some.inj (r.abs.symm.trans q.abs)
theorem Vals.inj:∀{xs ys:List V} {us:List Value},Vals xs us→Vals ys us→xs=ys
 |_,_,_,.nil,.nil=>rfl
 |_,_,_,.cons r t,.cons r' t'=>by rw[r.inj r',Vals.inj t t']
section
variable {X:Cx}{pins:List (Addr×Obj)}{σ:St}{H:Hp}{s:Shared}{a:Addr}{xs ys:List V}
theorem SqL.of {K:PySem.W.Frag}(h:H a=some (.lst xs)):SqL K H a xs:=.inl (.inl h)
theorem SqT.of {K:PySem.W.Frag}(h:H a=some (.tup xs)):SqT K H a xs:=.inl (.inl h)
theorem Inv.list (I:Inv X pins σ H s)(h:SqL X.K H a xs):∃its:List Value,Vals xs its∧PlainL s.heap a its.toArray∧xs.length≤sizeLine:=by
 rcases h with h| ⟨o,its,n,hk,hc,hd,hs,hz,r⟩
 ·obtain⟨z,its,n,r,e⟩:=h.ok I.hok
  exact⟨its,r,⟨_,n,e,rfl,rfl,rfl⟩,z⟩
 ·refine⟨its.toList,r,⟨o,n,I.kIn a o hk,hc,hd,by simpa using hs⟩,?_⟩
  have e:=r.length
  simp only[Array.length_toList]at e
  omega
theorem Inv.tuple (I:Inv X pins σ H s)(h:SqT X.K H a xs):∃its:List Value,Vals xs its∧IsTup s.heap a its.toArray∧xs.length≤sizeLine:=by
 rcases h with h| ⟨o,its,n,hk,hc,hs,hz,r⟩
 ·obtain⟨z,its,r,p⟩:=h.ok I.hok
  exact⟨its,r,p,z⟩
 ·refine⟨its.toList,r,⟨o,I.kIn a o hk,hc,n,by simpa using hs⟩,?_⟩
  have e:=r.length
  simp only[Array.length_toList]at e
  omega
theorem Inv.list_inj (I:Inv X pins σ H s)(h:SqL X.K H a xs)(h':SqL X.K H a ys):xs=ys:=by
 obtain⟨its,r,⟨o,n,e,_,_,d⟩,_⟩:=I.list h
 obtain⟨its',r',⟨o',n',e',_,_,d'⟩,_⟩:=I.list h'
 rw[e]at e';cases e'
 rw[d]at d'
 injection d' with d1 _
 have:its=its':=by simpa using congrArg Array.toList d1
 subst this
 exact r.inj r'
theorem Inv.tuple_inj (I:Inv X pins σ H s)(h:SqT X.K H a xs)(h':SqT X.K H a ys):xs=ys:=by
 obtain⟨its,r,⟨o,e,_,n,d⟩,_⟩:=I.tuple h
 obtain⟨its',r',⟨o',e',_,n',d'⟩,_⟩:=I.tuple h'
 rw[e]at e';cases e'
 rw[d]at d'
 injection d' with d1 _
 have:its=its':=by simpa using congrArg Array.toList d1
 subst this
 exact r.inj r'
end
abbrev Cx.wish (X:Cx)(E:Value→Shared→Prop):Cx:={X with xe:=E}
abbrev Cx.nox (X:Cx):Cx:=X.wish fun _ _=>False
theorem Cx.Ok.wish {X:Cx}(ok:X.Ok)(E:Value→Shared→Prop):(X.wish E).Ok:=
 ⟨ok.mod,ok.kind,ok.glob,ok.blt,ok.above,ok.inj,ok.has,ok.cab,ok.hd,ok.frames,ok.stk,ok.exf,ok.bs,ok.bsz,ok.noex,ok.exfs,ok.funs,ok.frf⟩
theorem Cx.Ok.unwish {X:Cx}{E:Value→Shared→Prop}(ok:(X.wish E).Ok):X.Ok:=
 ⟨ok.mod,ok.kind,ok.glob,ok.blt,ok.above,ok.inj,ok.has,ok.cab,ok.hd,ok.frames,ok.stk,ok.exf,ok.bs,ok.bsz,ok.noex,ok.exfs,ok.funs,ok.frf⟩
section
variable {X:Cx}{pins:List (Addr×Obj)}{σ:St}{H:Hp}{s:Shared}{E:Value→Shared→Prop}
theorem Inv.wish (I:Inv X pins σ H s)(E:Value→Shared→Prop):Inv (X.wish E) pins σ H s:=⟨I.ok.wish E,I.os,I.bare,I.base,I.loc,I.cell,I.free,I.freeC,I.pin,I.hok,I.len⟩
theorem Inv.unwish (I:Inv (X.wish E) pins σ H s):Inv X pins σ H s:=⟨I.ok.unwish,I.os,I.bare,I.base,I.loc,I.cell,I.free,I.freeC,I.pin,I.hok,I.len⟩
theorem SP.unwish {D:Ends}{f:Flow}{s':Shared}(h:SP (X.wish E) pins D f s'):SP X pins D f s':=by
 cases f with
 |next=>obtain⟨σ',H',I,q⟩:=h;exact⟨σ',H',I.unwish,q⟩
 |brk=>obtain⟨σ',H',I,q⟩:=h;exact⟨σ',H',I.unwish,q⟩
 |cont=>obtain⟨σ',H',I,q⟩:=h;exact⟨σ',H',I.unwish,q⟩
 |ret u=>obtain⟨v,σ',H',I,r,q⟩:=h;exact⟨v,σ',H',I.unwish,r,q⟩
theorem PSs.nox {st:List Stmt}{t:TS}(h:PSs X.nox st t):PSs X st t:=fun pins s σ H D I hw=>
 wpAny_mono (h pins s σ H D (I.wish _) hw) (fun _ _ q=>q.unwish) fun _ _ z=>False.elim z
end
section
variable {X:Cx}{st:Stmt}{rest:List Stmt}{t u:TS}{e:Expr}{te:TE}{pos:Pos}
def tNext:TS:=fun D σ H=>D.nx σ H
def tSeq (t u:TS):TS:=fun D σ H=>t {D with nx:=u D} σ H
theorem pss_nil:PSs X [] tNext:=fun _ _ σ H _ I h=>wpAny_execs_nil ⟨σ,H,I,h⟩
theorem b3C' (h1:PS X st t)(h2:PSs X rest u):PSs X (st::rest) (tSeq t u):=by
 intro pins s σ H D I h
 refine wpAny_execs_cons (thn (h1 pins s σ H {D with nx:=u D} I h) fun f s1 q=> ?_)
 cases f with
 |next=>
  obtain⟨σ',H',I',q⟩:=q
  exact h2 pins s1 σ' H' D I' q
 |ret v=>exact q
 |brk=>exact q
 |cont=>exact q
def tBreak:TS:=fun D σ H=>D.bk σ H
def tCont:TS:=fun D σ H=>D.ct σ H
theorem ps_pass:PS X (.Pass pos) tNext:=fun _ _ σ H _ I h=>wpAny_Pass ⟨σ,H,I,h⟩
theorem b3D':PS X (.Break pos) tBreak:=fun _ _ σ H _ I h=>wpAny_Break ⟨σ,H,I,h⟩
theorem a8O':PS X (.Continue pos) tCont:=fun _ _ σ H _ I h=>wpAny_Continue ⟨σ,H,I,h⟩
theorem Inv.quiet {pins:List (Addr×Obj)}{σ:St}{H:Hp}{s:Shared}(I:Inv X pins σ H s):interactive X.env=false:=by simp[interactive,I.ok.kind]
def tDrop (te:TE):TS:=fun D σ H=>te σ H fun _ H1=>D.nx σ H1
theorem ps_expr (he:PE X e te)(hs:swapsWith e none pos.line X.env=pure false:=by rfl):PS X (.Expr e pos) (tDrop te):=by
 intro pins s σ H D I h
 exact wpAny_Expr_any (thn (he pins s σ H _ I h) fun v s1 ⟨x,H1,I1,r1,q1⟩=>⟨σ,H1,I1,q1⟩) I.quiet hs
def tRet (te:TE):TS:=fun D σ H=>te σ H D.rt
theorem ps_ret (he:PE X e te):PS X (.Return (some e) pos) (tRet te):=by
 intro pins s σ H D I h
 exact wpAny_Return_some (thn (he pins s σ H _ I h) fun v s1 ⟨x,H1,I1,r1,q1⟩=>⟨x,σ,H1,I1,r1,q1⟩)
def tRetN:TS:=fun D _ H=>D.rt .non H
theorem ps_retN:PS X (.Return none pos) tRetN:=fun _ _ σ H _ I h=>wpAny_Return_none ⟨.non,σ,H,I,rfl,h⟩
def tIfS (c:TT)(t u:TS):TS:=fun D σ H=>c σ H fun b H1=>if b=true then t D σ H1 else u D σ H1
theorem ps_if {c:Expr}{a b:List Stmt}{tc:TT}(hc:PT X c tc)(ha:PSs X a t)(hb:PSs X b u):PS X (.If c a b pos) (tIfS tc t u):=by
 intro pins s σ H D I h
 refine wpAny_If (thn (hc pins s σ H _ I h) fun d s1 ⟨H1,I1,q1⟩=> ?_)
 cases d with
 |true=>exact ha pins s1 σ H1 D I1 q1
 |false=>exact hb pins s1 σ H1 D I1 q1
end
abbrev TG:=V→St→Hp→(St→Hp→Prop)→Prop
abbrev TGs:=List V→St→Hp→(St→Hp→Prop)→Prop
def PG (X:Cx)(target:Expr)(t:TG):Prop:=
 ∀(pins:List (Addr×Obj)) (s:Shared) (σ:St) (H:Hp) (v:V) (u:Value) (Q:St→Hp→Prop),Inv X pins σ H s→RelV v u→t v σ H Q→
  wpAny (model X.prog X.w) X.A (assign target X.env u) (fun _ s'=>∃σ' H',Inv X pins σ' H' s'∧Q σ' H') X.xe s
def PGs (X:Cx)(ts:List Expr)(t:TGs):Prop:=
 ∀(pins:List (Addr×Obj)) (s:Shared) (σ:St) (H:Hp) (vs:List V) (us:List Value) (Q:St→Hp→Prop),Inv X pins σ H s→Vals vs us→t vs σ H Q→
  wpAny (model X.prog X.w) X.A (assignInOrder ((assignEach ts X.env).map (·.2)) us) (fun _ s'=>∃σ' H',Inv X pins σ' H' s'∧Q σ' H') X.xe s
abbrev TSet:=V→V→V→Hp→(Hp→Prop)→Prop
def PSet (X:Cx)(t:TSet):Prop:=
 ∀(pins:List (Addr×Obj)) (s:Shared) (σ:St) (H:Hp) (o i v:V) (ov iv u:Value) (Q:Hp→Prop),Inv X pins σ H s→RelV o ov→RelV i iv→RelV v u→t o i v H Q→
  wpAny (model X.prog X.w) X.A (setItem ov iv u) (fun _ s'=>∃H',Inv X pins σ H' s'∧Q H') X.xe s
section
variable {X:Cx}{pos:Pos}
def gName (i:Nat):TG:=fun v σ H Q=>Q (σ.set i (some v)) H
theorem pg_name {i:Nat}{x:Str}(hN:X.N.Nodup)(hi:X.N[i]? =some x)(hx:Loc X.env.scope x)(hf:X.fn x=true∨X.env.scope.names.lookup x=some .local:=by first|exact .inl rfl|exact .inr rfl|assumption):PG X (.Name x pos) (gName i):=by
 intro pins s σ H v u Q I r h
 exact wpAny_assign_Name (a9z' I hN hi hx r (fun s' I'=>⟨_,H,I',h⟩) hf)
def gNil:TGs:=fun vs σ H Q=>vs=[]∧Q σ H
def gCons (t:TG)(u:TGs):TGs:=fun vs σ H Q=>∃v r,vs=v::r∧t v σ H fun σ' H'=>u r σ' H' Q
theorem pgs_nil:PGs X [] gNil:=by
 intro pins s σ H vs us Q I r h
 obtain⟨e,h⟩:=h
 subst e
 cases r
 exact assignInOrder_nil ⟨σ,H,I,h⟩
theorem b3E' {e:Expr}{es:List Expr}{t:TG}{u:TGs}(h1:PG X e t)(h2:PGs X es u)
  (hs:(assignEach (e::es) X.env).map (·.2)=assign e X.env::(assignEach es X.env).map (·.2):=by rfl):PGs X (e::es) (gCons t u):=by
 intro pins s σ H vs us Q I r h
 obtain⟨v,vr,e1,h⟩:=h
 subst e1
 cases r with
 |cons r rr=>
  rw[hs]
  refine assignInOrder_cons (thn (h1 pins s σ H _ _ _ I r h) fun _ s1 ⟨σ1,H1,I1,q1⟩=> ?_)
  exact h2 pins s1 σ1 H1 _ _ Q I1 rr q1
def gTup (K:PySem.W.Frag)(n:Nat)(t:TGs):TG:=fun v σ H Q=>∃a xs,v=.ref a∧SqT K H a xs∧xs.length=n∧t xs σ H Q
theorem pg_tup {es:List Expr}{k:Nat}{t:TGs}{n:Nat}(hc:X.calm=true)(h:PGs X es t)
  (hn:(assignEach es X.env).length=n:=by rfl) (hst:(assignEach es X.env).findIdx? (·.1)=none:=by rfl):PG X (.Tuple es k pos) (gTup X.K n t):=by
 intro pins s σ H v u Q I r hw
 obtain⟨a,xs,e1,hq,hl,hw⟩:=hw
 subst e1
 cases r
 obtain⟨its,rv,ht,hz⟩:=I.tuple hq
 refine assign_Tuple_tuple (I.ok.hd hc) ht (by simp[hn,←hl,rv.length]) hst fun h' hx=> ?_
 have I1:Inv X pins σ H {s with heap:=h'}:=I.kept (t':=s.toks) fun b o e=>hx b o (Nat.ne_of_lt (Heap.lt_size e)) e
 exact h pins _ σ H xs _ Q I1 (by simpa using rv) hw
def gSub (to ti:TE)(t:TSet):TG:=fun v σ H Q=>to σ H fun o H1=>ti σ H1 fun i H2=>t o i v H2 fun H3=>Q σ H3
theorem pg_sub {o i:Expr}{to ti:TE}{t:TSet}(ho:PE X o to)(hi:PE X i ti)(hs:PSet X t)
  (ha:∀v,assign (.Subscript o i pos) X.env v=(do
   let ov ←holding [v] (eval o X.env)
   let iv ←holding [v,ov] (eval i X.env)
   standAt pos
   holding [v,ov,iv] (setItem ov iv v)
   release [v,ov,iv] []):=by intro _;rfl):PG X (.Subscript o i pos) (gSub to ti t):=by
 intro pins s σ H v u Q I r h
 rw[ha]
 refine wpAny_bind (wpAny_holding (thn (ho pins s σ H _ I h) fun ov s1 ⟨x,H1,I1,r1,q1⟩=> ?_))
 refine wpAny_bind (wpAny_holding (thn (hi pins s1 σ H1 _ I1 q1) fun iv s2 ⟨y,H2,I2,r2,q2⟩=> ?_))
 refine wpAny_bind (wpAny_standAt (wpAny_bind (wpAny_holding (thn (hs pins s2 σ H2 x y v ov iv u _ I2 r1 r2 r q2) fun _ s3 ⟨H3,I3,q3⟩=> ?_))))
 exact wpAny_release ⟨σ,H3,I3,q3⟩
def tAsg (te:TE)(g:TG):TS:=fun D σ H=>te σ H fun x H1=>g x σ H1 D.nx
theorem ps_asg {tg e:Expr}{te:TE}{g:TG}(he:PE X e te)(hg:PG X tg g)(hs:swapsWithSole [tg] e pos.line X.env=pure false:=by rfl)(hw:swappedStores [tg] e X.env=pure none:=by rfl)
  (h1:(assignEach [tg] X.env).map (·.2)=[assign tg X.env]:=by rfl):PS X (.Assign [tg] e pos) (tAsg te g):=by
 intro pins s σ H D I h
 refine wpAny_Assign_stores (thn (he pins s σ H _ I h) fun v s1 ⟨x,H1,I1,r1,q1⟩=> ?_) hs hw
 rw[h1]
 exact thn (hg pins s1 σ H1 x v _ I1 r1 q1) fun _ s2 q=>q
theorem ps_set {i:Nat}{x:Str}{e:Expr}{te:TE}{pos':Pos}(hN:X.N.Nodup)(hi:X.N[i]? =some x)(hx:Loc X.env.scope x)(he:PE X e te)(hs:swapsWith e (some (.Name x pos')) pos.line X.env=pure false:=by rfl)(hf:X.fn x=true∨X.env.scope.names.lookup x=some .local:=by first|exact .inl rfl|exact .inr rfl|assumption):
  PS X (.Assign [.Name x pos'] e pos) (tAsg te (gName i)):=by
 intro pins s σ H D I h
 refine wpAny_Assign_Name (thn (he pins s σ H _ I h) fun v s1 ⟨y,H1,I1,r1,q1⟩=> ?_) hs
 exact a9z' I1 hN hi hx r1 (fun s2 I2=>⟨_,H1,I2,q1⟩) hf
end
section
variable {X:Cx}{pos:Pos}
def tWhile (c:TT)(tb:TS):TS:=fun D σ H=>∃W:Nat→St→Hp→Prop,(∃m,W m σ H)∧∀m σ H,W m σ H→
 c σ H fun b H1=>if b=true then ∃N:St→Hp→Prop,(∀σ' H',N σ' H'→∃m',m'<m∧W m' σ' H')∧tb {D with nx:=N,ct:=N,bk:=D.nx} σ H1 else D.nx σ H1
theorem b3F' {c:Expr}{body:List Stmt}{tc:TT}{tb:TS}(hp:PassesOwn (model X.prog X.w) X.A X.env X.xe)(hc:PT X c tc)(hb:PSs X body tb):PS X (.While c body [] pos) (tWhile tc tb):=by
 intro pins s σ H D I h
 obtain⟨W,⟨m0,w0⟩,turn⟩:=h
 refine wpAny_While (codeAny_whileLoop (fun n s'=>∃σ' H',Inv X pins σ' H' s'∧W n σ' H') ?_ m0 ⟨σ,H,I,w0⟩)
 rintro n s1 ⟨σ1,H1,I1,w1⟩
 refine wpAny_passesOwn hp (thn (hc pins s1 σ1 H1 _ I1 (turn n σ1 H1 w1)) fun b s2 ⟨H2,I2,q2⟩=> ?_)
 cases b with
 |true=>
  obtain⟨N,hN,q2⟩:=q2
  rw[if_pos rfl]
  refine wpAny_passesOwn hp (thn (hb pins s2 σ1 H2 _ I2 q2) fun f s3 q3=> ?_)
  cases f with
  |next=>
   obtain⟨σ3,H3,I3,n3⟩:=q3
   obtain⟨m',hm,w3⟩:=hN σ3 H3 n3
   exact⟨m',hm,σ3,H3,I3,w3⟩
  |cont=>
   obtain⟨σ3,H3,I3,n3⟩:=q3
   obtain⟨m',hm,w3⟩:=hN σ3 H3 n3
   exact⟨m',hm,σ3,H3,I3,w3⟩
  |brk=>exact q3
  |ret v=>exact q3
 |false=>
  rw[if_neg Bool.false_ne_true]
  exact wpAny_execs_nil ⟨σ1,H2,I2,q2⟩
end
structure It where
 go:Nat→Hp→Prop
 yld:Nat→Hp→V→Hp→Prop
 stop:Nat→Hp→Prop
def FpOk (X:Cx)(pins:List (Addr×Obj))(H:Hp)(b:Addr):Prop:=
 H b=none∧b≠X.env.locals∧b∉X.fs∧(b∈X.ex∨X.s₀.heap.objs.size≤b)∧(∀x c,X.env.cells.lookup x=some c→c≠b)∧∀p∈X.pn++pins,p.1≠b
theorem Inv.fpOk {X:Cx}{pins:List (Addr×Obj)}{σ:St}{H H':Hp}{s:Shared}{b:Addr}(I:Inv X pins σ H s)(hb:s.heap.objs.size≤b)(hn:H' b=none):FpOk X pins H' b:=by
 refine⟨hn,Nat.ne_of_gt (Nat.lt_of_lt_of_le I.lt hb),I.nofs hb,.inr (Nat.le_trans I.sz hb),fun x c e z=> ?_,fun p hp z=> ?_⟩
 ·obtain⟨v,q⟩:=I.cell x c e
  exact absurd (Nat.lt_of_lt_of_le q.lt (by rw[z];exact hb)) (Nat.lt_irrefl _)
 ·exact absurd (Nat.lt_of_lt_of_le (Heap.lt_size (I.pin p hp).1) (by rw[z];exact hb)) (Nat.lt_irrefl _)
structure Turn (P:Program)(w:World)(K:PySem.W.Frag)(tg:Expr)(J:It)(fp:List Addr)(it:Addr)(tn:Nat→Heap→Prop):Prop where
 mem:it∈fp
 obj:∀i h,tn i h→∀b∈fp,∃o,h.get? b=some o∧∀v,o.data≠.cell v
 keep:∀i h h',tn i h→(∀b∈fp,∀o,h.get? b=some o→h'.get? b=some o)→tn i h'
 item:∀(X:Cx),X.prog=P→X.w=w→X.K=K→X.calm=true→∀(i:Nat) (pins:List (Addr×Obj)) (s:Shared) (σ:St) (H:Hp) (E:Value→Shared→Prop),Inv X pins σ H s→(∀b∈fp,FpOk X pins H b)→tn i s.heap→J.go i H→
  wpAny (model P w) X.A (pyNext (.ref it)) (fun r s1=>∃u,r=some u∧
   wpAny (model P w) X.A (letOwnedTupleGo tg (.ref it) u) (fun _ s2=>∃x H',Inv X pins σ H' s2∧RelV x u∧J.yld i H x H'∧tn (i+1) s2.heap∧∀b∈fp,H' b=none) E s1) E s
 done:∀(X:Cx),X.prog=P→X.w=w→X.K=K→X.calm=true→∀(i:Nat) (pins:List (Addr×Obj)) (s:Shared) (σ:St) (H:Hp) (E:Value→Shared→Prop),Inv X pins σ H s→(∀b∈fp,FpOk X pins H b)→tn i s.heap→J.stop i H→
  wpAny (model P w) X.A (pyNext (.ref it)) (fun r s1=>r=none∧Inv X pins σ H s1) E s
 self:∀(A:Around) (i:Nat) (s:Shared) (Q:Value→Shared→Prop) (E:Value→Shared→Prop),tn i s.heap→Q (.ref it) s→wpAny (model P w) A (pyIter (.ref it)) Q E s
abbrev TI:=St→Hp→(It→Hp→Prop)→Prop
def PIE (X:Cx)(pins:List (Addr×Obj))(σ:St)(tg:Expr)(R:It→Hp→Prop)(itv:Value)(s2:Shared):Prop:=
 ∃(it:Addr) (fp:List Addr) (tn:Nat→Heap→Prop) (J:It) (H':Hp),itv=.ref it∧Inv X pins σ H' s2∧Turn X.prog X.w X.K tg J fp it tn∧tn 0 s2.heap∧(∀b∈fp,FpOk X pins H' b)∧R J H'
def PI (X:Cx)(tg iter:Expr)(wi:TI):Prop:=
 ∀(pins:List (Addr×Obj)) (s:Shared) (σ:St) (H:Hp) (R:It→Hp→Prop),Inv X pins σ H s→wi σ H R→
  wpAny (model X.prog X.w) X.A (eval iter X.env) (fun v s1=>wpAny (model X.prog X.w) X.A (pyIter v) (PIE X pins σ tg R) X.xe s1) X.xe s
theorem go_of {M:Model}{A:Around}{E:Value→Shared→Prop}{s:Shared}{tg:Expr}{it:Addr}{u:Value}{o:Obj}{n:String}{vs:Array Value}{Q:Unit→Shared→Prop}(ho:s.heap.get? it=some o)(hc:o.cls=.type n)(hd:o.data=.fields vs)
  (hn:["enumerate","zip","dict_itemiterator","dict_reverseitemiterator","odict_iterator","itertools.zip_longest","itertools.pairwise"].contains n=false) (hQ:Q () s):wpAny M A (letOwnedTupleGo tg (.ref it) u) Q E s:=by
 unfold letOwnedTupleGo
 cases tg<;>first
  |exact wpAny_pure hQ
  | (cases u<;>first
    |exact wpAny_pure hQ
    | (refine wpAny_bind (wpAny_load ho ?_)
       rw[hc,hd]
       show wpAny M A (if(["enumerate","zip","dict_itemiterator","dict_reverseitemiterator","odict_iterator","itertools.zip_longest","itertools.pairwise"].contains n&&vs[0]? ==some (rawInt _))=true then _ else _) Q E s
       rw[if_neg (by intro h;rw[hn,Bool.false_and]at h;cases h)]
       exact wpAny_pure hQ))
def Itl (K:PySem.W.Frag)(a:Addr):It:=
 ⟨fun i H=>∃xs x,SqL K H a xs∧xs[i]? =some x,fun i H x H'=>H'=H∧∀xs,SqL K H a xs→xs[i]? =some x,fun i H=>∃xs,SqL K H a xs∧xs.length≤i⟩
def Itt (K:PySem.W.Frag)(a:Addr):It:=
 ⟨fun i H=>∃xs x,SqT K H a xs∧xs[i]? =some x,fun i H x H'=>H'=H∧∀xs,SqT K H a xs→xs[i]? =some x,fun i H=>∃xs,SqT K H a xs∧xs.length≤i⟩
def Itr (lo:Int)(n:Nat):It:=⟨fun i _=>i<n,fun i H x H'=>H'=H∧x=.int (lo+i),fun i _=>n≤i⟩
theorem b1x' {P:Program}{w:World}{K:PySem.W.Frag}{tg:Expr}(a it:Addr):Turn P w K tg (Itl K a) [it] it (fun i h=>h.IsListIter it a i) where
 mem:=by simp
 obj:=fun i h st b hb=>by
  have e:b=it:=by simpa using hb
  subst e
  obtain⟨o,e,c,d⟩:=st
  exact⟨o,e,fun v z=>by rw[d]at z;cases z⟩
 keep:=fun i h h' st k=>st.at fun o e=>k it (by simp) o e
 item:=by
  intro X hP hw hK hc i pins s σ H E I hf st hg
  subst hP hw hK
  obtain⟨xs,x,hq,hx⟩:=hg
  obtain⟨its,rv,p,hz⟩:=I.list hq
  obtain⟨u,hu,ru⟩:=rv.get hx
  obtain⟨f0,f1,f2,f3,f4,f5⟩:=hf it (by simp)
  refine wpAny_pyNext_list_item st p.isList (x:=u) (by simpa using hu) fun h' st' sb=> ?_
  have I1:Inv X pins σ H {s with heap:=h'}:=I.turned (t':=s.toks) (fun b o hb e=>(sb.2 b hb).trans e) f0 f1 f3 f4 f5
  obtain⟨o,e,c,d⟩:=id st'
  exact⟨u,rfl,go_of (s:={s with heap:=h'}) e c d (by decide) ⟨x,H,I1,ru,⟨rfl,fun ys hy=>by rw[I.list_inj hy hq];exact hx⟩,st',fun b hb=>(hf b hb).1⟩⟩
 done:=by
  intro X hP hw hK hc i pins s σ H E I hf st hg
  subst hP hw hK
  obtain⟨xs,hq,hx⟩:=hg
  obtain⟨its,rv,p,hz⟩:=I.list hq
  obtain⟨f0,f1,f2,f3,f4,f5⟩:=hf it (by simp)
  have hl:=rv.length
  exact wpAny_pyNext_list_end (I.ok.hd hc) st p.isList (by simp;omega) fun h' eb=>⟨rfl,I.turned (t':=s.toks) (fun b o hb e=>eb b o hb e) f0 f1 f3 f4 f5⟩
 self:=fun _ _ _ _ _ st h=>wpAny_pyIter_listiter st h
theorem a9A' {P:Program}{w:World}{K:PySem.W.Frag}{tg:Expr}(a it:Addr):Turn P w K tg (Itt K a) [it] it (fun i h=>h.IsTupleIter it a i) where
 mem:=by simp
 obj:=fun i h st b hb=>by
  have e:b=it:=by simpa using hb
  subst e
  obtain⟨o,e,c,d⟩:=st
  exact⟨o,e,fun v z=>by rw[d]at z;cases z⟩
 keep:=fun i h h' st k=>st.at fun o e=>k it (by simp) o e
 item:=by
  intro X hP hw hK hc i pins s σ H E I hf st hg
  subst hP hw hK
  obtain⟨xs,x,hq,hx⟩:=hg
  obtain⟨its,rv,p,hz⟩:=I.tuple hq
  obtain⟨u,hu,ru⟩:=rv.get hx
  obtain⟨f0,f1,f2,f3,f4,f5⟩:=hf it (by simp)
  refine wpAny_pyNext_tuple_item st (show s.heap.IsTuple a its.toArray from p) (x:=u) (by simpa using hu) fun h' st' sb=> ?_
  have I1:Inv X pins σ H {s with heap:=h'}:=I.turned (t':=s.toks) (fun b o hb e=>(sb.2 b hb).trans e) f0 f1 f3 f4 f5
  obtain⟨o,e,c,d⟩:=id st'
  exact⟨u,rfl,go_of (s:={s with heap:=h'}) e c d (by decide) ⟨x,H,I1,ru,⟨rfl,fun ys hy=>by rw[I.tuple_inj hy hq];exact hx⟩,st',fun b hb=>(hf b hb).1⟩⟩
 done:=by
  intro X hP hw hK hc i pins s σ H E I hf st hg
  subst hP hw hK
  obtain⟨xs,hq,hx⟩:=hg
  obtain⟨its,rv,p,hz⟩:=I.tuple hq
  obtain⟨f0,f1,f2,f3,f4,f5⟩:=hf it (by simp)
  have hl:=rv.length
  exact wpAny_pyNext_tuple_end (I.ok.hd hc) st (show s.heap.IsTuple a its.toArray from p) (by simp;omega) fun h' eb=>⟨rfl,I.turned (t':=s.toks) (fun b o hb e=>eb b o hb e) f0 f1 f3 f4 f5⟩
 self:=fun _ _ _ _ _ st h=>wpAny_pyIter_tupleiter st h
theorem a9B' {P:Program}{w:World}{K:PySem.W.Frag}{tg:Expr}(it:Addr)(lo:Int)(n:Nat):Turn P w K tg (Itr lo n) [it] it (fun i h=>IsRangeIter h it (lo+(i:Nat)*1) ((n:Int)-(i:Nat)) 1) where
 mem:=by simp
 obj:=fun i h st b hb=>by
  have e:b=it:=by simpa using hb
  subst e
  exact⟨_,st,fun v z=>by
   have z':Data.fields _=Data.cell v:=z
   cases z'⟩
 keep:=fun i h h' st k=>k it (by simp) _ st
 item:=by
  intro X hP hw hK hc i pins s σ H E I hf st hg
  subst hP hw hK
  obtain⟨f0,f1,f2,f3,f4,f5⟩:=hf it (by simp)
  have W:=Walks.range (prog:=X.prog) (w:=X.w) (I.ok.hd hc) it lo 1 n
  refine W.item i s _ _ hg st fun v h' tk hv st' kk=> ?_
  obtain⟨t,rfl⟩:=hv
  have I1:Inv X pins σ H {s with heap:=h',toks:=tk}:=I.turned (fun b o hb e=>kk b o (by simpa using hb) e) f0 f1 f3 f4 f5
  refine⟨_,rfl,go_of (s:={s with heap:=h',toks:=tk}) (n:="range_iterator") st' rfl rfl (by decide) ⟨.int (lo+i),H,I1,⟨t,?_⟩,⟨rfl,rfl⟩,st',fun b hb=>(hf b hb).1⟩⟩
  rw[Int.mul_one]
 done:=by
  intro X hP hw hK hc i pins s σ H E I hf st hg
  subst hP hw hK
  obtain⟨f0,f1,f2,f3,f4,f5⟩:=hf it (by simp)
  exact wpAny_pyNext_range_end (I.ok.hd hc) st (by have:n≤i:=hg;omega) fun h' eb=>⟨rfl,I.turned (t':=s.toks) (fun b o hb e=>eb b o hb e) f0 f1 f3 f4 f5⟩
 self:=fun _ _ _ _ _ st h=>wpAny_pyIter_rangeiter st h
end L2
namespace L2
open PySem PySem.Spec PyProof.Rows
section
variable {X:Cx}{tg:Expr}
theorem a9C' {pins:List (Addr×Obj)}{σ:St}{H:Hp}{s:Shared}{R:It→Hp→Prop}{E:Value→Shared→Prop}{lo hi:Int}{t u v:Tok}{tk:Nat}(I:Inv X pins σ H s)(h1: -(2^62)≤lo)(h2:lo<2^62)(h3: -(2^62)≤hi)(h4:hi<2^62)
  (q:R (Itr lo (hi-lo).toNat) H):wpAny (model X.prog X.w) X.A (pyIter (.ref s.heap.objs.size)) (PIE X pins σ tg R) E {s with heap:=s.heap.push {cls:=.type "range",data:=.fields #[.int lo t,.int hi u,.int 1 v]},toks:=tk}:=by
 refine wpAny_pyIter_range (IsRange.new ..) (small_one h1 h2 h3 h4) ?_
 have I1:Inv X pins σ H {s with heap:=s.heap.push {cls:=.type "range",data:=.fields #[.int lo t,.int hi u,.int 1 v]},toks:=tk}:=I.kept fun b o e=>Heap.get?_push_of_some _ e
 refine⟨(s.heap.push {cls:=.type "range",data:=.fields #[.int lo t,.int hi u,.int 1 v]}).objs.size,[(s.heap.push {cls:=.type "range",data:=.fields #[.int lo t,.int hi u,.int 1 v]}).objs.size],_,_,H,rfl,
  I1.kept (t':=tk) fun b o e=>Heap.get?_push_of_some _ e,a9B' _ lo (hi-lo).toNat,?_,fun b hb=> ?_,q⟩
 ·have e1:lo+((0:Nat):Int)*1=lo:=by simp
  have e2:(((hi-lo).toNat:Nat):Int)-((0:Nat):Int)=Builtin.Range.rangeSize lo hi 1:=by rw[rangeSize_one];split<;>omega
  show IsRangeIter _ _ (lo+((0:Nat):Int)*1) ((((hi-lo).toNat:Nat):Int)-((0:Nat):Int)) 1
  rw[e1,e2]
  exact Heap.get?_push_size _ rfl
 ·have e:b=(s.heap.push {cls:=.type "range",data:=.fields #[.int lo t,.int hi u,.int 1 v]}).objs.size:=by simpa using hb
  subst e
  exact I1.fpOk (Nat.le_refl _) (I1.hok.fresh (Nat.le_refl _))
def iRng1 (ta:TA):TI:=fun σ H R=>ta σ H fun vs H1=>∃j:Int,vs=[.int j]∧-(2^62)≤j∧j<2^62∧R (Itr 0 j.toNat) H1
def iRng2 (ta:TA):TI:=fun σ H R=>ta σ H fun vs H1=>∃i j:Int,vs=[.int i,.int j]∧(-(2^62)≤i∧i<2^62∧-(2^62)≤j∧j<2^62)∧R (Itr i (j-i).toNat) H1
theorem b1y' {a:Expr}{ta:TA}{p pos:Pos}(hg:Gl X "range")(hm:X.mg "range"=none)(ha:PA X [a] ta)(hs:starEach [a] X.env=[(false,eval a X.env)]:=by rfl):PI X tg (.Call (.Name "range" p) [a] [] pos) (iRng1 ta):=by
 intro pins s σ H R I h
 refine Call_ (a5C' I hg hm boot_range (PyProof.Rows.callWith_type1 (thn (ha pos pins s σ H _ I h) fun us s1 ⟨vs,H1,I1,r1,q1⟩=> ?_) hs rfl))
 obtain⟨j,e,q1,q2,q⟩:=q1
 subst e
 cases r1 with
 |cons r rr=>
  cases rr
  obtain⟨t,rfl⟩:=r
  exact call_range_1 (a9C' I1 (by omega) (by omega) q1 q2 (by simpa using q))
theorem b1z' {a b:Expr}{ta:TA}{p pos:Pos}(hg:Gl X "range")(hm:X.mg "range"=none)(ha:PA X [a,b] ta)(hs:starEach [a,b] X.env=[(false,eval a X.env),(false,eval b X.env)]:=by rfl)(hs2:starEach [b] X.env=[(false,eval b X.env)]:=by rfl):
  PI X tg (.Call (.Name "range" p) [a,b] [] pos) (iRng2 ta):=by
 intro pins s σ H R I h
 refine Call_ (a5C' I hg hm boot_range (PyProof.Rows.callWith_type1 (thn (ha pos pins s σ H _ I h) fun us s1 ⟨vs,H1,I1,r1,q1⟩=> ?_) (by rw[hs,hs2]) (by rw[hs2];rfl)))
 obtain⟨i,j,e,⟨q1,q2,q3,q4⟩,q⟩:=q1
 subst e
 cases r1 with
 |cons r rr=>
  cases rr with
  |cons r' rr=>
   cases rr
   obtain⟨t,rfl⟩:=r
   obtain⟨t',rfl⟩:=r'
   exact call_range_2 (a9C' I1 q1 q2 q3 q4 q)
def tFor (wi:TI)(g:TG)(tb:TS):TS:=fun D σ H=>wi σ H fun J H1=>∃W:Nat→Nat→St→Hp→Prop,(∃m,W 0 m σ H1)∧∀i m σ H,W i m σ H→
 (J.stop i H∧D.nx σ H)∨(J.go i H∧∃N:St→Hp→Prop,(∀σ' H',N σ' H'→∃m',m'<m∧W (i+1) m' σ' H')∧∀x H',J.yld i H x H'→g x σ H' fun σ2 H2=>tb {D with nx:=N,ct:=N,bk:=D.nx} σ2 H2)
def b1A' (fp:List Addr)(h:Heap):List (Addr×Obj):=fp.filterMap fun b=>(h.get? b).map fun o=>(b,o)
theorem a2F' {fp:List Addr}{h:Heap}{b:Addr}{o:Obj}(hb:b∈fp)(e:h.get? b=some o):(b,o)∈b1A' fp h:=List.mem_filterMap.mpr ⟨b,hb,by rw[e];rfl⟩
theorem b1B' {fp:List Addr}{h:Heap}{p:Addr×Obj}(hp:p∈b1A' fp h):p.1∈fp∧h.get? p.1=some p.2:=by
 obtain⟨b,hb,e⟩:=List.mem_filterMap.mp hp
 cases q:h.get? b with
 |none=>rw[q]at e;cases e
 |some o=>
  rw[q]at e
  have e':(b,o)=p:=Option.some.inj e
  subst e'
  exact⟨hb,q⟩
theorem Inv.pinned {pins:List (Addr×Obj)}{σ:St}{H:Hp}{s:Shared}{fp:List Addr}(I:Inv X pins σ H s)(hf:∀b∈fp,FpOk X pins H b)(ho:∀b∈fp,∃o,s.heap.get? b=some o∧∀v,o.data≠.cell v):Inv X (pins++b1A' fp s.heap) σ H s:=
 I.pins_of fun p hp=>(List.mem_append.mp hp).elim (fun z=>I.pin p (List.mem_append_right _ z)) fun z=>by
  obtain⟨hb,e⟩:=b1B' z
  obtain⟨f0,f1,f2,_⟩:=hf p.1 hb
  obtain⟨o,e',d⟩:=ho p.1 hb
  rw[e]at e';cases e'
  exact⟨e,f0,f1,f2,d⟩
theorem Inv.unpinned {pins pl:List (Addr×Obj)}{σ:St}{H:Hp}{s:Shared}(I:Inv X (pins++pl) σ H s):Inv X pins σ H s:=I.pins_of fun p hp=>I.pin p (List.mem_append_right _ (List.mem_append_left _ hp))
theorem ps_for {iter:Expr}{body:List Stmt}{wi:TI}{g:TG}{tb:TS}{pos:Pos}(hp:PassesOwn (model X.prog X.w) X.A X.env X.xe)(hc:X.calm=true)(hi:PI X tg iter wi)(hg:PG X tg g)(hb:PSs X body tb)
  (hs:∀x,foldedSetIterable iter X.env x=pure x:=by intro _;rfl):PS X (.For tg iter body [] pos) (tFor wi g tb):=by
 intro pins s σ H D I h
 refine wpAny_For (thn (hi pins s σ H _ I h) fun v s1 h1=>thn h1 fun itv s2 h2=> ?_) hs
 obtain⟨it,fp,tn,J,H2,e,I2,T,st2,f2,W,⟨m0,w0⟩,turn⟩:=h2
 subst e
 have stat:∀{H':Hp},(∀b∈fp,H' b=none)→∀b∈fp,FpOk X pins H' b:=fun hn b hb=>⟨hn b hb,(f2 b hb).2⟩
 refine codeAny_forLoop_any (fun n s'=>∃i σ' H',Inv X pins σ' H' s'∧tn i s'.heap∧(∀b∈fp,H' b=none)∧W i n σ' H') ?_ m0 ⟨0,σ,H2,I2,st2,fun b hb=>(f2 b hb).1,w0⟩
 rintro n s3 ⟨i,σ3,H3,I3,st3,fr3,w3⟩
 rcases turn i n σ3 H3 w3 with⟨stop,qn⟩| ⟨go,N,hN,step⟩
 ·refine wpAny_passesOwn hp (thn (T.done X rfl rfl rfl hc i pins s3 σ3 H3 X.xe I3 (stat fr3) st3 stop) fun r s4 ⟨hr,I4⟩=> ?_)
  subst hr
  exact wpAny_execs_nil ⟨σ3,H3,I4,qn⟩
 ·refine wpAny_passesOwn hp (thn (T.item X rfl rfl rfl hc i pins s3 σ3 H3 X.xe I3 (stat fr3) st3 go) fun r s4 ⟨u,hr,h4⟩=> ?_)
  subst hr
  refine wpAny_passesOwn hp (thn h4 fun _ s5 ⟨x,H5,I5,r5,y5,st5,fr5⟩=> ?_)
  have I5':=I5.pinned (stat fr5) (T.obj _ _ st5)
  refine wpAny_passesOwn hp (thn (hg _ s5 σ3 H5 x u _ I5' r5 (step x H5 y5)) fun _ s6 ⟨σ6,H6,I6,q6⟩=> ?_)
  refine wpAny_passesOwn hp (thn (hb _ s6 σ6 H6 _ I6 q6) fun f s7 q7=> ?_)
  have again:∀{σ7:St} {H7:Hp},Inv X (pins++b1A' fp s5.heap) σ7 H7 s7→N σ7 H7→∃m,m<n∧∃i σ' H',Inv X pins σ' H' s7∧tn i s7.heap∧(∀b∈fp,H' b=none)∧W i m σ' H':=fun{σ7 H7} I7 n7=>by
   obtain⟨m',hm,w7⟩:=hN σ7 H7 n7
   refine⟨m',hm,i+1,σ7,H7,I7.unpinned,T.keep _ _ _ st5 fun b hb o e=>(I7.pin (b,o) (List.mem_append_right _ (List.mem_append_right _ (a2F' hb e)))).1,fun b hb=> ?_,w7⟩
   obtain⟨o,e,d⟩:=T.obj _ _ st5 b hb
   exact(I7.pin (b,o) (List.mem_append_right _ (List.mem_append_right _ (a2F' hb e)))).2.1
  cases f with
  |next=>obtain⟨σ7,H7,I7,n7⟩:=q7;exact again I7 n7
  |cont=>obtain⟨σ7,H7,I7,n7⟩:=q7;exact again I7 n7
  |brk=>obtain⟨σ7,H7,I7,q7⟩:=q7;exact⟨σ7,H7,I7.unpinned,q7⟩
  |ret v=>obtain⟨x7,σ7,H7,I7,r7,q7⟩:=q7;exact⟨x7,σ7,H7,I7.unpinned,r7,q7⟩
end
end L2
namespace L2
open PySem PySem.Spec PyProof.Rows
abbrev R2:=V→V→Hp→VK→Prop
def OpR (X:Cx)(f:Value→Value→Sem Value)(r:R2):Prop:=
 ∀(pins:List (Addr×Obj)) (s:Shared) (σ:St) (H:Hp) (x y:V) (v u:Value) (Q:VK),Inv X pins σ H s→RelV x v→RelV y u→r x y H Q→
  wpAny (model X.prog X.w) X.A (f v u) (EP X pins σ Q) X.xe s
def UnR (X:Cx)(f:Value→Sem Value)(r:V→Hp→VK→Prop):Prop:=
 ∀(pins:List (Addr×Obj)) (s:Shared) (σ:St) (H:Hp) (x:V) (v:Value) (Q:VK),Inv X pins σ H s→RelV x v→r x H Q→
  wpAny (model X.prog X.w) X.A (f v) (EP X pins σ Q) X.xe s
def CallR (X:Cx)(f:Value)(r:List V→Hp→VK→Prop):Prop:=
 ∀(pins:List (Addr×Obj)) (s:Shared) (σ:St) (H:Hp) (xs:List V) (us:List Value) (Q:VK),Inv X pins σ H s→Vals xs us→r xs H Q→
  wpAny (model X.prog X.w) X.A (call f us) (EP X pins σ Q) X.xe s
def TruR (X:Cx)(r:V→Hp→(Bool→Hp→Prop)→Prop):Prop:=
 ∀(pins:List (Addr×Obj)) (s:Shared) (σ:St) (H:Hp) (x:V) (v:Value) (Q:Bool→Hp→Prop),Inv X pins σ H s→RelV x v→r x H Q→
  wpAny (model X.prog X.w) X.A (truthy v) (TP X pins σ Q) X.xe s
def tOp (r:R2)(ta tb:TE):TE:=fun σ H Q=>ta σ H fun x H1=>tb σ H1 fun y H2=>r x y H2 Q
def tUn (r:V→Hp→VK→Prop)(ta:TE):TE:=fun σ H Q=>ta σ H fun x H1=>r x H1 Q
def rI (C:Int→Int→Prop)(g:Int→Int→V):R2:=fun x y H Q=>∃i j,x=.int i∧y=.int j∧C i j∧Q (g i j) H
def rI0 (g:Int→Int→V):R2:=fun x y H Q=>∃i j,x=.int i∧y=.int j∧Q (g i j) H
def rU (g:Int→V):V→Hp→VK→Prop:=fun x H Q=>∃i,x=.int i∧Q (g i) H
section
variable {X:Cx}{a b c:Expr}{ta tb tc:TE}{pos:Pos}
theorem binT (ha:PE X a ta)(hb:PE X b tb){pins:List (Addr×Obj)}{s:Shared}{σ:St}{H:Hp}{R:V→V→Hp→Prop}(I:Inv X pins σ H s)
  (h:ta σ H fun x H1=>tb σ H1 fun y H2=>R x y H2) {Q:Value→Shared→Prop} {f:Value→Value→Sem Value}
  (hf:∀v u s2 x y H2,Inv X pins σ H2 s2→RelV x v→RelV y u→R x y H2→wpAny (model X.prog X.w) X.A (f v u) Q X.xe s2):
  wpAny (model X.prog X.w) X.A (eval a X.env) (fun v s₁=>wpAny (model X.prog X.w) X.A (eval b X.env) (fun u s₂=>wpAny (model X.prog X.w) X.A (f v u) Q X.xe s₂) X.xe s₁) X.xe s:=by
 refine thn (ha pins s σ H _ I h) fun v s1 ⟨x,H1,I1,r1,q1⟩=> ?_
 refine thn (hb pins s1 σ H1 _ I1 q1) fun u s2 ⟨y,H2,I2,r2,q2⟩=> ?_
 exact hf v u s2 x y H2 I2 r1 r2 q2
theorem pe_op {op:Operator}{r:R2}(ho:OpR X (binaryOp op) r)(ha:PE X a ta)(hb:PE X b tb):PE X (.BinOp a op b pos) (tOp r ta tb):=by
 intro pins s σ H Q I h
 exact wpAny_BinOp (binT ha hb I h fun v u s2 x y H2 I2 rx ry q=>ho pins s2 σ H2 x y v u Q I2 rx ry q)
theorem pe_un {op:UnaryOp}{r:V→Hp→VK→Prop}(ho:UnR X (unaryOp op) r)(ha:PE X a ta):PE X (.UnaryOp op a pos) (tUn r ta):=by
 intro pins s σ H Q I h
 exact UnaryOp_ (thn (ha pins s σ H _ I h) fun v s1 ⟨x,H1,I1,r1,q1⟩=>ho pins s1 σ H1 x v Q I1 r1 q1)
theorem opI {f:Value→Value→Sem Value}{C:Int→Int→Prop}{g:Int→Int→Int}
  (rule:∀(i j:Int) (t u:Tok) (s:Shared) (Q:Value→Shared→Prop) (E:Value→Shared→Prop),C i j→Q (.int (g i j) s.toks) {s with toks:=s.toks+1}→wpAny (model X.prog X.w) X.A (f (.int i t) (.int j u)) Q E s):
  OpR X f (rI C fun i j=>.int (g i j)):=by
 intro pins s σ H x y v u Q I rx ry h
 obtain⟨i,j,rfl,rfl,hc,q⟩:=h
 obtain⟨t,rfl⟩:=rx
 obtain⟨t',rfl⟩:=ry
 exact rule i j t t' s _ _ hc ⟨.int (g i j),H,I.tok _,⟨_,rfl⟩,q⟩
theorem opI0 {f:Value→Value→Sem Value}{g:Int→Int→Int}
  (rule:∀(i j:Int) (t u:Tok) (s:Shared) (Q:Value→Shared→Prop) (E:Value→Shared→Prop),Q (.int (g i j) s.toks) {s with toks:=s.toks+1}→wpAny (model X.prog X.w) X.A (f (.int i t) (.int j u)) Q E s):
  OpR X f (rI0 fun i j=>.int (g i j)):=by
 intro pins s σ H x y v u Q I rx ry h
 obtain⟨i,j,rfl,rfl,q⟩:=h
 obtain⟨t,rfl⟩:=rx
 obtain⟨t',rfl⟩:=ry
 exact rule i j t t' s _ _ ⟨.int (g i j),H,I.tok _,⟨_,rfl⟩,q⟩
theorem opB0 {f:Value→Value→Sem Value}{g:Int→Int→Bool}
  (rule:∀(i j:Int) (t u:Tok) (s:Shared) (Q:Value→Shared→Prop) (E:Value→Shared→Prop),Q (.bool (g i j)) s→wpAny (model X.prog X.w) X.A (f (.int i t) (.int j u)) Q E s):
  OpR X f (rI0 fun i j=>.bl (g i j)):=by
 intro pins s σ H x y v u Q I rx ry h
 obtain⟨i,j,rfl,rfl,q⟩:=h
 obtain⟨t,rfl⟩:=rx
 obtain⟨t',rfl⟩:=ry
 exact rule i j t t' s _ _ ⟨.bl (g i j),H,I,rfl,q⟩
def CDiv (i j:Int):Prop:=0<j∧j<1073741824
def CPow (i j:Int):Prop:=0≤j∧j≤1000000∧i.natAbs<2^64
def CMul (i j:Int):Prop:=(-(2^64)<i∧i<2^64)∨(-(2^64)<j∧j<2^64)
theorem CMul.ok {i j:Int}(h:CMul i j):IntMulOk i j:=by
 rcases h with⟨h1,h2⟩| ⟨h1,h2⟩
 ·exact .of_left (intBits_le_64 h1 h2)
 ·exact .of_right (intBits_le_64 h1 h2)
theorem a9D' (k:Nat):(0:Int)≤2^k:=by
 rw[two_pow_cast]
 exact Int.natCast_nonneg _
theorem op_add:OpR X (binaryOp .Add) (rI0 fun i j=>.int (i+j)):=opI0 fun _ _ _ _ _ _ _ q=>add_int q
theorem op_sub:OpR X (binaryOp .Sub) (rI0 fun i j=>.int (i-j)):=opI0 fun _ _ _ _ _ _ _ q=>sub_int q
theorem op_mul:OpR X (binaryOp .Mult) (rI CMul fun i j=>.int (i*j)):=opI fun _ _ _ _ _ _ _ hc q=>mul_int q hc.ok
theorem op_fdiv:OpR X (binaryOp .FloorDiv) (rI CDiv fun i j=>.int (i/j)):=opI fun i j _ _ _ _ _ hc q=>by
 have h1:(0:Int)<j:=hc.1
 have h2:j<1073741824:=hc.2
 exact floordiv_int (by omega) (by rw[Int.fdiv_eq_ediv_of_nonneg i (by omega)];exact q) (.inl (PyProof.noPylong_small (by omega)))
theorem op_mod:OpR X (binaryOp .Mod) (rI (fun _ j=>0<j) fun i j=>.int (i%j)):=opI fun i j _ _ _ _ _ hc q=>by
 have h1:(0:Int)<j:=hc
 exact mod_int' (by omega) (by rw[Int.fmod_eq_emod_of_nonneg i (by omega)];exact q)
theorem op_pow:OpR X (binaryOp .Pow) (rI CPow fun i j=>.int (i^j.toNat)):=opI fun _ _ _ _ _ _ _ hc q=>pow_int_small hc.1 hc.2.1 hc.2.2 q
theorem op_shr:OpR X (binaryOp .RShift) (rI (fun _ j=>0≤j) fun i j=>.int (i/2^j.toNat)):=opI fun i j _ _ _ _ _ hc q=>
 rshift_int hc (by rw[Int.fdiv_eq_ediv_of_nonneg i (a9D' _)];exact q)
theorem op_and:OpR X (binaryOp .BitAnd) (rI0 fun i j=>.int (Builtin.bitAnd i j)):=opI0 fun _ _ _ _ _ _ _ q=>and_int q
theorem op_or:OpR X (binaryOp .BitOr) (rI0 fun i j=>.int (Builtin.bitOr i j)):=opI0 fun _ _ _ _ _ _ _ q=>or_int q
theorem unI {f:Value→Sem Value}{g:Int→Int}
  (rule:∀(i:Int) (t:Tok) (s:Shared) (Q:Value→Shared→Prop) (E:Value→Shared→Prop),Q (.int (g i) s.toks) {s with toks:=s.toks+1}→wpAny (model X.prog X.w) X.A (f (.int i t)) Q E s):
  UnR X f (rU fun i=>.int (g i)):=by
 intro pins s σ H x v Q I rx h
 obtain⟨i,rfl,q⟩:=h
 obtain⟨t,rfl⟩:=rx
 exact rule i t s _ _ ⟨.int (g i),H,I.tok _,⟨_,rfl⟩,q⟩
theorem un_neg:UnR X (unaryOp .USub) (rU fun i=>.int (-i)):=unI fun _ _ _ _ _ q=>neg_int q
end
section
variable {X:Cx}{a b c:Expr}{ta tb tc:TE}{pos:Pos}
theorem fin_bl {pins:List (Addr×Obj)}{σ:St}{H:Hp}{s:Shared}{Q:VK}{k k':Bool}(I:Inv X pins σ H s)(q:Q (.bl k) H)(e:k=k'):EP X pins σ Q (.bool k') s:=by
 subst e
 exact⟨.bl k,H,I,rfl,q⟩
theorem op_le:OpR X (compareOp .LtE) (rI0 fun i j=>.bl (decide (i≤j))):=opB0 fun _ _ _ _ _ _ _ q=>le_int q
theorem op_gt:OpR X (compareOp .Gt) (rI0 fun i j=>.bl (decide (j<i))):=opB0 fun _ _ _ _ _ _ _ q=>gt_int q
theorem op_ge:OpR X (compareOp .GtE) (rI0 fun i j=>.bl (decide (j≤i))):=opB0 fun _ _ _ _ _ _ _ q=>ge_int q
theorem op_isN:OpR X (compareOp .Is) (fun x y H Q=>y=.non∧Q (.bl (decide (x=.non))) H):=by
 intro pins s σ H x y v u Q I rx ry h
 obtain⟨rfl,q⟩:=h
 cases ry
 refine is_none_gen (fin_bl I q ?_)
 cases x<;>first
  | (cases rx;rfl)
  | (obtain⟨t,rfl⟩:=rx;rfl)
theorem op_notN:OpR X (compareOp .IsNot) (fun x y H Q=>y=.non∧Q (.bl (!decide (x=.non))) H):=by
 intro pins s σ H x y v u Q I rx ry h
 obtain⟨rfl,q⟩:=h
 cases ry
 refine isnot_none_gen (fin_bl I q ?_)
 cases x<;>first
  | (cases rx;rfl)
  | (obtain⟨t,rfl⟩:=rx;rfl)
theorem pe_cmpR {op:CmpOp}{r:R2}(ho:OpR X (compareOp op) r)(ha:PE X a ta)(hb:PE X b tb)(hm:behindInMarks op b=false):PE X (.Compare a [op] [b] pos) (tOp r ta tb):=by
 intro pins s σ H Q I h
 exact wpAny_Compare1 (binT ha hb I h fun v u s2 x y H2 I2 rx ry q=>ho pins s2 σ H2 x y v u Q I2 rx ry q) hm
def tTest (t:TE):TT:=fun σ H Q=>t σ H fun x H'=>∃k,x=.bl k∧Q k H'
theorem pt_cmpR {op:CmpOp}{r:R2}(ho:OpR X (compareOp op) r)(ha:PE X a ta)(hb:PE X b tb)(hm:behindInMarks op b=false):PT X (.Compare a [op] [b] pos) (tTest (tOp r ta tb)):=by
 intro pins s σ H Q I h
 refine wpAny_isTrue_Compare1 (thn (ha pins s σ H _ I h) fun v s1 ⟨x,H1,I1,r1,q1⟩=>thn (hb pins s1 σ H1 _ I1 q1) fun u s2 ⟨y,H2,I2,r2,q2⟩=>
  thn (ho pins s2 σ H2 x y v u _ I2 r1 r2 q2) fun c s3 ⟨z,H3,I3,r3,k,e,q3⟩=> ?_) hm
 subst e
 cases r3
 exact wpAny_truthy_bool ⟨H3,I3,q3⟩
def tChain (r r':R2)(ta tb tc:TE):TE:=fun σ H Q=>ta σ H fun x H1=>tb σ H1 fun y H2=>r x y H2 fun z H3=>∃k,z=.bl k∧
 (if k=true then tc σ H3 fun w' H4=>r' y w' H4 Q else Q (.bl false) H3)
theorem b3G' {op op':CmpOp}{r r':R2}(ho:OpR X (compareOp op) r)(ho':OpR X (compareOp op') r')(ha:PE X a ta)(hb:PE X b tb)(hc:PE X c tc)
  (hm:lastMarks [op,op'] [b,c]=false:=by with_unfolding_all rfl):PE X (.Compare a [op,op'] [b,c] pos) (tChain r r' ta tb tc):=by
 intro pins s σ H Q I h
 refine Compare_chain (thn (ha pins s σ H _ I h) fun v s1 ⟨x,H1,I1,r1,q1⟩=>chain_link (thn (hb pins s1 σ H1 _ I1 q1) fun u s2 ⟨y,H2,I2,r2,q2⟩=>
  thn (ho pins s2 σ H2 x y v u _ I2 r1 r2 q2) fun d s3 ⟨z,H3,I3,r3,k,e,q3⟩=> ?_)) hm
 subst e
 cases r3
 refine wpAny_truthy_bool ?_
 cases k with
 |false=>exact ite_ff ⟨.bl false,H3,I3,rfl,q3⟩
 |true=>exact ite_tt (chain_last (thn (hc pins s3 σ H3 _ I3 q3) fun w' s4 ⟨z',H4,I4,r4,q4⟩=>ho' pins s4 σ H4 y z' u w' Q I4 r2 r4 q4))
theorem b3H' {op op':CmpOp}{r r':R2}(ho:OpR X (compareOp op) r)(ho':OpR X (compareOp op') r')(ha:PE X a ta)(hb:PE X b tb)(hc:PE X c tc)
  (hm:lastMarks [op,op'] [b,c]=false:=by with_unfolding_all rfl):PT X (.Compare a [op,op'] [b,c] pos) (tTest (tChain r r' ta tb tc)):=by
 intro pins s σ H Q I h
 refine isTrue_chain (thn (ha pins s σ H _ I h) fun v s1 ⟨x,H1,I1,r1,q1⟩=>test_link (thn (hb pins s1 σ H1 _ I1 q1) fun u s2 ⟨y,H2,I2,r2,q2⟩=>
  thn (ho pins s2 σ H2 x y v u _ I2 r1 r2 q2) fun d s3 ⟨z,H3,I3,r3,k,e,q3⟩=> ?_)) hm
 subst e
 cases r3
 refine wpAny_truthy_bool ?_
 cases k with
 |false=>
  obtain⟨k',e',q'⟩:=q3
  cases e'
  exact ite_ff ⟨H3,I3,q'⟩
 |true=>
  refine ite_tt (test_last (thn (hc pins s3 σ H3 _ I3 q3) fun w' s4 ⟨z',H4,I4,r4,q4⟩=>thn (ho' pins s4 σ H4 y z' u w' _ I4 r2 r4 q4) fun d' s5 ⟨z2,H5,I5,r5,k2,e2,q5⟩=> ?_))
  subst e2
  cases r5
  exact wpAny_truthy_bool ⟨H5,I5,q5⟩
def TruV (K:PySem.W.Frag)(x:V)(H:Hp)(k:Bool):Prop:=
 match x with
 | .non=>k=false
 | .bl b=>k=b
 | .int i=>k=(i !=0)
 | .str y=>y.length≤sizeLine∧k=((y.length:Int) !=0)
 | .byt y=>y.size≤sizeLine∧k=((y.size:Int) !=0)
 | .ref p=>(∃xs,SqL K H p xs∧k= !xs.isEmpty)∨(∃xs,SqT K H p xs∧k= !xs.isEmpty)∨∃kvs,H p=some (.dK kvs)∧k= !kvs.isEmpty
 |_=>False
theorem a9E' {κ:Type}{kvs:List (κ×V)}{vs:List (κ×Value)}(r:KV kvs vs):(!vs.isEmpty)= !kvs.isEmpty:=by
 cases r<;>rfl
theorem a6j' {xs:List V}{its:List Value}(r:Vals xs its):(!its.toArray.isEmpty)= !xs.isEmpty:=by
 cases r<;>simp
theorem a8P':(sizeLine:Nat)<2^63:=by rw[sizeLine_eq];decide
theorem tru_ok:TruR X (fun x H Q=>∃k,TruV X.K x H k∧Q k H):=by
 intro pins s σ H x v Q I rx h
 obtain⟨k,e,q⟩:=h
 have hl:=a8P'
 have hs:sizeLine=16777216:=sizeLine_eq
 cases x with
 |non=>
  cases rx
  have e':k=false:=e
  subst e'
  exact truthy_none ⟨H,I,q⟩
 |bl b=>
  cases rx
  have e':k=b:=e
  subst e'
  exact wpAny_truthy_bool ⟨H,I,q⟩
 |int i=>
  obtain⟨t,rfl⟩:=rx
  have e':k=(i !=0):=e
  subst e'
  exact PySem.P.truthy_int ⟨H,I,q⟩
 |str y=>
  obtain⟨t,rfl⟩:=rx
  obtain⟨hy,e'⟩:y.length≤sizeLine∧k=((y.length:Int) !=0):=e
  subst e'
  exact PySem.P.truthy_str (by omega) ⟨H,I.tok _,q⟩
 |byt y=>
  obtain⟨t,rfl⟩:=rx
  obtain⟨hy,e'⟩:y.size≤sizeLine∧k=((y.size:Int) !=0):=e
  subst e'
  exact PySem.W.truthy_bytes (by omega) ⟨H,I.tok _,q⟩
 |ref p=>
  cases rx
  have e':(∃xs,SqL X.K H p xs∧k= !xs.isEmpty)∨(∃xs,SqT X.K H p xs∧k= !xs.isEmpty)∨∃kvs,H p=some (.dK kvs)∧k= !kvs.isEmpty:=e
  rcases e' with⟨xs,hx,e'⟩| ⟨xs,hx,e'⟩| ⟨kvs,hx,e'⟩
  ·subst e'
   obtain⟨its,r,pl,hz⟩:=I.list hx
   have hlen:=r.length
   exact wpAny_truthy_list pl.isList (by simp only[List.size_toArray];omega) ⟨H,I.tok _,by rw[a6j' r];exact q⟩
  ·subst e'
   obtain⟨its,r,pl,hz⟩:=I.tuple hx
   have hlen:=r.length
   exact truthy_tuple pl (by simp only[List.size_toArray];omega) ⟨H,I.tok _,by rw[a6j' r];exact q⟩
  ·subst e'
   obtain⟨hz,hS,vs,r,m⟩:kvs.length≤sizeLine∧(p==sysModules)=false∧∃vs,KV kvs vs∧s.heap.DictOf (a9x' X.prog X.w) p vs:=I.hok p _ hx
   have hlen:kvs.length=vs.length:=Paired.length r
   exact wpAny_truthy_dict hS m (by omega) ⟨H,I.tok _,by rw[a9E' r];exact q⟩
 |_=>exact(show False from e).elim
theorem b3I' (ha:PE X a ta)(he:∀whole,isTrue a X.env whole=(do let v ←whole;standAt a.pos;holding [v] (truthy v))):
  PT X a (fun σ H Q=>ta σ H fun x H'=>∃k,TruV X.K x H' k∧Q k H'):=by
 intro pins s σ H Q I h
 exact isTrue_plain (thn (ha pins s σ H _ I h) fun v s1 ⟨x,H1,I1,r1,q1⟩=>tru_ok pins s1 σ H1 x v Q I1 r1 q1) (he _)
theorem a9F':OpR X (binaryOp .Add) (fun x y H Q=>∃i j,x=.str i∧y=.str j∧i.length+j.length≤sizeLine∧Q (.str (i++j)) H):=by
 intro pins s σ H x y v u Q I rx ry h
 obtain⟨i,j,rfl,rfl,hz,q⟩:=h
 obtain⟨t,rfl⟩:=rx
 obtain⟨t',rfl⟩:=ry
 exact add_str (fun t' tk=>⟨.str (i++j),H,I.tok _,⟨_,rfl⟩,q⟩) hz
theorem vals1 {x:V}{us:List Value}(r:Vals [x] us):∃u,us=[u]∧RelV x u:=by
 cases r with
 |cons r1 r2=>cases r2;exact⟨_,rfl,r1⟩
theorem vals2 {x y:V}{us:List Value}(r:Vals [x,y] us):∃u w',us=[u,w']∧RelV x u∧RelV y w':=by
 cases r with
 |cons r1 r2=>
  cases r2 with
  |cons r3 r4=>cases r4;exact⟨_,_,rfl,r1,r3⟩
theorem b1C' (hc:X.calm=true):CallR X (.builtin "max") (fun xs H Q=>∃i j,xs=[.int i,.int j]∧Q (.int (if j>i then j else i)) H):=by
 intro pins s σ H xs us Q I r h
 obtain⟨i,j,rfl,q⟩:=h
 obtain⟨u,w',rfl,⟨t,rfl⟩,⟨t',rfl⟩⟩:=vals2 r
 refine max_two_ints (I.ok.hd hc) fun h' tk k=>⟨_,H,I.kept k,?_,q⟩
 by_cases hj:j>i
 ·rw[if_pos hj,if_pos hj];exact⟨_,rfl⟩
 ·rw[if_neg hj,if_neg hj];exact⟨_,rfl⟩
theorem a7T':CallR X (.type "int") (fun xs H Q=>(∃i,xs=[.int i]∧Q (.int i) H)∨∃k,xs=[.bl k]∧Q (.int (if k then 1 else 0)) H):=by
 intro pins s σ H xs us Q I r h
 rcases h with⟨i,rfl,q⟩| ⟨k,rfl,q⟩
 ·obtain⟨u,rfl,t,rfl⟩:=vals1 r
  exact call_int_int ⟨.int i,H,I,⟨_,rfl⟩,q⟩
 ·obtain⟨u,rfl,r1⟩:=vals1 r
  cases r1
  exact call_int_bool ⟨.int (if k then 1 else 0),H,I.tok _,⟨_,rfl⟩,q⟩
end
end L2
namespace L2
open PySem PySem.Spec PyProof.Rows
section
variable {prog:Program}{w:World}{A:Around}{E:Value→Shared→Prop}{s:Shared}{K:PySem.W.Frag}{x dx C f:Addr}{mA:Str→Option Value}{name:Str}{v:Value}
end
section
variable {P:Program}{w:World}{H H':Hp}{h h':Heap}{a C dx:Addr}{fs fs':List (Str×V)}
end
section
variable {X:Cx}{pins:List (Addr×Obj)}{σ:St}{H:Hp}{s:Shared}{a C dx:Addr}{fs:List (Str×V)}{f:Str}{v:V}{A:Around}{E:Value→Shared→Prop}
end
section
variable {X:Cx}{o e value:Expr}{f:Str}{pos pos' tpos:Pos}{ta tv:TE}
end
section
variable {X:Cx}{pins:List (Addr×Obj)}{σ:St}{H:Hp}{s:Shared}{A:Around}{E:Value→Shared→Prop}{Q:Value→Shared→Prop}{c:Value}{b:Bool}
end
end L2
namespace L2
open PySem PySem.Spec PyProof.Rows
structure Room (k:Nat)(A:Around):Prop where
 hd:A.handled=none
 dp:A.depth+3*k+5<recursionLimit
 un:A.units+16*k+200<cLine
 gd:A.guards=some []
theorem Room.mono {j k:Nat}{A:Around}(r:Room k A)(h:j≤k):Room j A:=⟨r.hd,by have:=r.dp;omega,by have:=r.un;omega,r.gd⟩
theorem Room.deeper {k:Nat}{A:Around}(r:Room (k+1) A)(env:Env):Room k (A.deeper env):=
 ⟨r.hd,by have:=r.dp;show A.depth+1+3*k+5<_;omega,by have:=r.un;show A.units+3+16*k+200<_;omega,r.gd⟩
theorem Room.depth {k:Nat}{A:Around}(r:Room k A):A.depth<recursionLimit:=by have:=r.dp;omega
theorem Room.units {k:Nat}{A:Around}(r:Room k A):A.units+64<cLine:=by have:=r.un;omega
def tNil:TA:=fun _ H Q=>Q [] H
def tCons (ta:TE)(tr:TA):TA:=fun σ H Q=>ta σ H fun x H1=>tr σ H1 fun xs H2=>Q (x::xs) H2
section
variable {X:Cx}{e:Expr}{es:List Expr}{te:TE}{t:TA}{pos:Pos}
theorem b3J':PA X [] tNil:=fun _ _ _ _ H Q I h=>Calls.spliced_nil ⟨[],H,I,.nil,h⟩
theorem a9G' (ha:PE X e te)(hr:PA X es t)(hs:starEach (e::es) X.env=(false,eval e X.env)::starEach es X.env:=by rfl):PA X (e::es) (tCons te t):=by
 intro pos pins s σ H Q I h
 rw[hs]
 show wpAny _ _ (spliced ((false,eval e X.env)::backTo pos (starEach es X.env))) _ _ s
 refine Calls.spliced_cons (thn (ha pins s σ H _ I h) fun u s1 ⟨x,H1,I1,r1,q1⟩=> ?_)
 exact thn (hr pos pins s1 σ H1 _ I1 q1) fun us s2 ⟨xs,H2,I2,r2,q2⟩=>⟨x::xs,H2,I2,.cons r1 r2,q2⟩
def tTup (t:TA):TE:=fun σ H Q=>t σ H fun xs H1=>xs.length≤sizeLine∧∀p,H1 p=none→Q (.ref p) (upd H1 p (.tup xs))
def tLst (t:TA):TE:=fun σ H Q=>t σ H fun xs H1=>xs.length≤sizeLine∧∀p,H1 p=none→Q (.ref p) (upd H1 p (.lst xs))
theorem pe_tup {x1}(h:PA X es t):PE X (.Tuple es x1 pos) (tTup t):=by
 intro pins s σ H Q I hq
 refine wpAny_Tuple_spliced (thn (h pos pins s σ H _ I hq) fun us s1 ⟨xs,H1,I1,r,z,q⟩=>⟨by rw[←r.length];exact z,?_⟩)
 have hf:H1 s1.heap.objs.size=none:=I1.hok.fresh (Nat.le_refl _)
 refine⟨.ref s1.heap.objs.size,upd H1 s1.heap.objs.size (.tup xs),I1.laid (t':=s1.toks) (fun b u e=>Heap.get?_push_of_some _ e) (Nat.le_refl _) ?_,rfl,q _ hf⟩
 exact⟨z,us,r,⟨_,Heap.get?_push_size _ rfl,rfl,_,rfl⟩⟩
theorem pe_lst (h:PA X es t):PE X (.List es pos) (tLst t):=by
 intro pins s σ H Q I hq
 refine wpAny_List_spliced (thn (h pos pins s σ H _ I hq) fun us s1 ⟨xs,H1,I1,r,z,q⟩=>⟨by rw[←r.length];exact z,?_⟩)
 have hf:H1 s1.heap.objs.size=none:=I1.hok.fresh (Nat.le_refl _)
 refine⟨.ref s1.heap.objs.size,upd H1 s1.heap.objs.size (.lst xs),I1.laid (t':=s1.toks) (fun b u e=>Heap.get?_push_of_some _ e) (Nat.le_refl _) ?_,rfl,q _ hf⟩
 exact⟨z,us,0,r,Heap.get?_push_size _ rfl⟩
end
abbrev Sp:=List V→Hp→VK→XK→Prop
abbrev CXT:=List Env→Hp→Shared→XK→Value→Shared→Prop
structure Env0 (P:Program)(w:World)(K:PySem.W.Frag)(mg:Str→Option Value)(base:Heap)(A:Around)(outer:List Env)(s:Shared)(H:Hp):Prop where
 frames:A.frames=some outer
 mod:Mod K mg base
 bs:∀b o,base.get? b=some o→s.heap.get? b=some o∧H b=none
 bsz:base.objs.size≤s.heap.objs.size
 funs:s.heap.FunFrames base outer
 frf:∀b∈frs outer,H b=none
 hok:HOk P w H s.heap
 bare:AllBare s.gens
def CE (outer:List Env)(P:Program)(w:World)(H:Hp)(s:Shared)(Q:VK)(u:Value)(s':Shared):Prop:=
 ∃v H',s'.os=s.os∧AllBare s'.gens∧Un (frs outer) [] H H' s.heap s'.heap∧HOk P w H' s'.heap∧RelV v u∧Q v H'
def CR (CX:CXT)(outer:List Env)(P:Program)(w:World)(H:Hp)(s:Shared)(Q:VK)(E:XK)(r:Result)(s':Shared):Prop:=
 match r with
 | .ok (.ret u)=>CE outer P w H s Q u s'
 | .ok _=>False
 | .error e=>CX outer H s E e s'
structure FnOk (P:Program)(w:World)(K:PySem.W.Frag)(mg:Str→Option Value)(base:Heap)(CX:CXT)(k:Nat)(f:Addr)(fd:FuncData)(ps:List Str)(sp:Sp):Prop where
 len:∀vs H Q E,sp vs H Q E→vs.length=ps.length
 run:∀(A:Around) (outer:List Env) (s:Shared) (H:Hp) (args:Args) (us:List Value) (vs:List V) (Q:VK) (E:XK),Room k A→Env0 P w K mg base A outer s H→BindsTo s fd args (ps.zip us)→Vals vs us→sp vs H Q E→
  codeAny (model P w) A (.call (.ref f) args) (CR CX outer P w H s Q E) s
theorem FnOk.mono {P:Program}{w:World}{K:PySem.W.Frag}{mg:Str→Option Value}{base:Heap}{CX:CXT}{j k:Nat}{f:Addr}{fd:FuncData}{ps:List Str}{sp:Sp}(F:FnOk P w K mg base CX j f fd ps sp)(h:j≤k):
  FnOk P w K mg base CX k f fd ps sp:=⟨F.len,fun A outer s H args us vs Q E hr=>F.run A outer s H args us vs Q E (hr.mono h)⟩
theorem FnOk.imp {P:Program}{w:World}{K:PySem.W.Frag}{mg:Str→Option Value}{base:Heap}{CX:CXT}{k:Nat}{f:Addr}{fd:FuncData}{ps:List Str}{sp sp':Sp}(F:FnOk P w K mg base CX k f fd ps sp)
  (h:∀vs H Q E,sp' vs H Q E→sp vs H Q E):FnOk P w K mg base CX k f fd ps sp':=
 ⟨fun vs H Q E q=>F.len vs H Q E (h _ _ _ _ q),fun A outer s H args us vs Q E hr he hb hv hs=>F.run A outer s H args us vs Q E hr he hb hv (h _ _ _ _ hs)⟩
section
variable {X:Cx}{pins:List (Addr×Obj)}{σ:St}{H:Hp}{s s':Shared}
theorem Inv.env0 (I:Inv X pins σ H s):Env0 X.prog X.w X.K X.mg X.base X.A X.stack s H:=
 ⟨I.ok.frames,I.ok.mod,I.bs,Nat.le_trans I.ok.bsz I.sz,I.stack,I.stkFree,I.hok,I.bare⟩
theorem Inv.after {Q:VK}{u:Value}(I:Inv X pins σ H s)(h:CE X.stack X.prog X.w H s Q u s'):EP X pins σ Q u s':=by
 obtain⟨v,H',os,bare,un,hok,r,q⟩:=h
 obtain⟨hh,g,d,t,os'⟩:=s'
 obtain rfl:os'=s.os:=os
 exact⟨v,H',I.call (h':=hh) (g':=g) (d':=d) (t':=t) (ch:=[]) un hok bare (fun b z=>absurd z (by simp)),r,q⟩
end
def tCall (sp:Sp)(dvs:List V)(E:XK)(t:TA):TE:=fun σ H Q=>t σ H fun vs H1=>sp (vs++dvs) H1 Q E
def Binds (K:PySem.W.Frag)(fd:FuncData)(ps:List Str)(ds:List Value):Prop:=
 ∀(s:Shared) (us:List Value),K.In s.heap→(us++ds).length=ps.length→BindsTo s fd ⟨us,[]⟩ (ps.zip (us++ds))
theorem Binds.all {K:PySem.W.Frag}{fd:FuncData}{ps:List Str}(h:∀us:List Value,us.length=ps.length→bindArgs fd ⟨us,[]⟩=pure (ps.zip us)):Binds K fd ps []:=fun s us _ hl=>by
 rw[List.append_nil]at hl⊢
 exact .of_eq (h us hl)
def b3K' (CX:CXT)(X:Cx)(E:XK):Prop:=∀(pins:List (Addr×Obj)) (σ:St) (H:Hp) (s:Shared) (e:Value) (s':Shared),Inv X pins σ H s→CX X.stack H s E e s'→X.xe e s'
section
variable {X:Cx}{CX:CXT}{k:Nat}{f C:Addr}{fd:FuncData}{ps:List Str}{sp:Sp}{dvs:List V}{ds:List Value}{E:XK}{x m:Str}{p pos apos:Pos}{e o:Expr}{es:List Expr}{ta:TE}{t:TA}
theorem run_fn {pins:List (Addr×Obj)}{σ:St}{H:Hp}{s:Shared}{Q:VK}{us:List Value}{vs:List V}(F:FnOk X.prog X.w X.K X.mg X.base CX k f fd ps sp)(hr:Room k X.A)(hb:Binds X.K fd ps ds)(hd:Vals dvs ds)(hx:b3K' CX X E)
  (I:Inv X pins σ H s) (r:Vals vs us) (h:sp (vs++dvs) H Q E):wpAny (model X.prog X.w) X.A (call (.ref f) us) (EP X pins σ Q) X.xe s:=by
 have r2:Vals (vs++dvs) (us++ds):=r.append hd
 have hl:(us++ds).length=ps.length:=by rw[←r2.length];exact F.len _ _ _ _ h
 refine wpAny_call (codeAny_mono (F.run X.A X.stack s H ⟨us,[]⟩ (us++ds) (vs++dvs) Q E hr I.env0 (hb s us I.kIn hl) r2 h) fun r s' hq=> ?_)
 cases r with
 |error e=>exact hx pins σ H s e s' I hq
 |ok fl=>
  cases fl with
  |ret u=>exact I.after hq
  |next=>exact False.elim hq
  |brk=>exact False.elim hq
  |cont=>exact False.elim hq
theorem pe_call (F:FnOk X.prog X.w X.K X.mg X.base CX k f fd ps sp)(hr:Room k X.A)(hg:Gl X x)(hm:X.mg x=some (.ref f))(hk:PySem.W.keepIn X.K (.ref f)=true)(hb:Binds X.K fd ps ds)(hd:Vals dvs ds)(hx:b3K' CX X E)
  (ha:PA X (e::es) t) (hdb:(x==("__debug__":Str))=false:=by decide) (he:starEach (e::es) X.env=(false,eval e X.env)::starEach es X.env:=by rfl) (hpl:(backTo pos (starEach es X.env)).any (·.1)=false:=by rfl):
  PE X (.Call (.Name x p) (e::es) [] pos) (tCall sp dvs E t):=by
 intro pins s σ H Q I h
 refine wpAny_Call_Name_kw (b2O' I hg hm ?_ hdb)
 refine PySem.W.callWith_K (h₀:=X.base) I.ok.mod.kin hk (thn (ha pos pins s σ H _ I h) fun us s1 ⟨vs,H1,I1,r,q⟩=>⟨I1.kIn,?_⟩) he hpl
 exact run_fn F hr hb hd hx I1 r q
end
section
variable {X:Cx}{CX:CXT}{k:Nat}{f C:Addr}{fd:FuncData}{ps ks:List Str}{sp:Sp}{E:XK}{x m:Str}{p pos apos kpos:Pos}{e o:Expr}{es:List Expr}{kws:List Keyword}{te ta:TE}{t tk:TA}{nm:Option Str}
variable {g:List Value→List Value→List Value}{gV:List V→List V→List V}
end
structure FnScope (N P:List Str)(sc:Scope):Prop where
 kind:sc.kind=.function
 co:sc.isCoroutine=false
 gen:sc.isGenerator=false
 nd:N.Nodup
 pre:N.take P.length=P
 par:∀x∈P,sc.names.lookup x=some .local∨sc.names.lookup x=some .cell
 nofree:∀y∈sc.names,y.2≠.free
theorem a7U' {kindOf:Str→Option NameKind}{x:Str}:∀{binds:List (Str×Value)} {m:Str→Option Value},(∀v,(x,v)∉binds)→bindL kindOf binds m x=m x
 | [],_,_=>rfl
 | (n,v)::r,m,h=>by
  unfold bindL
  rw[a7U' fun w hw=>h w (List.mem_cons_of_mem _ hw)]
  split
  ·have:x≠n:=by rintro rfl;exact h v List.mem_cons_self
   simp[this]
  ·rfl
theorem a7V' {kindOf:Str→Option NameKind}{x:Str}:∀{binds:List (Str×Value)} {m:Str→Option Value},(∀v,(x,v)∉binds)→bindC kindOf binds m x=m x
 | [],_,_=>rfl
 | (n,v)::r,m,h=>by
  unfold bindC
  rw[a7V' fun w hw=>h w (List.mem_cons_of_mem _ hw)]
  split
  ·rfl
  ·have:x≠n:=by rintro rfl;exact h v List.mem_cons_self
   simp[this]
theorem a7W' {kindOf:Str→Option NameKind}{x:Str}{v:Value}:∀{P:List Str} {vs:List Value} {i:Nat} {m:Str→Option Value},P.Nodup→P[i]? =some x→vs[i]? =some v→kindOf x=some .local→
  bindL kindOf (P.zip vs) m x=some v
 | [],_,_,_,_,h,_,_=>by simp at h
 |_::_,[],_,_,_,_,h,_=>by simp at h
 |p::P,w::vs,0,m,nd,h1,h2,hk=>by
  simp at h1 h2;subst h1;subst h2
  show bindL kindOf ((p,w)::P.zip vs) m p=_
  unfold bindL
  rw[a7U' fun v hv=>(List.nodup_cons.mp nd).1 (List.of_mem_zip hv).1,if_pos hk]
  simp
 |p::P,w::vs,i+1,m,nd,h1,h2,hk=>by
  show bindL kindOf ((p,w)::P.zip vs) m x=_
  unfold bindL
  exact a7W' (i:=i) (List.nodup_cons.mp nd).2 (by simpa using h1) (by simpa using h2) hk
theorem a7X' {kindOf:Str→Option NameKind}{x:Str}{v:Value}:∀{P:List Str} {vs:List Value} {i:Nat} {m:Str→Option Value},P.Nodup→P[i]? =some x→vs[i]? =some v→kindOf x≠some .local→
  bindC kindOf (P.zip vs) m x=some v
 | [],_,_,_,_,h,_,_=>by simp at h
 |_::_,[],_,_,_,_,h,_=>by simp at h
 |p::P,w::vs,0,m,nd,h1,h2,hk=>by
  simp at h1 h2;subst h1;subst h2
  show bindC kindOf ((p,w)::P.zip vs) m p=_
  unfold bindC
  rw[a7V' fun v hv=>(List.nodup_cons.mp nd).1 (List.of_mem_zip hv).1,if_neg hk]
  simp
 |p::P,w::vs,i+1,m,nd,h1,h2,hk=>by
  show bindC kindOf ((p,w)::P.zip vs) m x=_
  unfold bindC
  exact a7X' (i:=i) (List.nodup_cons.mp nd).2 (by simpa using h1) (by simpa using h2) hk
def start (N:List Str)(vs:List V):St:=vs.map some++List.replicate (N.length-vs.length) none
def cxOf (CX:CXT)(P:Program)(w:World)(K:PySem.W.Frag)(mg:Str→Option Value)(base:Heap)(N:List Str)(qual:Str)(scope:Scope)(f:Addr)(cd:Value)(A:Around)(outer:List Env)(s:Shared)(H:Hp)(E:XK):Cx where
 prog:=P
 w:=w
 K:=K
 mg:=mg
 base:=base
 A:=A.deeper (envOfC qual scope s.heap.objs.size f cd)
 N:=N
 s₀:=s
 H₀:=H
 env:=envOfC qual scope s.heap.objs.size f cd
 outer:=outer
 stack:=envOfC qual scope s.heap.objs.size f cd::outer
 ex:=[]
 calm:=true
 fn:=fun _=>true
 pn:=[]
 xe:=fun e s'=>wpAny (model P w) (A.deeper (envOfC qual scope s.heap.objs.size f cd)) (leaving (envOfC qual scope s.heap.objs.size f cd) e) (fun _ s''=>CX outer H s E e s'') (fun e' s''=>CX outer H s E e' s'') s'
theorem a9H' {sc:Scope}{n:Nat}{x:Str}(h:sc.names.lookup x=some .cell):∃c,(cellsFrom n sc.names []).lookup x=some c:=by
 have q:=PySem.W.cellsFrom_some sc.names n [] (.inl h)
 exact Option.isSome_iff_exists.mp q
theorem b1D' {CX:CXT}{P:Program}{w:World}{K:PySem.W.Frag}{mg:Str→Option Value}{base:Heap}{N ps:List Str}{qual:Str}{scope:Scope}{f:Addr}{cd:Value}{A:Around}{outer:List Env}{s s1:Shared}{H:Hp}{E:XK}{us:List Value}{vs:List V}
  (S:FnScope N ps scope) (hd:A.handled=none) (e0:Env0 P w K mg base A outer s H) (hl:vs.length=ps.length) (r:Vals vs us)
  (x:InCallC s s.heap.objs.size (bindL (envOfC qual scope s.heap.objs.size f cd).kindOf (ps.zip us) fun _=>none) (cellsFrom (s.heap.objs.size+1) scope.names []) (bindC (envOfC qual scope s.heap.objs.size f cd).kindOf (ps.zip us) fun _=>none) s1):
  Inv (cxOf CX P w K mg base N qual scope f cd A outer s H E) [] (start N vs) H s1:=by
 have hpl:ps.length≤N.length:=by have:=congrArg List.length S.pre;rw[List.length_take]at this;omega
 obtain⟨h1,tk,rfl,hk⟩:=x.done
 have noA:∀b:Addr,b∉(cxOf CX P w K mg base N qual scope f cd A outer s H E).ex:=fun b z=>absurd (show b∈([]:List Addr)from z) (by simp)
 refine⟨⟨e0.mod,S.kind,rfl,rfl,Nat.le_refl _,fun y z c h1 h2=> ?_,fun y hy=> ?_,fun y c _ h=> ?_,fun _=>hd,Around.frames_deeper e0.frames,.inr ⟨rfl,rfl⟩,fun b z=>absurd z (noA b),e0.bs,e0.bsz,fun b _ _=>noA b,fun b z=>absurd z (noA b),e0.funs,e0.frf⟩,
  rfl,e0.bare,Un.kept hk,⟨_,x.toInCall.ns,fun i y v h1 h2 h3=> ?_⟩,fun y c h=>⟨_,x.cell y c h⟩,e0.hok.fresh (Nat.le_refl _),fun y c h=> ?_,fun p hp=>absurd (show p∈([]:List (Addr×Obj))from hp) (by simp),e0.hok.kept hk,?_⟩
 ·exact name_of_addr x.apart (PySem.mem_of_lookup h1) (PySem.mem_of_lookup h2)
 ·have hy:scope.names.lookup y=some .cell∨scope.names.lookup y=some .free:=hy
  rcases hy with hy|hy
  ·exact a9H' hy
  ·exact absurd rfl (S.nofree _ (PySem.mem_of_lookup hy))
 ·exact Nat.le_of_lt (x.above y c (PySem.mem_of_lookup h))
 ·have hi:i<vs.length:=by
   unfold start at h2
   by_cases hi:i<vs.length
   ·exact hi
   ·rw[List.getElem?_append_right (by simpa using hi)]at h2
    rw[List.getElem?_replicate]at h2
    split at h2<;>cases h2
  have ha:vs[i]? =some v:=by
   unfold start at h2
   rw[List.getElem?_append_left (by simpa using hi),List.getElem?_map]at h2
   cases e:vs[i]? with
   |none=>rw[e]at h2;cases h2
   |some a=>rw[e]at h2;cases h2;rfl
  obtain⟨u,hu,rv⟩:=r.get ha
  have hp:ps[i]? =some y:=by
   rw[←S.pre,List.getElem?_take_of_lt (by omega)];exact h1
  have ndP:ps.Nodup:=by rw[←S.pre];exact S.nd.sublist (List.take_sublist _ _)
  refine⟨u,rv,?_⟩
  rcases S.par y (List.mem_of_getElem? hp)with k|k
  ·exact .inl ⟨k,a7W' ndP hp hu k⟩
  ·obtain⟨c,e⟩:=a9H' (n:=s.heap.objs.size+1) k
   refine .inr ⟨.inl k,c,e,?_⟩
   have q:=x.cell y c e
   rw[a7X' ndP hp hu (by show scope.names.lookup y≠_;rw[k];decide)]at q
   exact q
 ·exact e0.hok.fresh (Nat.le_of_lt (x.above y c (PySem.mem_of_lookup h)))
 ·unfold start
  show _=N.length
  rw[List.length_append,List.length_map,List.length_replicate]
  omega
theorem fn_of {CX:CXT}{P:Program}{w:World}{K:PySem.W.Frag}{mg:Str→Option Value}{base:Heap}{k:Nat}{f:Addr}{name qual:Str}{params:Arguments}{body:List Stmt}{scope:Scope}{dV kV doc pm cdv ct oc:Value}{an od:Option Addr}
  {osl:Array (Option Value)} {N ps:List Str} {sp:Sp} (lk:K.lookup f=some ⟨oc,od,.func (PySem.W.fnOf name qual params body scope dV kV doc pm an cdv ct),osl⟩) (hcd:PySem.W.codeIn K cdv qual=true) (S:FnScope N ps scope)
  (len:∀vs H Q E,sp vs H Q E→vs.length=ps.length)
  (hbody:∀(A:Around) (outer:List Env) (s:Shared) (H:Hp) (vs:List V) (Q:VK) (E:XK),Room k (A.deeper (envOfC qual scope s.heap.objs.size f cdv))→sp vs H Q E→
   ∃t,PSs (cxOf CX P w K mg base N qual scope f cdv A outer s H E) body t∧t {nx:=fun _ H'=>Q .non H',rt:=Q} (start N vs) H):
  FnOk P w K mg base CX (k+1) f (PySem.W.fnOf name qual params body scope dV kV doc pm an cdv ct) ps sp:=by
 refine⟨len,fun A outer s H args us vs Q E hr e0 hb r hsp=> ?_⟩
 have hl:=len _ _ _ _ hsp
 have KX:K.In s.heap:=e0.mod.kin.keeps fun b o e=>(e0.bs b o e).1
 have lim:s.heap.NoLimit:=e0.mod.nolimit.keeps fun b o e=>(e0.bs b o e).1
 have hkind:∀y∈ps.zip us,scope.names.lookup y.1=some .local∨(scope.names.lookup y.1=some .cell∧((cellsFrom (s.heap.objs.size+1) scope.names []).lookup y.1).isSome=true):=fun⟨n,v⟩ hy=>by
  rcases S.par n (List.of_mem_zip hy).1 with q|q
  ·exact .inl q
  ·exact .inr ⟨q,PySem.W.cellsFrom_some _ _ _ (.inl q)⟩
 refine codeAny_call_function hr.depth (KX _ _ lk) rfl S.co S.gen rfl (PySem.W.codeRec_of KX hcd) (hb _ _ _ _ ?_)
 refine wpAny_newFunctionEnv_cells S.kind hkind fun env he s1 x=> ?_
 subst he
 refine⟨lim.keeps x.toInCall.keep,codeAny_func ?_⟩
 obtain⟨t,ht,hq⟩:=hbody A outer s H vs Q E (hr.deeper _) hsp
 have I:Inv (cxOf CX P w K mg base N qual scope f cdv A outer s H E) [] (start N vs) H s1:=b1D' S hr.hd e0 hl r x
 refine wpAny_mono (ht [] s1 (start N vs) H _ I hq) (fun fl s' hs=> ?_) fun e s' hs=>hs
 have fin:∀{σ':St} {H':Hp} {v:V} {u:Value},Inv (cxOf CX P w K mg base N qual scope f cdv A outer s H E) [] σ' H' s'→RelV v u→Q v H'→CE outer P w H s Q u s':=
  fun{σ' H' v u} J rv q=>⟨v,H',J.os,J.bare,J.base,J.hok,rv,q⟩
 cases fl with
 |ret u=>
  obtain⟨v,σ',H',J,rv,q⟩:=hs
  exact fin J rv q
 |next=>
  obtain⟨σ',H',J,q⟩:=hs
  exact fin (v:=V.non) (u:=Value.none) J rfl q
 |brk=>
  obtain⟨_,_,_,q⟩:=hs
  exact False.elim q
 |cont=>
  obtain⟨_,_,_,q⟩:=hs
  exact False.elim q
end L2
namespace L2
open PySem PySem.Spec PyProof.Rows
section
variable {X:Cx}{x:Str}{p pos:Pos}{e:Expr}{es:List Expr}{t:TA}{id T:String}{r:List V→Hp→VK→Prop}
def tCB (r:List V→Hp→VK→Prop)(t:TA):TE:=fun σ H Q=>t σ H fun vs H1=>r vs H1 Q
theorem a9I' (hc:CallR X (.builtin id) r)(hg:Gl X x)(hm:X.mg x=none)(hv:bootBuiltins x=some (.builtin id))(ha:PA X (e::es) t)(hn:x≠"__name__":=by decide)(hdb:(x==("__debug__":Str))=false:=by decide)
  (he:starEach (e::es) X.env=(false,eval e X.env)::starEach es X.env:=by rfl) (hpl:(backTo pos (starEach es X.env)).any (·.1)=false:=by rfl):PE X (.Call (.Name x p) (e::es) [] pos) (tCB r t):=by
 intro pins s σ H Q I h
 refine wpAny_Call_Name_kw (a5C' I hg hm hv ?_ hn hdb)
 exact PyProof.Rows.callWith_builtin1 (thn (ha pos pins s σ H _ I h) fun us s1 ⟨vs,H1,I1,r1,q1⟩=>hc pins s1 σ H1 vs us Q I1 r1 q1) he hpl
theorem a3K' (hc:CallR X (.type T) r)(hg:Gl X x)(hm:X.mg x=none)(hv:bootBuiltins x=some (.type T))(ha:PA X (e::es) t)(hn:x≠"__name__":=by decide)(hdb:(x==("__debug__":Str))=false:=by decide)
  (he:starEach (e::es) X.env=(false,eval e X.env)::starEach es X.env:=by rfl) (hpl:(backTo pos (starEach es X.env)).any (·.1)=false:=by rfl):PE X (.Call (.Name x p) (e::es) [] pos) (tCB r t):=by
 intro pins s σ H Q I h
 refine wpAny_Call_Name_kw (a5C' I hg hm hv ?_ hn hdb)
 exact PyProof.Rows.callWith_type1 (thn (ha pos pins s σ H _ I h) fun us s1 ⟨vs,H1,I1,r1,q1⟩=>hc pins s1 σ H1 vs us Q I1 r1 q1) he hpl
end
end L2
namespace HT
open PySem PyProof.Rows
section
open PySem.SeqAt
open PySem.AutoSeq1 (wpAny_loadPart')
open PySem.MeetsSeq PySem.MeetsSeq2 PySem.MeetsSeq3
end
section
variable {prog:Program}{w:World}{A:Around}{E:Value→Shared→Prop}{s:Shared}
theorem cat_tup {t b:Addr}{vs ws:List Value}{Q:Value→Shared→Prop}(ht:IsTup s.heap t vs.toArray)(hb:IsTup s.heap b ws.toArray)(hv:vs≠[])
  (h1:ws=[]→Q (.ref t) s) (h2:ws≠[]→Q (.ref s.heap.objs.size) {s with heap:=s.heap.push {cls:=.type "tuple",data:=.seq (vs++ws).toArray}})
  (hsz:vs.length+ws.length≤sizeLine):wpAny (model prog w) A (binaryOp .Add (.ref t) (.ref b)) Q E s:=by
 obtain⟨⟨cls,dd,data,sl⟩,ho,hc,n,hd⟩:=id ht
 obtain⟨⟨cls2,dd2,data2,sl2⟩,ho2,hc2,n2,hd2⟩:=id hb
 simp only at hc hd hc2 hd2
 subst hc hd hc2 hd2
 have e:vs.toArray++ws.toArray=(vs++ws).toArray:=by simp
 by_cases hw:ws=[]
 ·exact concat_meets ⟨_,ho,rfl⟩ ⟨_,ho2,rfl⟩ noFill_tuple_add seq_tuple_add PySem.F.slot_tuple_add PySem.F.entry_tuple_add (PySem.F.args_tuple_add_2 _ _)
   (tuple_addW1 t b vs.toArray ws.toArray n n2 dd dd2 sl sl2 (by simpa using hv) (by simp[hw])) ⟨ho,ho2,h1 hw⟩
 ·refine concat_meets ⟨_,ho,rfl⟩ ⟨_,ho2,rfl⟩ noFill_tuple_add seq_tuple_add PySem.F.slot_tuple_add PySem.F.entry_tuple_add (PySem.F.args_tuple_add_2 _ _)
   (tuple_addW2 t b vs.toArray ws.toArray n n2 dd dd2 sl sl2 (by simpa using hv) (by simpa using hw) (by rw[List.size_toArray,List.size_toArray];exact hsz)) ⟨ho,ho2,?_⟩
  rw[e]
  exact h2 hw
def sIx (n d:Nat):Option Int→Nat
 |none=>d
 |some v=>if v<0 then(v+(n:Int)).toNat else min v.toNat n
theorem sIx_le (n d:Nat)(hd:d≤n)(o:Option Int):sIx n d o≤n:=by
 cases o with
 |none=>exact hd
 |some v=>
  show(if v<0 then(v+(n:Int)).toNat else min v.toNat n)≤n
  by_cases hv:v<0
  ·rw[if_pos hv];omega
  ·rw[if_neg hv];exact Nat.min_le_right _ _
theorem b2P' (v:Int)(n d:Nat):(if v<0 then max (v+(n:Int)) 0 else min v (n:Int))=((sIx n d (some v):Nat):Int):=by
 show(if v<0 then max (v+(n:Int)) 0 else min v (n:Int))=(((if v<0 then(v+(n:Int)).toNat else min v.toNat n):Nat):Int)
 by_cases hv:v<0
 ·simp only[if_pos hv];omega
 ·simp only[if_neg hv];omega
theorem a9J' (lo hi:Option Int)(n:Nat):Builtin.Slice.sliceAdjust lo hi 1 (n:Int)=(((sIx n 0 lo:Nat):Int),((sIx n n hi:Nat):Int)):=by
 have h1:¬((1:Int)<0):=by omega
 unfold Builtin.Slice.sliceAdjust
 simp only[h1,if_false]
 refine Prod.ext ?_ ?_
 ·cases lo with
  |none=>rfl
  |some v=>exact b2P' v n 0
 ·cases hi with
  |none=>rfl
  |some v=>exact b2P' v n n
theorem a9K' (i j:Nat):Builtin.Slice.slicePlaces (i:Int) (j:Int) 1=j-i:=by
 unfold Builtin.Slice.slicePlaces
 have h1:(1:Int)>0:=by omega
 simp only[h1,if_true,Int.ediv_one]
 split<;>omega
theorem a6k' {v:Value}{o:Option Int}{Q:Option Int→Shared→Prop}(p:IsPart v o)(h:Q o s):wpAny (model prog w) A (Builtin.Slice.slicePartIndex v) Q E s:=by
 cases p with
 |none=>exact slicePart_none h
 |int i t=>exact slicePart_int h
theorem a1N' {sl:Addr}{vl vu:Value}{lo hi:Option Int}{n:Nat}{Q:Int×Int×Nat→Shared→Prop}(hs:s.heap.IsSliceOf sl vl vu .none)(pl:IsPart vl lo)(pu:IsPart vu hi)
  (h:Q (((sIx n 0 lo:Nat):Int),1,sIx n n hi-sIx n 0 lo) s):wpAny (model prog w) A (Builtin.Slice.sliceApplied (.ref sl) (pure (n:Int))) Q E s:=by
 obtain⟨os,hos,hcs,hds⟩:=id hs
 unfold Builtin.Slice.sliceApplied Builtin.Slice.sliceFields
 refine wpAny_bind (wpAny_bind (wpAny_field hos hds (x:=vl) rfl (wpAny_bind (wpAny_field hos hds (x:=vu) rfl (wpAny_bind (wpAny_field hos hds (x:=.none) rfl (wpAny_pure ?_)))))))
 refine wpAny_bind (slicePart_none ?_)
 show wpAny _ _ (if((1:Int)==0)=true then _ else _) _ _ s
 rw[if_neg (by decide)]
 refine wpAny_bind (a6k' pl (wpAny_bind (a6k' pu (wpAny_bind (wpAny_pure ?_)))))
 show wpAny _ _ (match Builtin.Slice.sliceAdjust lo hi 1 (n:Int)with| (lo,hi)=>pure (lo,(1:Int),Builtin.Slice.slicePlaces lo hi 1)) _ _ s
 rw[a9J' lo hi n]
 show wpAny _ _ (pure (((sIx n 0 lo:Nat):Int),(1:Int),Builtin.Slice.slicePlaces ((sIx n 0 lo:Nat):Int) ((sIx n n hi:Nat):Int) 1)) _ _ s
 rw[a9K']
 exact wpAny_pure h
theorem b3L' (xs:Array Value)(i k:Nat):((List.range k).filterMap fun(m:Nat)=>xs[((i:Int)+(m:Int)*1).toNat]?).toArray=((xs.toList.drop i).take k).toArray:=by
 have e:(fun(m:Nat)=>xs[((i:Int)+(m:Int)*1).toNat]?)=fun m=>xs[i+m]? :=by
  funext m
  have:((i:Int)+(m:Int)*1).toNat=i+m:=by omega
  rw[this]
 rw[e]
 have:=pick_run xs i k
 rw[List.filterMap_map]at this
 have e2:((fun x=>xs[x]?)∘fun x=>i+x)=fun m=>xs[i+m]? :=rfl
 rw[e2]at this
 rw[this]
theorem a3D' {t sl:Addr}{items:Array Value}{vl vu:Value}{lo hi:Option Int}{Q:Value→Shared→Prop}(ht:IsTup s.heap t items)(hs:s.heap.IsSliceOf sl vl vu .none)(pl:IsPart vl lo)(pu:IsPart vu hi)
  (hw:¬(sIx items.size 0 lo=0∧sIx items.size items.size hi=items.size))
  (h:Q (.ref s.heap.objs.size) {s with heap:=s.heap.push {cls:=.type "tuple",data:=.seq ((items.toList.drop (sIx items.size 0 lo)).take (sIx items.size items.size hi-sIx items.size 0 lo)).toArray}})
  (hsz:items.size≤sizeLine):wpAny (model prog w) A (getItem (.ref t) (.ref sl)) Q E s:=by
 have htake:sizeOk (.seq ((items.toList.drop (sIx items.size 0 lo)).take (sIx items.size items.size hi-sIx items.size 0 lo)).toArray):=by
  show((items.toList.drop (sIx items.size 0 lo)).take (sIx items.size items.size hi-sIx items.size 0 lo)).toArray.size≤sizeLine
  rw[List.size_toArray,List.length_take,List.length_drop,Array.length_toList]
  omega
 have hj:sIx items.size items.size hi≤items.size:=sIx_le _ _ (Nat.le_refl _) hi
 obtain⟨os,hos,hcs,hds⟩:=id hs
 have hTs:s.TypeIs (.ref sl) "slice":=⟨os,hos,hcs⟩
 unfold getItem
 try with_reducible refine wpAny_holding ?_
 first|refine wpAny_bind (wpAny_pure ?_)|skip
 refine wpAny_bind (wpAny_sequenceKey ht.typeIs (by decide) ?_)
 refine wpAny_bind (wpAny_callSpecial?_slot (name:=Str.ofString "__getitem__") ht.typeIs PyProof.Rows.slot_tuple_getitem
  (wpAny_call_entry PyProof.Rows.slot_tuple_getitem ht.typeIs entry_tuple_getitem ?_ (args_tuple_getitem _ _)))
 show wpAny _ _ (Builtin.Tuple.tupleItemsOf (.ref t)>>=_) _ _ s
 refine wpAny_bind (tupleItemsOf_ ht ?_)
 refine wpAny_bind (wpAny_typeOf hTs ?_)
 rw[if_pos (by decide)]
 refine wpAny_bind (a1N' hs pl pu ?_)
 have hno:¬((((sIx items.size 0 lo:Nat):Int)==0&&(1:Int)==1&&(sIx items.size items.size hi-sIx items.size 0 lo)==items.size)=true):=by
  intro q
  rw[Bool.and_eq_true,Bool.and_eq_true]at q
  have q1:((sIx items.size 0 lo:Nat):Int)=0:=eq_of_beq q.1.1
  have q2:sIx items.size items.size hi-sIx items.size 0 lo=items.size:=eq_of_beq q.2
  exact hw ⟨by omega,by omega⟩
 show wpAny _ _ (if(((sIx items.size 0 lo:Nat):Int)==0&&(1:Int)==1&&(sIx items.size items.size hi-sIx items.size 0 lo)==items.size)=true then _ else _) _ _ s
 rw[if_neg hno,b3L']
 first
  |exact wpAny_bind (m:=Builtin.Tuple.tupleExact _) (wpAny_newObj_type (wpAny_pure ⟨_,rfl,wpAny_pure h⟩) htake)
  |exact wpAny_bind (m:=Builtin.Tuple.tupleExact _) (wpAny_newObj_type (wpAny_bind (wpAny_pure (wpAny_pure ⟨_,rfl,wpAny_pure h⟩))) htake)
  |exact wpAny_bind (wpAny_bind (m:=Builtin.Tuple.tupleExact _) (wpAny_newObj_type (wpAny_pure (wpAny_pure ⟨_,rfl,wpAny_pure h⟩)) htake))
  |exact wpAny_bind (wpAny_bind (m:=Builtin.Tuple.tupleExact _) (wpAny_newObj_type (wpAny_pure ⟨_,rfl,wpAny_pure h⟩) htake))
end
end HT
namespace L2
open PySem PySem.Spec PyProof.Rows
abbrev TO:=St→Hp→(Option Int→Hp→Prop)→Prop
def PO (X:Cx)(e:Option Expr)(t:TO):Prop:=
 ∀(pins:List (Addr×Obj)) (s:Shared) (σ:St) (H:Hp) (Q:Option Int→Hp→Prop),Inv X pins σ H s→t σ H Q→
  wpAny (model X.prog X.w) X.A (evalPart e X.env) (fun u s'=>∃o H',Inv X pins σ H' s'∧IsPart u o∧Q o H') X.xe s
def tNoPart:TO:=fun _ H Q=>Q none H
def tPart (t:TE):TO:=fun σ H Q=>t σ H fun x H1=>∃i,x=.int i∧Q (some i) H1
theorem a6l' {ns:List Int}:∀{us:List Value},Vals (ns.map V.int) us→IntsAre us ns:=by
 induction ns with
 |nil=>intro us r;rw[List.map_nil]at r;cases r;exact .nil
 |cons n ns ih=>
  intro us r
  rw[List.map_cons]at r
  cases r with
  |cons r1 r2=>
   obtain⟨t,e⟩:=r1
   subst e
   exact .cons n t (ih r2)
section
variable {X:Cx}{e:Expr}{te:TE}{lo hi:Option Expr}{tl th:TO}{pos p2:Pos}
theorem po_none:PO X none tNoPart:=by
 intro pins s σ H Q I h
 rw[evalPart_none]
 exact wpAny_pure ⟨none,H,I,.none,h⟩
theorem po_some (h:PE X e te):PO X (some e) (tPart te):=by
 intro pins s σ H Q I hw
 rw[evalPart_some]
 refine thn (h pins s σ H _ I hw) fun u s1 ⟨x,H1,I1,r1,q1⟩=> ?_
 obtain⟨i,rfl,q⟩:=q1
 obtain⟨t,rfl⟩:=r1
 exact⟨some i,H1,I1,.int i t,q⟩
def SlR (X:Cx)(r:V→Option Int→Option Int→Hp→VK→Prop):Prop:=
 ∀(pins:List (Addr×Obj)) (s:Shared) (σ:St) (H:Hp) (x:V) (v vl vu:Value) (lo hi:Option Int) (sl:Addr) (Q:VK),Inv X pins σ H s→RelV x v→s.heap.IsSliceOf sl vl vu .none→IsPart vl lo→IsPart vu hi→r x lo hi H Q→
  ∃T id,typeLookup (.type T) "__getitem__"=pure (some (.builtin id))∧s.TypeIs v T∧wpAny (model X.prog X.w) X.A (getItem v (.ref sl)) (EP X pins σ Q) X.xe s
def tSl (r:V→Option Int→Option Int→Hp→VK→Prop)(te:TE)(tl th:TO):TE:=fun σ H Q=>te σ H fun x H1=>tl σ H1 fun l H2=>th σ H2 fun u H3=>r x l u H3 Q
theorem b3M' {r:V→Option Int→Option Int→Hp→VK→Prop}(hr:SlR X r)(he:PE X e te)(hl:PO X lo tl)(hu:PO X hi th):PE X (.Subscript e (.Slice lo hi none p2) pos) (tSl r te tl th):=by
 intro pins s σ H Q I h
 refine Subscript_ (thn (he pins s σ H _ I h) fun v s1 ⟨x,H1,I1,r1,q1⟩=> ?_)
 refine wpAny_Slice (thn (hl pins s1 σ H1 _ I1 q1) fun vl s2 ⟨l,H2,I2,pl,q2⟩=>thn (hu pins s2 σ H2 _ I2 q2) fun vu s3 ⟨u,H3,I3,pu,q3⟩=> ?_)
 rw[evalPart_none]
 refine wpAny_pure ?_
 have I4:Inv X pins σ H3 {s3 with heap:=s3.heap.push {cls:=.type "slice",data:=.fields #[vl,vu,.none]}}:=I3.kept (t':=s3.toks) fun b ob q=>Heap.get?_push_of_some _ q
 obtain⟨T,id,hT,ht,hg⟩:=hr pins {s3 with heap:=s3.heap.push {cls:=.type "slice",data:=.fields #[vl,vu,.none]}} σ H3 x v vl vu l u s3.heap.objs.size Q I4 r1 (Heap.IsSliceOf.new ..) pl pu q3
 show wpAny (model X.prog X.w) X.A (subscriptTail e (.Slice lo hi none p2) v (.ref s3.heap.objs.size)) (EP X pins σ Q) X.xe {s3 with heap:=s3.heap.push {cls:=.type "slice",data:=.fields #[vl,vu,.none]}}
 exact tail_any (ops:=[.ref s3.heap.objs.size,v]) ht hT hg (by with_unfolding_all rfl)
def cutV (xs:List V)(lo hi:Option Int):List V:=(xs.drop (HT.sIx xs.length 0 lo)).take (HT.sIx xs.length xs.length hi-HT.sIx xs.length 0 lo)
theorem a4Y' (xs:List V)(lo hi:Option Int):(cutV xs lo hi).length≤xs.length:=by
 unfold cutV
 rw[List.length_take,List.length_drop]
 omega
def rSlT (K:PySem.W.Frag):V→Option Int→Option Int→Hp→VK→Prop:=fun x lo hi H Q=>∃a xs,x=.ref a∧SqT K H a xs∧
 ¬(HT.sIx xs.length 0 lo=0∧HT.sIx xs.length xs.length hi=xs.length)∧∀p,H p=none→Q (.ref p) (upd H p (.tup (cutV xs lo hi)))
theorem sl_tup:SlR X (rSlT X.K):=by
 intro pins s σ H x v vl vu lo hi sl Q I rx hs pl pu h
 obtain⟨a,xs,rfl,hx,hw,q⟩:=h
 cases rx
 obtain⟨its,r,ht,hz⟩:=I.tuple hx
 have hlen:its.toArray.size=xs.length:=by rw[List.size_toArray];exact r.length.symm
 refine⟨"tuple",_,PyProof.Rows.slot_tuple_getitem.lookup,ht.typeIs,?_⟩
 refine HT.a3D' ht hs pl pu (by rw[hlen];exact hw) ?_ (by rw[hlen];exact hz)
 rw[hlen]
 refine⟨.ref s.heap.objs.size,_,I.laid (t':=s.toks) (o:=.tup (cutV xs lo hi)) (fun b ob q=>Heap.get?_push_of_some _ q) (Nat.le_refl _) ?_,rfl,q _ (I.hok.fresh (Nat.le_refl _))⟩
 exact⟨Nat.le_trans (a4Y' xs lo hi) hz,_,(r.drop (HT.sIx xs.length 0 lo)).take (HT.sIx xs.length xs.length hi-HT.sIx xs.length 0 lo),IsTup.new _ _⟩
def rCatT (K:PySem.W.Frag):R2:=fun x y H Q=>∃a b xs ys,x=.ref a∧y=.ref b∧SqT K H a xs∧SqT K H b ys∧xs≠[]∧xs.length+ys.length≤sizeLine∧
 (ys=[]→Q (.ref a) H)∧(ys≠[]→∀p,H p=none→Q (.ref p) (upd H p (.tup (xs++ys))))
theorem Vals.nil_iff {xs:List V}{us:List Value}(r:Vals xs us):us=[]↔xs=[]:=by
 cases r with
 |nil=>simp
 |cons _ _=>simp
theorem op_catT:OpR X (binaryOp .Add) (rCatT X.K):=by
 intro pins s σ H x y v u Q I rx ry h
 obtain⟨a,b,xs,ys,rfl,rfl,ha,hb,hx,hz,q1,q2⟩:=h
 cases rx
 cases ry
 obtain⟨its,r1,p1,_⟩:=I.tuple ha
 obtain⟨its2,r2,p2,_⟩:=I.tuple hb
 refine HT.cat_tup p1 p2 (fun z=>hx (r1.nil_iff.mp z)) (fun z=>⟨.ref a,H,I,rfl,q1 (r2.nil_iff.mp z)⟩) (fun z=> ?_) (by rw[←r1.length,←r2.length];exact hz)
 refine⟨.ref s.heap.objs.size,_,I.laid (t':=s.toks) (o:=.tup (xs++ys)) (fun b ob q=>Heap.get?_push_of_some _ q) (Nat.le_refl _) ?_,rfl,q2 (fun w=>z (r2.nil_iff.mpr w)) _ (I.hok.fresh (Nat.le_refl _))⟩
 exact⟨by rw[List.length_append];exact hz,_,r1.append r2,IsTup.new _ _⟩
end
end L2
namespace L2
open PySem PySem.Spec PyProof.Rows
def ixN (n:Nat)(i:Int):Option Nat:=if 0≤i then(if i<n then some i.toNat else none)else if-(n:Int)≤i then some (i+n).toNat else none
def atI {α:Type}(xs:List α)(i:Int):Option α:=(ixN xs.length i).bind fun j=>xs[j]?
theorem a9L' {n:Nat}{i:Int}{j:Nat}(h:ixN n i=some j):seqIndex? i n=some j∧j<n∧-(n:Int)≤i∧i<n:=by
 unfold ixN at h
 by_cases h0:0≤i
 ·rw[if_pos h0]at h
  by_cases h1:i<n
  ·rw[if_pos h1]at h
   have e:i.toNat=j:=Option.some.inj h
   exact⟨by rw[seqIndex_of h0 h1,e],by omega,by omega,h1⟩
  ·rw[if_neg h1]at h;cases h
 ·rw[if_neg h0]at h
  by_cases h1: -(n:Int)≤i
  ·rw[if_pos h1]at h
   have e:(i+n).toNat=j:=Option.some.inj h
   exact⟨by rw[seqIndex_neg (by omega) h1,e],by omega,h1,by omega⟩
  ·rw[if_neg h1]at h;cases h
theorem b2Q' {α:Type}{xs:List α}{i:Int}{v:α}(h:atI xs i=some v):∃j,seqIndex? i xs.length=some j∧xs[j]? =some v∧j<xs.length∧-(xs.length:Int)≤i∧i<xs.length:=by
 unfold atI at h
 cases e:ixN xs.length i with
 |none=>rw[e]at h;cases h
 |some j=>
  rw[e]at h
  obtain⟨h1,h2,h3,h4⟩:=a9L' e
  exact⟨j,h1,h,h2,h3,h4⟩
def b2R' (b:Expr):Prop:=∀o i,subscripted b false o i=operate [o,i] (getItem o i)
def IxR (X:Cx)(r:R2):Prop:=
 ∀(value slice:Expr) (pins:List (Addr×Obj)) (s:Shared) (σ:St) (H:Hp) (x y:V) (v u:Value) (Q:VK),Inv X pins σ H s→RelV x v→RelV y u→r x y H Q→
  subscripted slice false v u=operate [v,u] (getItem v u)→wpAny (model X.prog X.w) X.A (subscriptTail value slice v u) (EP X pins σ Q) X.xe s
def MtR (X:Cx)(id:String)(r:V→List V→Hp→VK→Prop):Prop:=
 ∀(pins:List (Addr×Obj)) (s:Shared) (σ:St) (H:Hp) (x:V) (xs:List V) (v:Value) (us:List Value) (Q:VK),Inv X pins σ H s→RelV x v→Vals xs us→r x xs H Q→
  wpAny (model X.prog X.w) X.A (call (.builtin id) (v::us)) (EP X pins σ Q) X.xe s
section
variable {X:Cx}{a b:Expr}{ta tb:TE}{pos:Pos}
theorem pe_ix {r:R2}(hr:IxR X r)(ha:PE X a ta)(hb:PE X b tb)(hs:b2R' b):PE X (.Subscript a b pos) (tOp r ta tb):=by
 intro pins s σ H Q I h
 exact Subscript_ (binT ha hb I h fun v u s2 x y H2 I2 rx ry q=>hr a b pins s2 σ H2 x y v u Q I2 rx ry q (hs _ _))
def rIxL (K:PySem.W.Frag):R2:=fun x y H Q=>∃p xs i v,x=.ref p∧y=.int i∧SqL K H p xs∧atI xs i=some v∧Q v H
def rIxT (K:PySem.W.Frag):R2:=fun x y H Q=>∃p xs i v,x=.ref p∧y=.int i∧SqT K H p xs∧atI xs i=some v∧Q v H
theorem ix_list:IxR X (rIxL X.K):=by
 intro value slice pins s σ H x y v u Q I rx ry h hs
 obtain⟨p,xs,i,z,rfl,rfl,hq,he,q⟩:=h
 cases rx
 obtain⟨t,rfl⟩:=ry
 obtain⟨its,r,pl,hz⟩:=I.list hq
 obtain⟨j,h1,h2,h3,h4,h5⟩:=b2Q' he
 obtain⟨w,ew,rw'⟩:=r.get h2
 have hl:=r.length
 have hn:=a8P'
 have fin:EP X pins σ Q w s:=⟨z,H,I,rw',q⟩
 by_cases h0:0≤i
 ·have hj:i.toNat=j:=by
   rw[seqIndex_of h0 h5]at h1
   exact Option.some.inj h1
  exact item_listR pl.isList h0 (by omega) (by rw[hj];simpa using ew) fin hs
 ·have hj:(i+(its.toArray.size:Int)).toNat=j:=by
   rw[seqIndex_neg (by omega) h4]at h1
   rw[List.size_toArray,←hl]
   exact Option.some.inj h1
  exact subscriptTail_builtinR (x:=w) pl.isList.typeIs slot_list_getitem.lookup
   (wpAny_getItem_list_neg (Q:=fun r s'=>r=w∧EP X pins σ Q r s') pl.isList (by omega) (by rw[List.size_toArray]<;>omega) (by omega) (by rw[hj];simpa using ew) ⟨rfl,fin⟩) hs
theorem ix_tup:IxR X (rIxT X.K):=by
 intro value slice pins s σ H x y v u Q I rx ry h hs
 obtain⟨p,xs,i,z,rfl,rfl,hq,he,q⟩:=h
 cases rx
 obtain⟨t,rfl⟩:=ry
 obtain⟨its,r,pl,hz⟩:=I.tuple hq
 obtain⟨j,h1,h2,h3,h4,h5⟩:=b2Q' he
 obtain⟨w,ew,rw'⟩:=r.get h2
 have hl:=r.length
 have hn:=a8P'
 have fin:EP X pins σ Q w s:=⟨z,H,I,rw',q⟩
 exact subscriptTail_builtinR (x:=w) pl.typeIs slot_tuple_getitem.lookup
  (getItem_tuple (j:=j) (Q:=fun r s'=>r=w∧EP X pins σ Q r s') pl (by omega) (by omega) (by rw[List.size_toArray,←hl];exact h1) (by simpa using ew) ⟨rfl,fin⟩) hs
theorem a9M' (its:List Value)(n j:Nat)(u:Value):Obj.mapSeq (·.setIfInBounds j u) {cls:=.type "list",data:=.seq its.toArray n}={cls:=.type "list",data:=.seq (its.set j u).toArray n}:=by
 simp[Obj.mapSeq]
theorem Inv.lst {pins:List (Addr×Obj)}{σ:St}{H:Hp}{s:Shared}{p:Addr}{xs:List V}(I:Inv X pins σ H s)(h:H p=some (.lst xs)):
  ∃(its:List Value) (n:Nat),Vals xs its∧s.heap.get? p=some {cls:=.type "list",data:=.seq its.toArray n}∧xs.length≤sizeLine:=by
 obtain⟨z,its,n,r,e⟩:=I.hok p _ h
 exact⟨its,n,r,e,z⟩
theorem Inv.lstUpd {pins:List (Addr×Obj)}{σ:St}{H:Hp}{s:Shared}{p:Addr}{xs ys:List V}{its its':List Value}{n n':Nat}{f:Obj→Obj}(I:Inv X pins σ H s)(h:H p=some (.lst xs))
  (ho:s.heap.get? p=some {cls:=.type "list",data:=.seq its.toArray n}) (hf:f {cls:=.type "list",data:=.seq its.toArray n}={cls:=.type "list",data:=.seq its'.toArray n'}) (r:Vals ys its') (hz:ys.length≤sizeLine) (t:Nat):
  Inv X pins σ (upd H p (.lst ys)) {s with heap:=s.heap.update p f,toks:=t}:=by
 have e:(s.heap.update p f).get? p=some {cls:=.type "list",data:=.seq its'.toArray n'}:=by
  rw[Heap.get?_update_self f ho (by rw[hf]<;>rfl),hf]
 refine I.write (x:=p) (e:=p) (by rw[h];trivial) (.inl rfl) (fun b u hb q=>(Heap.get?_update_other _ _ (Ne.symm hb)).trans q) ⟨_,e⟩ ?_
 exact⟨hz,its',n',r,e⟩
def rSetL:V→V→V→Hp→(Hp→Prop)→Prop:=fun o i v H Q=>∃p xs k j,o=.ref p∧i=.int k∧H p=some (.lst xs)∧ixN xs.length k=some j∧Q (upd H p (.lst (xs.set j v)))
theorem b3N':PSet X rSetL:=by
 intro pins s σ H o i v ov iv u Q I ro ri rv h
 obtain⟨p,xs,k,j,rfl,rfl,hp,hj,q⟩:=h
 cases ro
 obtain⟨t,rfl⟩:=ri
 obtain⟨its,n,r,ho,hz⟩:=I.lst hp
 obtain⟨h1,h2,h3,h4⟩:=a9L' hj
 have hl:=r.length
 have hn:=a8P'
 have I':Inv X pins σ (upd H p (.lst (xs.set j v))) {s with heap:=s.heap.update p (Obj.mapSeq (·.setIfInBounds j u))}:=
  I.lstUpd hp ho (a9M' its n j u) (r.set rv j) (by rw[List.length_set];exact hz) s.toks
 by_cases h0:0≤k
 ·have hk:k.toNat=j:=by
   rw[seqIndex_of h0 h4]at h1
   exact Option.some.inj h1
  exact PySem.W.ki_setAt ho h0 (by omega) (by rw[List.size_toArray,←hl];exact h4) (by rw[hk];exact⟨_,I',q⟩)
 ·have hk:(k+(its.toArray.size:Int)).toNat=j:=by
   rw[seqIndex_neg (by omega) h3]at h1
   rw[List.size_toArray,←hl]
   exact Option.some.inj h1
  exact PySem.W.ki_setBack ho (by omega) (by rw[List.size_toArray,←hl];exact h3) (by omega) (by rw[hk];exact⟨_,I',q⟩)
theorem a7o' (lo hi:Option Int)(n:Nat):(sliceBounds lo hi none n).1=((HT.sIx n 0 lo:Nat):Int)∧(sliceBounds lo hi none n).2.1=((HT.sIx n n hi:Nat):Int)∧(sliceBounds lo hi none n).2.2=1:=by
 refine⟨?_,?_,rfl⟩
 ·cases lo with
  |none=>simp[sliceBounds,HT.sIx]
  |some i=>
   simp only[sliceBounds,HT.sIx,Option.getD_none,show(1:Int)>0 by decide,if_true]
   by_cases h:i<0
   ·simp only[h,if_true]<;>omega
   ·simp only[h,if_false]<;>omega
 ·cases hi with
  |none=>simp[sliceBounds,HT.sIx]
  |some i=>
   simp only[sliceBounds,HT.sIx,Option.getD_none,show(1:Int)>0 by decide,if_true]
   by_cases h:i<0
   ·simp only[h,if_true]<;>omega
   ·simp only[h,if_false]<;>omega
theorem a6m' (its:List Value)(lo hi:Option Int):slicePick its.toArray lo hi none=((its.drop (HT.sIx its.length 0 lo)).take (HT.sIx its.length its.length hi-HT.sIx its.length 0 lo)).toArray:=by
 obtain⟨h1,h2,h3⟩:=a7o' lo hi its.toArray.size
 unfold slicePick
 rw[h1,h2,h3]
 simp only[sliceRange_one,pick_run,List.size_toArray]<;>rfl
def rSlL (K:PySem.W.Frag):V→Option Int→Option Int→Hp→VK→Prop:=fun x lo hi H Q=>∃a xs,x=.ref a∧SqL K H a xs∧∀p,H p=none→Q (.ref p) (upd H p (.lst (cutV xs lo hi)))
theorem sl_list:SlR X (rSlL X.K):=by
 intro pins s σ H x v vl vu lo hi sl Q I rx hs pl pu h
 obtain⟨a,xs,rfl,hx,q⟩:=h
 cases rx
 obtain⟨its,r,ht,hz⟩:=I.list hx
 have hlen:=r.length
 refine⟨"list",_,slot_list_getitem.lookup,ht.isList.typeIs,?_⟩
 refine wpAny_getItem_list_slice ht.isList hs pl pu .none (by simp) ?_ (by rw[List.size_toArray]<;>omega)
 rw[a6m',←hlen]
 refine⟨.ref s.heap.objs.size,_,I.laid (t':=s.toks) (o:=.lst (cutV xs lo hi)) (fun b ob q=>Heap.get?_push_of_some _ q) (Nat.le_refl _) ?_,rfl,q _ (I.hok.fresh (Nat.le_refl _))⟩
 exact⟨Nat.le_trans (a4Y' xs lo hi) hz,_,0,(r.drop (HT.sIx xs.length 0 lo)).take (HT.sIx xs.length xs.length hi-HT.sIx xs.length 0 lo),Heap.get?_push_size _ rfl⟩
theorem a7p':CallR X (.builtin "len") (fun xs H Q=>∃p ys,xs=[.ref p]∧(SqL X.K H p ys∨SqT X.K H p ys)∧Q (.int ys.length) H):=by
 intro pins s σ H xs us Q I r h
 obtain⟨p,ys,rfl,hq,q⟩:=h
 obtain⟨u,rfl,rx⟩:=vals1 r
 cases rx
 have hn:=a8P'
 rcases hq with hq|hq
 ·obtain⟨its,r',pl,hz⟩:=I.list hq
  have hlen:=r'.length
  exact Calls.call_len_list pl.isList (by simp only[List.size_toArray]<;>omega) ⟨.int ys.length,H,I.tok _,⟨s.toks+1,by rw[List.size_toArray,hlen]⟩,q⟩
 ·obtain⟨its,r',pl,hz⟩:=I.tuple hq
  have hlen:=r'.length
  exact len_tuple pl (by simp only[List.size_toArray]<;>omega) ⟨.int ys.length,H,I.tok _,⟨s.toks+1,by rw[List.size_toArray,hlen]⟩,q⟩
theorem a7q':CallR X (.builtin "len") (fun xs H Q=>∃z,xs=[.str z]∧z.length≤sizeLine∧Q (.int z.length) H):=by
 intro pins s σ H xs us Q I r h
 obtain⟨z,rfl,hz,q⟩:=h
 obtain⟨u,rfl,t,rfl⟩:=vals1 r
 have hn:=a8P'
 exact len_str (by omega) ⟨.int z.length,H,I.tok _,⟨_,rfl⟩,q⟩
theorem a7r':CallR X (.type "list") (fun xs H Q=>∃p ys,xs=[.ref p]∧(SqL X.K H p ys∨SqT X.K H p ys)∧∀l,H l=none→Q (.ref l) (upd H l (.lst ys))):=by
 intro pins s σ H xs us Q I r h
 obtain⟨p,ys,rfl,hq,q⟩:=h
 obtain⟨u,rfl,rx⟩:=vals1 r
 cases rx
 have fin:∀(its:List Value),Vals ys its→ys.length≤sizeLine→∀(h':Heap) (c':Nat),(∀b o',s.heap.get? b=some o'→h'.get? b=some o')→
   h'.get? s.heap.objs.size=some {cls:=.type "list",dict:=none,data:=.seq its.toArray c',slots:= #[]}→EP X pins σ Q (.ref s.heap.objs.size) {s with heap:=h'}:=fun its r' hz h' c' kp e=>
  ⟨.ref s.heap.objs.size,_,I.laid (t':=s.toks) kp (Nat.le_refl _) (show ObjOk X.prog X.w _ h' _ (.lst ys)from⟨hz,its,c',r',e⟩),rfl,q _ (I.hok.fresh (Nat.le_refl _))⟩
 rcases hq with hq|hq
 ·obtain⟨its,r',pl,hz⟩:=I.list hq
  have hlen:=r'.length
  obtain⟨o,ho,hc,n,hd⟩:=pl.isList
  exact call_list_seq p (.inl rfl) ho hc hd (fun h' c' kp e=>fin its r' hz h' c' kp e) (by simp only[List.size_toArray]<;>omega)
 ·obtain⟨its,r',pl,hz⟩:=I.tuple hq
  have hlen:=r'.length
  obtain⟨o,ho,hc,n,hd⟩:=pl
  exact call_list_seq p (.inr rfl) ho hc hd (fun h' c' kp e=>fin its r' hz h' c' kp e) (by simp only[List.size_toArray]<;>omega)
theorem a3q':CallR X (.type "tuple") (fun xs H Q=>∃p ys,xs=[.ref p]∧((SqL X.K H p ys∧∀l,H l=none→Q (.ref l) (upd H l (.tup ys)))∨(SqT X.K H p ys∧Q (.ref p) H))):=by
 intro pins s σ H xs us Q I r h
 obtain⟨p,ys,rfl,h⟩:=h
 obtain⟨u,rfl,rx⟩:=vals1 r
 cases rx
 rcases h with⟨hq,q⟩| ⟨hq,q⟩
 ·obtain⟨its,r',pl,hz⟩:=I.list hq
  have hlen:=r'.length
  refine call_tuple_list pl.isList (fun h' kp=> ?_) (by simp only[List.size_toArray]<;>omega)
  have I1:Inv X pins σ H {s with heap:=h'}:=I.kept (t':=s.toks) kp
  have I2:Inv X pins σ (upd H h'.objs.size (.tup ys)) {s with heap:=h'.push {cls:=.type "tuple",data:=.seq its.toArray}}:=
   I1.laid (t':=s.toks) (fun b o e=>Heap.get?_push_of_some _ e) (Nat.le_refl _) (show ObjOk X.prog X.w _ _ _ (.tup ys)from⟨hz,its,r',IsTup.new _ _⟩)
  exact⟨.ref h'.objs.size,_,I2,rfl,q _ (I1.hok.fresh (Nat.le_refl _))⟩
 ·obtain⟨its,r',pl,hz⟩:=I.tuple hq
  exact call_tuple_same pl ⟨.ref p,H,I,rfl,q⟩
def tyV (K:PySem.W.Frag)(T:String)(x:V)(H:Hp):Prop:=match x with
 | .str _=>T="str"
 | .int _=>T="int"
 | .ref p=>(T="list"∧∃xs,SqL K H p xs)∨(T="tuple"∧∃o,K.lookup p=some o∧o.cls=.type "tuple"∧o.dict=none)∨
   (T="dict"∧((∃kvs,H p=some (.dK kvs))∨∃kvs,H p=some (.dT kvs)))∨(T="set"∧∃S n,H p=some (.set S n))
 |_=>False
theorem tyV_is {pins:List (Addr×Obj)}{σ:St}{H:Hp}{s:Shared}{T:String}{x:V}{v:Value}(I:Inv X pins σ H s)(r:RelV x v)(ty:tyV X.K T x H):
  s.TypeIs v T∧∀a,v=.ref a→∃ob,s.heap.get? a=some ob∧ob.dict=none:=by
 cases x with
 |str z=>
  obtain⟨t,rfl⟩:=r
  cases(show T="str" from ty)
  exact⟨typeIs_str s z t,fun _ e=>nomatch e⟩
 |int i=>
  obtain⟨t,rfl⟩:=r
  cases(show T="int" from ty)
  exact⟨typeIs_int s i t,fun _ e=>nomatch e⟩
 |ref p=>
  cases r
  rcases ty with⟨rfl,xs,hq⟩| ⟨rfl,o,hk,hc,hd⟩| ⟨rfl,hk⟩| ⟨rfl,S,n,hk⟩
  ·obtain⟨its,_,pl,_⟩:=I.list hq
   refine⟨pl.isList.typeIs,fun a e=> ?_⟩
   cases e
   obtain⟨o,n,e,c,hd,_⟩:=pl
   exact⟨o,e,hd⟩
  ·refine⟨⟨o,I.kIn p o hk,hc⟩,fun a e=> ?_⟩
   cases e
   exact⟨o,I.kIn _ o hk,hd⟩
  ·have z:∃o,s.heap.get? p=some o∧o.ExactDict:=by
    rcases hk with⟨kvs,hk⟩| ⟨kvs,hk⟩
    ·obtain⟨_,_,_,_,o,_,_,e,ex,_⟩:=I.hok p _ hk
     exact⟨o,e,ex⟩
    ·obtain⟨_,_,_,_,o,_,_,e,ex,_⟩:=I.hok p _ hk
     exact⟨o,e,ex⟩
   obtain⟨o,e,ex⟩:=z
   refine⟨⟨o,e,ex.1⟩,fun a e2=> ?_⟩
   cases e2
   exact⟨o,e,ex.2.1⟩
  ·obtain⟨o,_,_,_,e,ex,_⟩:=I.hok p _ hk
   refine⟨⟨o,e,ex.1⟩,fun a e2=> ?_⟩
   cases e2
   exact⟨o,e,ex.2.1⟩
 |_=>exact False.elim ty
def tBM0 (K:PySem.W.Frag)(T:String)(r:V→List V→Hp→VK→Prop)(to:TE):TE:=fun σ H Q=>to σ H fun x H1=>tyV K T x H1∧r x [] H1 Q
def tBM (K:PySem.W.Frag)(T:String)(r:V→List V→Hp→VK→Prop)(to:TE)(t:TA):TE:=fun σ H Q=>to σ H fun x H1=>tyV K T x H1∧t σ H1 fun xs H2=>r x xs H2 Q
variable {o e:Expr}{es:List Expr}{to:TE}{t:TA}{name:Str}{apos cpos:Pos}{T id:String}{r:V→List V→Hp→VK→Prop}
theorem pe_bm0 (pa:PlainAttrs T)(slot:Slot T name id)(hty:typeOf (.builtin id)=pure (.type "method_descriptor"))(hm:MtR X id r)(ho:PE X o to)
  (hbase:attributeBase o name X.env (eval o X.env)=eval o X.env:=by rfl) (hline:(apos.endLine==cpos.line)=true:=by rfl):PE X (.Call (.Attribute o name apos) [] [] cpos) (tBM0 X.K T r to):=by
 intro pins s σ H Q I h
 refine wpAny_Call_method0_late hbase hline (thn (ho pins s σ H _ I h) fun v s1 ⟨x,H1,I1,r1,ty,q1⟩=> ?_)
 obtain⟨h1,h2⟩:=tyV_is I1 r1 ty
 exact⟨T,id,pa,slot,hty,h1,h2,Calls.callWith_builtin rfl (PySem.evalArgs_none (hm pins s1 σ H1 x [] v [] Q I1 r1 .nil q1))⟩
theorem pe_bm (pa:PlainAttrs T)(slot:Slot T name id)(hty:typeOf (.builtin id)=pure (.type "method_descriptor"))(hm:MtR X id r)(ho:PE X o to)(ha:PA X (e::es) t)
  (hbase:attributeBase o name X.env (eval o X.env)=eval o X.env:=by rfl)
  (hfew:((backTo cpos (starEach (e::es) X.env)).all (fun x=> !x.1)&&(backToKw cpos (keywordEach [] X.env)).all (fun x=>x.1.isSome)
   &&decide ((e::es).length+([]:List Keyword).length+(if([]:List Keyword).isEmpty then 0 else 1)<30))=true:=by rfl)
  (hline:(apos.endLine==cpos.line)=true:=by rfl) (hs:starEach (e::es) X.env=(false,eval e X.env)::starEach es X.env:=by rfl) (hplain:(backTo cpos (starEach es X.env)).any (·.1)=false:=by rfl):
  PE X (.Call (.Attribute o name apos) (e::es) [] cpos) (tBM X.K T r to t):=by
 intro pins s σ H Q I h
 refine wpAny_Call_method_late hbase hfew hline rfl (thn (ho pins s σ H _ I h) fun v s1 ⟨x,H1,I1,r1,ty,q1⟩=> ?_)
 obtain⟨h1,h2⟩:=tyV_is I1 r1 ty
 refine⟨T,id,pa,slot,hty,h1,h2,?_⟩
 have hA:=ha cpos pins s1 σ H1 _ I1 q1
 rw[hs]at hA⊢
 refine Calls.callWith_builtin (by show(false||(backTo cpos (starEach es X.env)).any (·.1))=false;rw[hplain]<;>rfl) (Calls.evalArgs_plain ?_)
 exact thn hA fun us s2 ⟨vs,H2,I2,r2,q2⟩=>hm pins s2 σ H2 x vs v us Q I2 r1 r2 q2
end
end L2
namespace L2
open PySem PySem.Spec PyProof.Rows
def MtM (X:Cx)(id:String)(r:V→List V→Hp→VK→Prop):Prop:=
 ∀(pins:List (Addr×Obj)) (s:Shared) (σ:St) (H:Hp) (x:V) (xs:List V) (v:Value) (us:List Value) (Q:VK),Inv X pins σ H s→RelV x v→Vals xs us→r x xs H Q→
  wpAny (model X.prog X.w) X.A (call (.builtin id) (v::us)) (EP X pins σ Q) X.xe s
theorem Vals.un {x:V}{xs:List V}{us:List Value}(h:Vals (x::xs) us):∃u r,us=u::r∧RelV x u∧Vals xs r:=by
 cases h with
 |cons r t=>exact⟨_,_,rfl,r,t⟩
theorem Vals.nul {us:List Value}(h:Vals [] us):us=[]:=by
 cases h
 rfl
theorem Vals.one {x:V}{us:List Value}(h:Vals [x] us):∃u,us=[u]∧RelV x u:=by
 obtain⟨u,r,rfl,h1,h2⟩:=h.un
 cases h2.nul
 exact⟨u,rfl,h1⟩
theorem Vals.two {x y:V}{us:List Value}(h:Vals [x,y] us):∃u v,us=[u,v]∧RelV x u∧RelV y v:=by
 obtain⟨u,r,rfl,h1,h2⟩:=h.un
 obtain⟨v,rfl,h3⟩:=h2.one
 exact⟨u,v,rfl,h1,h3⟩
theorem Vals.zero:∀{us:List Value},Vals [] us→us=[]
 |_,.nil=>rfl
theorem Vals.dropLast {xs:List V}{us:List Value}(h:Vals xs us):Vals xs.dropLast us.dropLast:=by
 induction h with
 |nil=>exact .nil
 |cons r t ih=>
  cases t with
  |nil=>exact .nil
  |cons q t'=>exact .cons r ih
theorem Vals.eraseIdx:∀{xs:List V} {us:List Value} (i:Nat),Vals xs us→Vals (xs.eraseIdx i) (us.eraseIdx i)
 |_,_,_,.nil=>.nil
 |_,_,0,.cons _ t=>t
 |_,_,i+1,.cons r t=>.cons r (Vals.eraseIdx i t)
theorem Vals.rep {xs:List V}{us:List Value}(h:Vals xs us):∀k:Nat,Vals (List.replicate k xs).flatten (List.replicate k us).flatten
 |0=>.nil
 |k+1=>by
  rw[List.replicate_succ,List.replicate_succ,List.flatten_cons,List.flatten_cons]
  exact Vals.append h (Vals.rep h k)
theorem a9N' {α:Type}(l:List α):l.eraseIdx (l.length-1)=l.dropLast:=by
 induction l with
 |nil=>rfl
 |cons a r ih=>
  cases r with
  |nil=>rfl
  |cons b r=>
   have e:(a::b::r).length-1=((b::r).length-1)+1:=by
    have h1:(a::b::r).length=r.length+2:=rfl
    have h2:(b::r).length=r.length+1:=rfl
    omega
   rw[e,List.eraseIdx_cons_succ,ih]
   all_goals rfl
theorem a7Y' {α:Type}:∀(l:List α) (i:Nat),(l.eraseIdx i).length≤l.length
 | [],_=>Nat.le_refl _
 |_::_,0=>Nat.le_succ _
 |_::r,i+1=>Nat.succ_le_succ (a7Y' r i)
theorem a5D' (its:List Value):∀(k:Nat) (acc:List Value),
  List.foldl (fun x1 x2=>x1++x2) acc.toArray (List.replicate k its.toArray)=(acc++(List.replicate k its).flatten).toArray
 |0,acc=>by simp
 |k+1,acc=>by
  have e:acc.toArray++its.toArray=(acc++its).toArray:=by simp
  have e2:(acc++its)++(List.replicate k its).flatten=acc++(List.replicate (k+1) its).flatten:=by
   rw[List.replicate_succ,List.flatten_cons,List.append_assoc]
  rw[←e2,←a5D' its k (acc++its),←e,List.replicate_succ,List.foldl_cons]
section
variable {X:Cx}{pins:List (Addr×Obj)}{σ:St}{H:Hp}{s:Shared}{l b:Addr}{xs ys zs:List V}
theorem Inv.lset {its its':List Value}{n:Nat}{f:Array Value→Array Value}{t':Nat}(I:Inv X pins σ H s)(hH:H l=some (.lst xs))
  (e:s.heap.get? l=some {cls:=.type "list",data:=.seq its.toArray n}) (hf:f its.toArray=its'.toArray) (hv:Vals ys its') (hz:ys.length≤sizeLine):
  Inv X pins σ (upd H l (.lst ys)) {s with heap:=s.heap.update l (Obj.mapSeq f),toks:=t'}:=by
 have q:=PySem.IsL.update e f
 rw[hf]at q
 refine I.write (x:=l) (e:=l) (by rw[hH];exact trivial) (.inl rfl) (fun b' u hb hu=>(Heap.get?_update_other s.heap (Obj.mapSeq f) (Ne.symm hb)).trans hu) ⟨_,q⟩ ?_
 exact⟨hz,its',_,hv,q⟩
theorem Inv.lnew {its:List Value}{t':Nat}(I:Inv X pins σ H s)(hv:Vals ys its)(hz:ys.length≤sizeLine):
  Inv X pins σ (upd H s.heap.objs.size (.lst ys)) {s with heap:=s.heap.push {cls:=.type "list",data:=.seq its.toArray},toks:=t'}:=
 I.laid (fun _ _ q=>Heap.get?_push_of_some _ q) (Nat.le_refl _) ⟨hz,its,0,hv,Heap.get?_push_size _ rfl⟩
theorem Inv.fresh (I:Inv X pins σ H s):H s.heap.objs.size=none:=I.hok.fresh (Nat.le_refl _)
theorem Inv.lstM (I:Inv X pins σ H s)(hH:H l=some (.lst xs)):xs.length≤sizeLine∧∃(its:List Value) (n:Nat),Vals xs its∧xs.length=its.length∧s.heap.get? l=some {cls:=.type "list",data:=.seq its.toArray n}:=by
 obtain⟨z,its,n,r,e⟩:=I.hok l _ hH
 exact⟨z,its,n,r,r.length,e⟩
theorem b3O' {n:Nat}(h:n≤sizeLine):Builtin.List.listTooLong n=false:=by
 unfold Builtin.List.listTooLong
 exact decide_eq_false (by omega)
end
section
variable {X:Cx}
def rAppend:V→List V→Hp→VK→Prop:=fun x vs H Q=>∃l xs y,x=.ref l∧vs=[y]∧H l=some (.lst xs)∧xs.length<sizeLine∧Q .non (upd H l (.lst (xs++[y])))
theorem a7Z':MtM X "list.append" rAppend:=by
 intro pins s σ H x vs v us Q I rx rv h
 obtain⟨l,xs,y,rfl,rfl,hH,hz,q⟩:=h
 cases rx
 obtain⟨u,rfl,ru⟩:=rv.one
 obtain⟨z,its,n,r,hl,e⟩:=I.lstM hH
 refine call_meets F.slot_list_append ⟨_,e,rfl⟩ F.entry_list_append (F.args_list_append_2 _ _) (PySem.list_append l its.toArray n u (by rw[List.size_toArray];omega)) ⟨e,?_⟩
 refine⟨.non,_,I.lset (its':=its++[u]) hH e (by simp) (r.append (.cons ru .nil)) ?_,rfl,q⟩
 rw[List.length_append,List.length_singleton]
 omega
def rPop:V→List V→Hp→VK→Prop:=fun x vs H Q=>∃l xs y,x=.ref l∧vs=[]∧H l=some (.lst xs)∧xs[xs.length-1]? =some y∧Q y (upd H l (.lst xs.dropLast))
theorem mt_pop:MtM X "list.pop" rPop:=by
 intro pins s σ H x vs v us Q I rx rv h
 obtain⟨l,xs,y,rfl,rfl,hH,hy,q⟩:=h
 cases rx
 have hus:=rv.zero
 subst hus
 obtain⟨z,its,n,r,hl,e⟩:=I.lstM hH
 obtain⟨u,hu,ru⟩:=r.get hy
 have hy':its.toArray[its.toArray.size-1]? =some u:=by
  show its.toArray[its.length-1]? =some u
  rw[←Array.getElem?_toList,←hl]
  exact hu
 refine call_meets F.slot_list_pop ⟨_,e,rfl⟩ F.entry_list_pop (F.args_list_pop_1 _) (MeetsSeq.list_pop_last l its.toArray n u hy' (by rw[List.size_toArray];omega)) ⟨e,?_⟩
 refine⟨y,_,I.lset (its':=its.dropLast) hH e ?_ r.dropLast ?_,ru,q⟩
 ·show its.toArray.eraseIdxIfInBounds (its.toArray.size-1)=its.dropLast.toArray
  rw[List.size_toArray,List.eraseIdxIfInBounds_toArray,a9N']
 ·rw[List.length_dropLast]
  omega
def rPopAt:V→List V→Hp→VK→Prop:=fun x vs H Q=>∃l xs i k y,x=.ref l∧vs=[.int i]∧H l=some (.lst xs)∧-(2^63)≤i∧i<2^63∧seqIndex? i xs.length=some k∧xs[k]? =some y∧Q y (upd H l (.lst (xs.eraseIdx k)))
theorem b3P':MtM X "list.pop" rPopAt:=by
 intro pins s σ H x vs v us Q I rx rv h
 obtain⟨l,xs,i,k,y,rfl,rfl,hH,h1,h2,hk,hy,q⟩:=h
 cases rx
 obtain⟨u,rfl,ru⟩:=rv.one
 obtain⟨t,rfl⟩:=ru
 obtain⟨z,its,n,r,hl,e⟩:=I.lstM hH
 obtain⟨w,hw,rw'⟩:=r.get hy
 refine call_meets F.slot_list_pop ⟨_,e,rfl⟩ F.entry_list_pop (F.args_list_pop_2 _ _)
  (MeetsSeq.list_pop_at l its.toArray n i t k w (fitsIndex_both h1 h2) (by rw[List.size_toArray,←hl];exact hk) (by rw[←Array.getElem?_toList];exact hw) (by rw[List.size_toArray];omega)) ⟨e,?_⟩
 refine⟨y,_,I.lset (its':=its.eraseIdx k) hH e ?_ (r.eraseIdx k) ?_,rw',q⟩
 ·show its.toArray.eraseIdxIfInBounds k=(its.eraseIdx k).toArray
  rw[List.eraseIdxIfInBounds_toArray]
 ·have:=a7Y' xs k
  omega
def rCat:R2:=fun x y H Q=>∃l b xs zs,x=.ref l∧y=.ref b∧H l=some (.lst xs)∧H b=some (.lst zs)∧xs.length+zs.length≤sizeLine∧∀p,H p=none→Q (.ref p) (upd H p (.lst (xs++zs)))
theorem op_cat:OpR X (binaryOp .Add) rCat:=by
 intro pins s σ H x y v u Q I rx ry h
 obtain⟨l,b,xs,zs,rfl,rfl,hH,hB,hz,q⟩:=h
 cases rx
 cases ry
 obtain⟨z,its,n,r,hl,e⟩:=I.lstM hH
 obtain⟨z2,its2,n2,r2,hl2,e2⟩:=I.lstM hB
 refine PySem.P.add_list e e2 ?_ (by rw[List.size_toArray,List.size_toArray];omega)
 have ea:its.toArray++its2.toArray=(its++its2).toArray:=by simp
 rw[ea]
 exact⟨.ref _,_,I.lnew (t':=s.toks) (r.append r2) (by rw[List.length_append];omega),rfl,q _ I.fresh⟩
def rRep:R2:=fun x y H Q=>∃l k xs,x=.ref l∧y=.int k∧H l=some (.lst xs)∧-(2^63)≤k∧k<2^63∧xs.length*k.toNat≤sizeLine∧
 ∀p,H p=none→Q (.ref p) (upd H p (.lst (List.replicate k.toNat xs).flatten))
theorem a9O' {α:Type}(xs:List α)(k:Nat):(List.replicate k xs).flatten.length=k*xs.length:=by
 induction k with
 |zero=>simp
 |succ k ih=>rw[List.replicate_succ,List.flatten_cons,List.length_append,ih,Nat.succ_mul,Nat.add_comm]
theorem op_rep:OpR X (binaryOp .Mult) rRep:=by
 intro pins s σ H x y v u Q I rx ry h
 obtain⟨l,k,xs,rfl,rfl,hH,h1,h2,hz,q⟩:=h
 cases rx
 obtain⟨t,rfl⟩:=ry
 obtain⟨z,its,n,r,hl,e⟩:=I.lstM hH
 have hlen:its.toArray.size*k.toNat≤sizeLine:=by rw[List.size_toArray,←hl];exact hz
 have hcap:¬its.toArray.size*k.toNat>(2^63-1)/8:=by
  have:(sizeLine:Nat)≤(2^63-1)/8:=by decide
  omega
 have hfit:¬(!Builtin.List.listFitsIndex k)=true:=by
  rw[fitsIndex_both h1 h2]
  exact Bool.false_ne_true
 have hlong:¬Builtin.List.listTooLong (its.toArray.size*k.toNat)=true:=by
  rw[b3O' hlen]
  exact Bool.false_ne_true
 have hnew:List.foldl (fun x1 x2=>x1++x2) #[] (List.replicate (if its.toArray.isEmpty=true then 0 else k.toNat) its.toArray)=(List.replicate k.toNat its).flatten.toArray:=by
  have f0:∀m:Nat,List.foldl (fun x1 x2=>x1++x2) #[] (List.replicate m its.toArray)=(List.replicate m its).flatten.toArray:=fun m=>by
   have:=a5D' its m []
   rw[List.nil_append]at this
   exact this
  rw[f0]
  cases its with
  |nil=>simp
  |cons a r'=>rw[if_neg (by simp)]
 refine wpAny_binaryOp_repeat_ref (T:="list") (U:="int") (by decide) ⟨_,e,rfl⟩ (fun s'=>typeIs_int s' k t) noFill_list_mul F.fills_int_mul F.slot_int_rmul repeat_list F.slot_int_index.lookup
  (call_meets F.slot_int_rmul (typeIs_int s k t) F.entry_int_rmul (F.args_int_rmul_2 _ _) (int___rmul___int_list k t l its.toArray n)
   ⟨e,rfl,⟨_,e,rfl⟩,call_meets F.slot_list_mul ⟨_,e,rfl⟩ F.entry_list_mul (F.args_list_mul_2 _ _) (AutoListH.list___mul___list_int_3 l its.toArray n k t hfit hcap hlong) ⟨e,?_⟩⟩)
 rw[hnew]
 exact⟨.ref _,_,I.lnew (t':=s.toks) (r.rep k.toNat) (by rw[a9O',Nat.mul_comm];exact hz),rfl,q _ I.fresh⟩
end
section
variable {prog:Program}{w:World}{A:Around}{E:Value→Shared→Prop}{s:Shared}
set_option maxRecDepth 100000 in
end
section
variable {X:Cx}
end
end L2
namespace Att
open PySem PySem.W PySem.Calls PyProof.Rows
theorem a4I' {P:Params}{h:Heap}:∀(ns:List Int) (vs:List Value),WellAll P h vs (ns.map WData.int)→IntsAre vs ns:=by
 intro ns
 induction ns with
 |nil=>
  intro vs w
  rw[List.map_nil]at w
  cases w
  exact .nil
 |cons n ns ih=>
  intro vs w
  rw[List.map_cons]at w
  cases w with
  |cons a b=>
   cases a
   exact .cons _ _ (ih _ b)
theorem b1E' {l:OpenLaw}{n:Nat}(hn:l.most=some n){P:Params}{h:Heap}{args:List WData}{vals:List Value}
  (hpre:l.row.toRowW.claim.pre args=true) (hwl:WellAll P h vals args):
  ∃a vs ns,vals=[Value.ref a]∧args=[WData.list (ns.map WData.int)]∧h.get? a=some {cls:=.type "list",data:=.seq vs.toArray}∧IntsAre vs ns∧ns.length≤n:=by
 have hsh:WShape.hasAll [] args [.list .int]=true:=(pre_splitW hpre).1
 have hc:l.pre.holds [] {args:=args}=true:=(pre_splitW hpre).2
 obtain⟨d,r,rfl,h1,h2⟩:=hasAllW_cons hsh
 obtain rfl:=hasAllW_nil h2
 obtain⟨xs,rfl,h3⟩:=hasW_list h1
 obtain⟨ns,rfl⟩:=items_int h3
 have hlen:ns.length≤n:=by
  unfold OpenLaw.pre at hc
  have h4:(WTm.not (.lt (.lit (.int (n:Int))) (.len (.arg 0)))).holds [] {args:=[.list (ns.map .int)]}=true:=by
   have h4:=(holds_andW hc).1
   rw[hn]at h4
   exact h4
  have h5:=condW_of h4 (w_not (w_lt w_lit (w_len_list (w_arg rfl))))
  rw[List.length_map]at h5
  refine Nat.le_of_not_lt fun q=> ?_
  have q':(n:Int)<((ns.length:Nat):Int):=by omega
  first
   | (rw[decide_eq_true q']at h5;exact absurd h5 (by decide))
   | (simp at h5;omega)
 cases hwl with
 |cons w1 w2=>
  cases w2
  cases w1 with
  |list ho hall=>exact⟨_,_,ns,rfl,rfl,ho,a4I' ns _ hall,hlen⟩
theorem b1F' (l:OpenLaw)(args:List WData):l.row.toRowW.claim.post args (.bool true) args=true:=
 postW_of (r:=l.row.toRowW) (X:=(true==true))
  (show WShape.has [] (.bool true) .bool=true by first|rfl|decide|simp[WShape.has,WShape.arms,WShape.armsAll])
  (show(WTm.eq .res (.lit (.bool true))).value [] {args:=args,res:=some (.bool true),after:=args}=some (.bool (true==true))from w_eq_bool (w_res rfl) w_lit) rfl
theorem a8Q' {l:OpenLaw}{n:Nat}{q:Program}{loose:List Str}{XP:(Str→Option Value)→Heap→Prop}{YP:World→Heap→Prop}{d:DefRec}
  (hn:l.most=some n) (hdf:d.params.defaults=[])
  (call:∀(w:World) (s₀ s₁:Shared) (mg mb:Str→Option Value) (fa:Addr) (o:Obj) (pm cd doc:Value) (a:Addr) (vs:List Value) (ns:List Int),
   Ground q loose [] XP w s₀ mg mb s₁.heap→YP w s₁.heap→
   s₁.heap.get? fa=some o→o.data=.func (docDef d.name d.params d.body d.scope pm cd doc)→s₁.heap.CodeRec cd d.name→mg d.name=some (.ref fa)→
   s₁.heap.get? a=some {cls:=.type "list",data:=.seq vs.toArray}→IntsAre vs ns→ns.length≤n→s₁.gens= #[]→
   codeAny (model l.prog w) callerA (.call (.ref fa) ⟨[.ref a],[]⟩) (fun r s'=>r=.ok (.ret (.bool true))∧OldK s₁.heap s'.heap∧s'.os=s₁.os∧AllBare s'.gens) s₁):
  WalkO q loose XP YP l.row.toRowW d [] (fun f vs=>PySem.call f vs):=by
 intro w s₀ s₁ mg mb G Y fa o pm cd doc dV kV ho hd hcd hD hmg hg args vals as hpre hlay hrd hwl hlo
 obtain rfl:dV=.none:=Dflts.none hD hdf
 obtain rfl:kV=.none:=Dflts.noKw hD
 obtain⟨a,vs,ns,rfl,rfl,hobj,hints,hlen⟩:=b1E' hn hpre hwl
 refine enter_call (codeAny_mono (call w s₀ s₁ mg mb fa o pm cd doc a vs ns G Y ho (fd_plain hd) hcd hmg hobj hints hlen hg) fun r s' hq=> ?_)
 obtain⟨rfl,h2,h3,h4⟩:=hq
 exact⟨.inl ⟨.bool true,.bool true,[],rfl,fun _=>rfl,.bool true,b1F' l _,fun _=>⟨List.Pairwise.nil,fun _ hm=>(nomatch hm)⟩⟩,h2,h3,h4⟩
section
variable {prog:Program}{w:World}{A:Around}{E:Value→Shared→Prop}{s:Shared}{K:Frag}
end
end Att
namespace L2
open PySem PySem.Spec PyProof.Rows
theorem a8a':∀{vs:List Value} {ns:List Int},IntsAre vs ns→Vals (ns.map V.int) vs
 |_,_,.nil=>.nil
 |_,_,.cons n t h=>.cons ⟨t,rfl⟩ (a8a' h)
def Only (H:Hp):Prop:=∀b,H b=none∨∃o xs,H b=some (.frz o (.lst xs))
theorem b3Q' {P:Program}{w:World}{K:PySem.W.Frag}{mg mb:Str→Option Value}{CX:CXT}{k:Nat}{fa a:Addr}{fd:FuncData}{x:Str}{sp:Sp}{s₁:Shared}{vs:List Value}{ns:List Int}
  (KX:K.In s₁.heap) (hns:s₁.heap.Ns mainGlobals mg) (hb:s₁.heap.Ns builtinsNs mb) (hbb:∀x:Str,x≠"__name__"→mb x=bootBuiltins x) (hlim:s₁.heap.NoLimit) (hg:s₁.gens= #[])
  (ha:s₁.heap.get? a=some {cls:=.type "list",data:=.seq vs.toArray}) (hi:IntsAre vs ns) (hl:ns.length≤sizeLine) (hr:Room k callerA)
  (F:∀base:Heap,K.In base→base.Ns mainGlobals mg→FnOk P w K mg base CX k fa fd [x] sp) (hbind:∀(s:Shared) (u:Value),BindsTo s fd ⟨[u],[]⟩ [(x,u)])
  (hsp:∀H:Hp,Only H→SqL K H a (ns.map V.int)→sp [.ref a] H (fun v _=>v=.bl true) fun _ _ _=>False)
  (hCX:∀H e s',CX [] H s₁ (fun _ _ _=>False) e s'→False):
  codeAny (model P w) callerA (.call (.ref fa) ⟨[.ref a],[]⟩) (fun r s'=>r=.ok (.ret (.bool true))∧OldK s₁.heap s'.heap∧s'.os=s₁.os∧AllBare s'.gens) s₁:=by
 have rv:=a8a' hi
 have lenV:=hi.length
 have core:∀H:Hp,Only H→SqL K H a (ns.map V.int)→HOk P w H s₁.heap→(∀b,H b≠none→b=a)→(H a≠none→K.lookup a=none)→
   codeAny (model P w) callerA (.call (.ref fa) ⟨[.ref a],[]⟩) (fun r s'=>r=.ok (.ret (.bool true))∧OldK s₁.heap s'.heap∧s'.os=s₁.os∧AllBare s'.gens) s₁:=by
  intro H hO hS hok hA hK
  have base_of:∀{b:Addr} {o:Obj},s₁.heap.get? b=some o→H b=none→(hidT s₁.heap H).get? b=some o:=fun e n=>b3A' e n
  have noA:∀{b:Addr} {o:Obj} {es:Array DictEntry} {ep:Nat},s₁.heap.get? b=some o→o.data=.dict es ep→H b=none:=fun{b o es ep} e d=>by
   cases q:H b with
   |none=>rfl
   |some u=>
    have e':b=a:=hA b (by rw[q];simp)
    subst e'
    rw[ha]at e;cases e
    have d':Data.seq vs.toArray _=Data.dict es ep:=d
    cases d'
  have nsK:∀{b:Addr} {m:Str→Option Value},s₁.heap.Ns b m→(hidT s₁.heap H).Ns b m:=fun{b m} ⟨o,es,ep,e,d,r⟩=>⟨o,es,ep,base_of e (noA e d),d,r⟩
  have hKb:K.In (hidT s₁.heap H):=fun b o e=>base_of (KX b o e) (by
   cases q:H b with
   |none=>rfl
   |some u=>
    have e':b=a:=hA b (by rw[q];simp)
    subst e'
    rw[hK (by rw[q];simp)]at e;cases e)
  have hM:Mod K mg (hidT s₁.heap H):=⟨hKb,nsK hns,⟨mb,nsK hb,hbb⟩,let⟨mc,h1,h2⟩:=hlim;⟨mc,nsK h1,h2⟩⟩
  have e0:Env0 P w K mg (hidT s₁.heap H) callerA [] s₁ H:=⟨rfl,hM,fun b o e=>of_hidT e,Nat.le_of_eq (b1w' _ _),trivial,fun b hb=>absurd (show b∈([]:List Addr)from hb) (by simp),hok,.of_eq hg⟩
  refine codeAny_mono ((F _ hKb (nsK hns)).run callerA [] s₁ H ⟨[.ref a],[]⟩ [.ref a] [.ref a] _ _ hr e0 (hbind s₁ (.ref a)) (.cons rfl .nil) (hsp H hO hS)) fun r s' h=> ?_
  cases r with
  |error e=>exact(hCX H e s' h).elim
  |ok fl=>
   cases fl with
   |next=>exact False.elim h
   |brk=>exact False.elim h
   |cont=>exact False.elim h
   |ret u=>
    obtain⟨v,H',os,bare,un,hok',r',q⟩:=h
    have q':v=.bl true:=q
    subst q'
    obtain rfl:u=Value.bool true:=r'
    refine⟨rfl,OldK.of_keep fun b o e=> ?_,os,bare⟩
    cases q:H b with
    |none=>exact un.keep b o e q (by intro z;exact absurd (show b∈([]:List Addr)from z) (by simp)) (by simp)
    |some u=>
     rcases hO b with z| ⟨ob,xs,z⟩
     ·rw[q]at z;cases z
     ·have z2:=un.frzs b ob _ z
      obtain⟨e1,_⟩:=hok b _ z
      obtain⟨e2,_⟩:=hok' b _ z2
      rw[e]at e1;cases e1
      exact e2
 cases hk:K.lookup a with
 |some o=>
  have e:=KX a o hk
  rw[ha]at e
  cases e
  refine core (fun _=>none) (fun _=>.inl rfl) (.inr ⟨_,vs.toArray,_,hk,rfl,rfl,rfl,by rw[List.size_toArray,lenV];exact hl,by simpa using rv⟩) (fun b u z=>by have z':(none:Option HO)=some u:=z;cases z') (fun b z=>absurd rfl z) fun z=>absurd rfl z
 |none=>
  refine core (fun b=>if b=a then some (.frz {cls:=.type "list",data:=.seq vs.toArray} (.lst (ns.map V.int)))else none) (fun b=> ?_) (.inl (.inr ⟨{cls:=.type "list",data:=.seq vs.toArray},if_pos rfl⟩)) (fun b u z=> ?_) (fun b z=> ?_) fun _=>hk
  ·by_cases hb:b=a
   ·exact .inr ⟨_,_,if_pos hb⟩
   ·exact .inl (if_neg hb)
  ·by_cases hb:b=a
   ·have z':=(if_pos hb).symm.trans z
    cases z'
    subst hb
    exact⟨ha,by rw[List.length_map];exact hl,vs,_,rv,ha⟩
   ·have z':=(if_neg hb).symm.trans z
    cases z'
  ·by_cases hb:b=a
   ·exact hb
   ·exact absurd (if_neg hb) z
end L2
namespace L2
open PySem PySem.Spec PyProof.Rows
theorem walk_of {l:PySem.W.OpenLaw}{n k:Nat}{q:Program}{loose:List Str}{XP:(Str→Option Value)→Heap→Prop}{YP:World→Heap→Prop}{d:DefRec}{K:Params→PySem.W.Frag}{CX:World→CXT}{sp:World→Sp}{x:Str}
  (hn:l.most=some n) (hn2:n≤sizeLine) (hdf:d.params.defaults=[]) (hr:Room k callerA)
  (hY:∀(w:World) (h:Heap),YP w h→(K w.params).In h)
  (F:∀(w:World) (mg:Str→Option Value) (fa:Addr) (h:Heap),(K w.params).In h→h.Ns mainGlobals mg→mg d.name=some (.ref fa)→
   ∃fd:FuncData,(∀(s:Shared) (u:Value),BindsTo s fd ⟨[u],[]⟩ [(x,u)])∧
    ∀base:Heap,(K w.params).In base→base.Ns mainGlobals mg→FnOk l.prog w (K w.params) mg base (CX w) k fa fd [x] (sp w))
  (hsp:∀(w:World) (H:Hp) (a:Addr) (ns:List Int),ns.length≤n→Only H→SqL (K w.params) H a (ns.map V.int)→sp w [.ref a] H (fun v _=>v=.bl true) fun _ _ _=>False)
  (hCX:∀(w:World) (H:Hp) (s:Shared) (e:Value) (s':Shared),CX w [] H s (fun _ _ _=>False) e s'→False):
  PySem.W.WalkO q loose XP YP l.row.toRowW d [] (fun f vs=>PySem.call f vs):=by
 refine Att.a8Q' hn hdf fun w s₀ s₁ mg mb fa o pm cd doc a vs ns G Y ho hd hcd hmg hobj hints hlen hg=> ?_
 have KX:=hY w _ Y
 obtain⟨fd,hb,hF⟩:=F w mg fa _ KX G.T.g hmg
 exact b3Q' KX G.T.g G.T.b G.T.builtins G.T.nolimit hg hobj hints (Nat.le_trans hlen hn2) hr hF hb (fun H hO hS=>hsp w H a ns hlen hO hS) fun H e s'=>hCX w H s₁ e s'
end L2
namespace L2
open PySem PySem.Spec PyProof.Rows
def a3V' (s:Stmt):Arguments:=match s with
 | .FunctionDef _ a _ _ _ _ _ _ _ _=>a
 |_=>{posonlyargs:=[],args:=[],vararg:=none,kwonlyargs:=[],kw_defaults:=[],kwarg:=none,defaults:=[]}
def a0P' (s:Stmt):List Stmt:=match s with
 | .FunctionDef _ _ b _ _ _ _ _ _ _=>b
 |_=>[]
def a0k' (s:Stmt):Scope:=match s with
 | .FunctionDef _ _ _ _ _ _ sc _ _ _=>sc
 |_=>{kind:=.function,names:=[],isGenerator:=false,isCoroutine:=false}
abbrev CX0:CXT:=fun _ _ _ _ _ _=>False
abbrev E0:XK:=fun _ _ _=>False
structure Fun (K:PySem.W.Frag)(x qual:Str)(st:Stmt)(f:Addr)(fd:FuncData):Prop where
 ex:∃(oc:Value) (od:Option Addr) (kV doc pm:Value) (an:Option Addr) (cdv ct:Value) (osl:Array (Option Value)),
  fd=PySem.W.fnOf x qual (a3V' st) (a0P' st) (a0k' st) .none kV doc pm an cdv ct∧K.lookup f=some ⟨oc,od,.func fd,osl⟩∧PySem.W.codeIn K cdv qual=true
 kp:PySem.W.keepIn K (.ref f)=true
section
variable {P:Program}{w:World}{K:PySem.W.Frag}{mg:Str→Option Value}{base:Heap}
theorem Fun.ok {x qual:Str}{st:Stmt}{f:Addr}{fd:FuncData}{N ps:List Str}{k:Nat}{sp:Sp}(F:Fun K x qual st f fd)(S:FnScope N ps (a0k' st))(len:∀vs H Q E,sp vs H Q E→vs.length=ps.length)
  (hbody:∀(cdv:Value) (A:Around) (outer:List Env) (s:Shared) (H:Hp) (vs:List V) (Q:VK) (E:XK),Room k (A.deeper (envOfC qual (a0k' st) s.heap.objs.size f cdv))→sp vs H Q E→
   ∃t,PSs (cxOf CX0 P w K mg base N qual (a0k' st) f cdv A outer s H E).nox (a0P' st) t∧t {nx:=fun _ H'=>Q .non H',rt:=Q} (start N vs) H):FnOk P w K mg base CX0 (k+1) f fd ps sp:=by
 obtain⟨oc,od,kV,doc,pm,an,cdv,ct,osl,rfl,lk,hcd⟩:=F.ex
 refine fn_of lk hcd S len fun A outer s H vs Q E hr hsp=> ?_
 obtain⟨t,h,q⟩:=hbody cdv A outer s H vs Q E hr hsp
 exact⟨t,h.nox,q⟩
theorem Fun.binds {x qual:Str}{st:Stmt}{f:Addr}{fd:FuncData}{ps:List Str}(F:Fun K x qual st f fd)
  (h:∀(kV doc pm:Value) (an:Option Addr) (cdv ct:Value) (us:List Value),us.length=ps.length→bindArgs (PySem.W.fnOf x qual (a3V' st) (a0P' st) (a0k' st) .none kV doc pm an cdv ct) ⟨us,[]⟩=pure (ps.zip us)):Binds K fd ps []:=by
 obtain⟨oc,od,kV,doc,pm,an,cdv,ct,osl,rfl,lk,hcd⟩:=F.ex
 exact .all (h kV doc pm an cdv ct)
theorem fun_mk {x qual:Str}{st:Stmt}{f:Addr}{oc:Value}{od an:Option Addr}{osl:Array (Option Value)}{kV doc pm cdv ct:Value}(l:K.lookup f=some ⟨oc,od,.func (PySem.W.fnOf x qual (a3V' st) (a0P' st) (a0k' st) .none kV doc pm an cdv ct),osl⟩)
  (c:PySem.W.codeIn K cdv qual=true) (k:PySem.W.keepIn K (.ref f)=true):Fun K x qual st f (PySem.W.fnOf x qual (a3V' st) (a0P' st) (a0k' st) .none kV doc pm an cdv ct):=⟨⟨oc,od,kV,doc,pm,an,cdv,ct,osl,rfl,l,c⟩,k⟩
end
section
variable {X:Cx}
end
end L2
end
section
namespace Py
open PySem PySem.Spec PyProof.Rows L2
theorem ex43 {C:Prop}{a b c d:Sort _}{p q r:a→b→c→d→Prop}(h:∃x y z w,p x y z w∧q x y z w∧r x y z w)(k:∀x y z w,p x y z w→q x y z w→r x y z w→C):C:=by
 obtain⟨x,y,z,w,h1,h2,h3⟩:=h
 exact k x y z w h1 h2 h3
theorem ex93 {C:Prop}{a b c d e f g h i:Sort _}{p q r:a→b→c→d→e→f→g→h→i→Prop}(z:∃x1 x2 x3 x4 x5 x6 x7 x8 x9,p x1 x2 x3 x4 x5 x6 x7 x8 x9∧q x1 x2 x3 x4 x5 x6 x7 x8 x9∧r x1 x2 x3 x4 x5 x6 x7 x8 x9)(k:∀x1 x2 x3 x4 x5 x6 x7 x8 x9,p x1 x2 x3 x4 x5 x6 x7 x8 x9→q x1 x2 x3 x4 x5 x6 x7 x8 x9→r x1 x2 x3 x4 x5 x6 x7 x8 x9→C):C:=by
 obtain⟨x1,x2,x3,x4,x5,x6,x7,x8,x9,h1,h2,h3⟩:=z
 exact k x1 x2 x3 x4 x5 x6 x7 x8 x9 h1 h2 h3
theorem ex34 {C:Prop}{a b c:Sort _}{p q r t:a→b→c→Prop}(h:∃x y z,p x y z∧q x y z∧r x y z∧t x y z)(k:∀x y z,p x y z→q x y z→r x y z→t x y z→C):C:=by
 obtain⟨x,y,z,h1,h2,h3,h4⟩:=h
 exact k x y z h1 h2 h3 h4
inductive D where
 |non|bl (b:Bool)|int (i:Int)|str (x:Str)
 |tup (xs:List D)|lst (xs:List D)|ref (n:Nat)|scr (xs:List D)
 |fn (x:Str)|dct|ty (n:String)
 deriving Inhabited
abbrev Store:=List (List D)
structure GS where
 mg:Str→Option Value
 F:List Addr
def Frz (K:PySem.W.Frag)(H:Hp)(a:Addr)(vs:List V):Prop:=(∃o,H a=some (.frz o (.lst vs)))∨
 ∃(o:Obj) (its:Array Value) (n:Nat),K.lookup a=some o∧o.cls=.type "list"∧o.dict=none∧o.data=.seq its n∧its.size≤sizeLine∧Vals vs its.toList
theorem Frz.sq {K:PySem.W.Frag}{H:Hp}{a:Addr}{vs:List V}(h:Frz K H a vs):SqL K H a vs:=by
 rcases h with⟨o,h⟩|h
 ·exact .inl (.inr ⟨o,h⟩)
 ·exact .inr h
section
variable (K:PySem.W.Frag)(mg:GS)(μ:List Addr)(H:Hp)
mutual
def Rep:D→V→Prop
 | .non,v=>v=.non
 | .bl b,v=>v=.bl b
 | .int i,v=>v=.int i
 | .str x,v=>v=.str x
 | .tup ds,v=>∃a vs,v=.ref a∧SqT K H a vs∧RepL ds vs
 | .lst ds,v=>∃a vs,v=.ref a∧H a=some (.lst vs)∧(a∉μ∧a∉mg.F)∧RepL ds vs
 | .scr ds,v=>∃a vs,v=.ref a∧Frz K H a vs∧RepL ds vs
 | .ref n,v=>∃a,v=.ref a∧μ[n]? =some a
 | .fn x,v=>∃a,v=.ref a∧mg.mg x=some (.ref a)
 | .dct,v=>∃a,v=.ref a∧H a=some (.dK [])
 | .ty n,v=>v=.ty n
def RepL:List D→List V→Prop
 | [],vs=>vs=[]
 |d::ds,vs=>∃w ws,vs=w::ws∧Rep d w∧RepL ds ws
end
end
structure SOk (K:PySem.W.Frag)(mg:GS)(μ:List Addr)(S:Store)(H:Hp):Prop where
 live:∀a∈mg.F,∃o,H a=some o
 len:μ.length=S.length
 nd:μ.Nodup
 at_:∀(n:Nat) (a:Addr) (ds:List D),μ[n]? =some a→S[n]? =some ds→∃vs,H a=some (.lst vs)∧RepL K mg μ H ds vs
structure Ext (μ:List Addr)(H:Hp)(μ':List Addr)(H':Hp):Prop where
 pre:∃r,μ'=μ++r
 keep:∀a o,H a=some o→((∀xs,o≠.lst xs)∨a∉μ)→H' a=some o
 there:∀a o,H a=some o→∃o',H' a=some o'
 fresh:∀a∈μ',a∈μ∨H a=none
section
variable {K:PySem.W.Frag}{mg:GS}{μ μ' μ'':List Addr}{H H' H'':Hp}
theorem Ext.refl:Ext μ H μ H:=⟨⟨[],by simp⟩,fun _ _ h _=>h,fun _ o h=>⟨o,h⟩,fun _ h=>.inl h⟩
theorem Ext.trans (a:Ext μ H μ' H')(b:Ext μ' H' μ'' H''):Ext μ H μ'' H'':=by
 obtain⟨r,e⟩:=a.pre
 obtain⟨r',e'⟩:=b.pre
 refine⟨⟨r++r',by rw[e',e,List.append_assoc]⟩,fun x o h c=> ?_,fun x o h=> ?_,fun x h=> ?_⟩
 ·have h1:=a.keep x o h c
  refine b.keep x o h1 ?_
  rcases c with c|c
  ·exact .inl c
  ·refine .inr fun z=> ?_
   rcases a.fresh x z with z|z
   ·exact c z
   ·rw[h]at z;cases z
 ·obtain⟨o1,h1⟩:=a.there x o h
  exact b.there x o1 h1
 ·rcases b.fresh x h with h|h
  ·exact a.fresh x h
  ·refine .inr ?_
   cases e:H x with
   |none=>rfl
   |some o=>
    obtain⟨o1,h1⟩:=a.there x o e
    rw[h1]at h;cases h
theorem Ext.sqT {a:Addr}{vs:List V}(x:Ext μ H μ' H')(h:SqT K H a vs):SqT K H' a vs:=by
 rcases h with(h| ⟨o,h⟩)|h
 ·exact .inl (.inl (x.keep _ _ h (.inl fun _ z=>by cases z)))
 ·exact .inl (.inr ⟨o,x.keep _ _ h (.inl fun _ z=>by cases z)⟩)
 ·exact .inr h
theorem Ext.frz {a:Addr}{vs:List V}(x:Ext μ H μ' H')(h:Frz K H a vs):Frz K H' a vs:=by
 rcases h with⟨o,h⟩|h
 ·exact .inl ⟨o,x.keep _ _ h (.inl fun _ z=>by cases z)⟩
 ·exact .inr h
theorem Ext.lst {a:Addr}{vs:List V}(x:Ext μ H μ' H')(h:H a=some (.lst vs))(ha:a∉μ):H' a=some (.lst vs)∧a∉μ':=by
 refine⟨x.keep _ _ h (.inr ha),fun z=> ?_⟩
 rcases x.fresh a z with z|z
 ·exact ha z
 ·rw[h]at z;cases z
theorem Ext.get {n:Nat}{a:Addr}(x:Ext μ H μ' H')(h:μ[n]? =some a):μ'[n]? =some a:=by
 obtain⟨r,rfl⟩:=x.pre
 rw[List.getElem?_append_left (List.getElem?_eq_some_iff.mp h).1]
 exact h
mutual
theorem Rep.mono (x:Ext μ H μ' H'):∀(d:D) (v:V),Rep K mg μ H d v→Rep K mg μ' H' d v
 | .non,_,h=>h
 | .bl _,_,h=>h
 | .int _,_,h=>h
 | .str _,_,h=>h
 | .tup ds,v,h=>by
  unfold Rep at h⊢
  obtain⟨a,vs,e,q,r⟩:=h
  exact⟨a,vs,e,x.sqT q,RepL.mono x ds vs r⟩
 | .lst ds,v,h=>by
  unfold Rep at h⊢
  obtain⟨a,vs,e,q,n,r⟩:=h
  exact⟨a,vs,e,(x.lst q n.1).1,⟨(x.lst q n.1).2,n.2⟩,RepL.mono x ds vs r⟩
 | .scr ds,v,h=>by
  unfold Rep at h⊢
  obtain⟨a,vs,e,q,r⟩:=h
  exact⟨a,vs,e,x.frz q,RepL.mono x ds vs r⟩
 | .ref n,v,h=>by
  unfold Rep at h⊢
  obtain⟨a,e,q⟩:=h
  exact⟨a,e,x.get q⟩
 | .fn y,v,h=>h
 | .ty y,v,h=>h
 | .dct,v,h=>by
  unfold Rep at h⊢
  obtain⟨a,e,q⟩:=h
  exact⟨a,e,x.keep _ _ q (.inl fun _ z=>by cases z)⟩
theorem RepL.mono (x:Ext μ H μ' H'):∀(ds:List D) (vs:List V),RepL K mg μ H ds vs→RepL K mg μ' H' ds vs
 | [],vs,h=>h
 |d::ds,vs,h=>by
  unfold RepL at h⊢
  obtain⟨w,ws,e,r,q⟩:=h
  exact⟨w,ws,e,Rep.mono x d w r,RepL.mono x ds ws q⟩
end
theorem RepL.length:∀{ds:List D} {vs:List V},RepL K mg μ H ds vs→ds.length=vs.length
 | [],vs,h=>by unfold RepL at h;subst h;rfl
 |d::ds,vs,h=>by
  unfold RepL at h
  obtain⟨w,ws,rfl,r,q⟩:=h
  simp[RepL.length q]
theorem RepL.get:∀{ds:List D} {vs:List V} {i:Nat} {d:D},RepL K mg μ H ds vs→ds[i]? =some d→∃v,vs[i]? =some v∧Rep K mg μ H d v
 | [],vs,i,d,h,e=>by simp at e
 |c::ds,vs,i,d,h,e=>by
  unfold RepL at h
  obtain⟨w,ws,rfl,r,q⟩:=h
  cases i with
  |zero=>simp at e;subst e;exact⟨w,rfl,r⟩
  |succ i=>simpa using RepL.get q (by simpa using e)
theorem RepL.of:∀{ds:List D} {vs:List V},ds.length=vs.length→(∀(i:Nat) d v,ds[i]? =some d→vs[i]? =some v→Rep K mg μ H d v)→RepL K mg μ H ds vs
 | [],[],_,_=>by unfold RepL;rfl
 | [],_::_,h,_=>by simp at h
 |_::_,[],h,_=>by simp at h
 |d::ds,v::vs,h,k=>by
  unfold RepL
  exact⟨v,vs,rfl,k 0 d v rfl rfl,RepL.of (by simpa using h) fun i d' v' h1 h2=>k (i+1) d' v' (by simpa using h1) (by simpa using h2)⟩
theorem RepL.nil:RepL K mg μ H [] []:=by unfold RepL;rfl
theorem RepL.cons {d:D}{v:V}{ds:List D}{vs:List V}(h:Rep K mg μ H d v)(t:RepL K mg μ H ds vs):RepL K mg μ H (d::ds) (v::vs):=by
 unfold RepL;exact⟨v,vs,rfl,h,t⟩
theorem RepL.uncons {d:D}{ds:List D}{vs:List V}(h:RepL K mg μ H (d::ds) vs):∃v ws,vs=v::ws∧Rep K mg μ H d v∧RepL K mg μ H ds ws:=by
 unfold RepL at h;exact h
theorem RepL.append:∀{ds es:List D} {vs ws:List V},RepL K mg μ H ds vs→RepL K mg μ H es ws→RepL K mg μ H (ds++es) (vs++ws)
 | [],es,vs,ws,h,k=>by unfold RepL at h;subst h;exact k
 |d::ds,es,vs,ws,h,k=>by
  obtain⟨v,us,rfl,r,q⟩:=h.uncons
  exact .cons r (RepL.append q k)
theorem RepL.take:∀{ds:List D} {vs:List V} (n:Nat),RepL K mg μ H ds vs→RepL K mg μ H (ds.take n) (vs.take n)
 | [],vs,n,h=>by unfold RepL at h;subst h;simpa using RepL.nil
 |d::ds,vs,0,h=>by simpa using RepL.nil
 |d::ds,vs,n+1,h=>by
  obtain⟨v,us,rfl,r,q⟩:=h.uncons
  exact .cons r (RepL.take n q)
theorem RepL.drop:∀{ds:List D} {vs:List V} (n:Nat),RepL K mg μ H ds vs→RepL K mg μ H (ds.drop n) (vs.drop n)
 | [],vs,n,h=>by unfold RepL at h;subst h;simpa using RepL.nil
 |d::ds,vs,0,h=>h
 |d::ds,vs,n+1,h=>by
  obtain⟨v,us,rfl,r,q⟩:=h.uncons
  exact RepL.drop n q
theorem RepL.set:∀{ds:List D} {vs:List V} (i:Nat) {d:D} {v:V},RepL K mg μ H ds vs→Rep K mg μ H d v→RepL K mg μ H (ds.set i d) (vs.set i v)
 | [],vs,i,_,_,h,_=>by unfold RepL at h;subst h;simpa using RepL.nil
 |d::ds,vs,0,_,_,h,k=>by
  obtain⟨v,us,rfl,r,q⟩:=h.uncons
  exact .cons k q
 |d::ds,vs,i+1,_,_,h,k=>by
  obtain⟨v,us,rfl,r,q⟩:=h.uncons
  exact .cons r (RepL.set i q k)
theorem Ext.laid {p:Addr}{o:HO}(hp:H p=none):Ext μ H μ (upd H p o):=
 ⟨⟨[],by simp⟩,fun a u h _=>by rw[a0t' (a0i' h hp)];exact h,fun a u h=>⟨u,by rw[a0t' (a0i' h hp)];exact h⟩,fun _ h=>.inl h⟩
theorem SOk.notin {S:Store}{p:Addr}(s:SOk K mg μ S H)(hp:H p=none):p∉μ:=fun z=>by
 obtain⟨n,hn,e⟩:=List.mem_iff_getElem.mp z
 have e1:μ[n]? =some p:=by rw[List.getElem?_eq_getElem hn,e]
 have e2:S[n]? =some (S[n]'(by rw[←s.len];exact hn)):=List.getElem?_eq_getElem _
 obtain⟨vs,h,_⟩:=s.at_ n p _ e1 e2
 rw[hp]at h;cases h
theorem SOk.notF {S:Store}{p:Addr}(s:SOk K mg μ S H)(hp:H p=none):p∉mg.F:=fun z=>by
 obtain⟨o,h⟩:=s.live p z
 rw[hp]at h;cases h
theorem SOk.laid {S:Store}{p:Addr}{o:HO}(s:SOk K mg μ S H)(hp:H p=none):SOk K mg μ S (upd H p o):=by
 refine⟨fun a h=>(Ext.laid (μ:=μ) hp).there a _ (s.live a h).choose_spec,s.len,s.nd,fun n a ds h1 h2=> ?_⟩
 obtain⟨vs,h,r⟩:=s.at_ n a ds h1 h2
 exact⟨vs,by rw[a0t' (a0i' h hp)];exact h,RepL.mono (Ext.laid hp) _ _ r⟩
theorem Ext.boxed {p:Addr}{o:HO}(hp:H p=none):Ext μ H (μ++[p]) (upd H p o):=
 ⟨⟨[p],rfl⟩,fun a u h _=>by rw[a0t' (a0i' h hp)];exact h,fun a u h=>⟨u,by rw[a0t' (a0i' h hp)];exact h⟩,fun a h=>by
  rcases List.mem_append.mp h with h|h
  ·exact .inl h
  ·have:a=p:=by simpa using h
   subst this;exact .inr hp⟩
theorem SOk.boxed {S:Store}{p:Addr}{ds:List D}{vs:List V}(s:SOk K mg μ S H)(hp:H p=none)(r:RepL K mg μ H ds vs):
  SOk K mg (μ++[p]) (S++[ds]) (upd H p (.lst vs)):=by
 have np:=s.notin hp
 refine⟨fun a h=>(Ext.laid (μ:=μ) hp).there a _ (s.live a h).choose_spec,by simp[s.len],?_,fun n a es h1 h2=> ?_⟩
 ·rw[List.nodup_append]
  exact⟨s.nd,by simp,fun a ha b hb=>by
   have:b=p:=by simpa using hb
   subst this;intro z;subst z;exact np ha⟩
 ·by_cases hn:n<μ.length
  ·rw[List.getElem?_append_left hn]at h1
   rw[List.getElem?_append_left (by rw[←s.len];exact hn)]at h2
   obtain⟨ws,h,q⟩:=s.at_ n a es h1 h2
   exact⟨ws,by rw[a0t' (a0i' h hp)];exact h,RepL.mono (Ext.boxed hp) _ _ q⟩
  ·have hl:=s.len
   have e1:n=μ.length:=by
    have:=(List.getElem?_eq_some_iff.mp h1).1
    simp at this;omega
   subst e1
   rw[List.getElem?_append_right (Nat.le_refl _)]at h1
   rw[List.getElem?_append_right (by omega)]at h2
   simp[hl]at h1 h2
   subst h1;subst h2
   exact⟨vs,a0I',RepL.mono (Ext.boxed hp) _ _ r⟩
theorem Ext.wrote {a:Addr}{xs:List V}{ys:List V}(ha:a∈μ)(h:H a=some (.lst xs)):Ext μ H μ (upd H a (.lst ys)):=by
 refine⟨⟨[],by simp⟩,fun b o e c=> ?_,fun b o e=> ?_,fun _ h=>.inl h⟩
 ·have:b≠a:=by
   rintro rfl
   rw[h]at e;cases e
   rcases c with c|c
   ·exact c _ rfl
   ·exact c ha
  rw[a0t' this];exact e
 ·by_cases z:b=a
  ·subst z;exact⟨_,a0I'⟩
  ·exact⟨o,by rw[a0t' z];exact e⟩
theorem SOk.wrote {S:Store}{n:Nat}{a:Addr}{ds:List D}{xs vs:List V}(s:SOk K mg μ S H)(hn:μ[n]? =some a)(h:H a=some (.lst xs))(r:RepL K mg μ H ds vs):
  SOk K mg μ (S.set n ds) (upd H a (.lst vs)):=by
 have ha:a∈μ:=List.mem_of_getElem? hn
 have hl:=s.len
 have hnl:n<S.length:=by have:=(List.getElem?_eq_some_iff.mp hn).1;omega
 refine⟨fun b hb=>(Ext.wrote (μ:=μ) (ys:=vs) ha h).there b _ (s.live b hb).choose_spec,by simp[hl],s.nd,fun m b es h1 h2=> ?_⟩
 by_cases e:m=n
 ·subst e
  rw[hn]at h1;cases h1
  rw[List.getElem?_set_self hnl]at h2;cases h2
  exact⟨vs,a0I',RepL.mono (Ext.wrote ha h) _ _ r⟩
 ·rw[List.getElem?_set_ne (Ne.symm e)]at h2
  obtain⟨ws,q,r'⟩:=s.at_ m b es h1 h2
  have:b≠a:=by
   rintro rfl
   exact e (L2_nodup s.nd h1 hn)
  exact⟨ws,by rw[a0t' this];exact q,RepL.mono (Ext.wrote ha h) _ _ r'⟩
where
 L2_nodup {l:List Addr} (nd:l.Nodup) {i j:Nat} {x:Addr} (a:l[i]? =some x) (b:l[j]? =some x):i=j:=by
    obtain⟨h1,e1⟩:=List.getElem?_eq_some_iff.mp a
    obtain⟨h2,e2⟩:=List.getElem?_eq_some_iff.mp b
    exact(List.getElem_inj nd).mp (e1.trans e2.symm)
end
end Py
end
section
namespace Py
open PySem PySem.Spec PyProof.Rows L2
open PySem.Sem (wp)
open PySem.Builtin
theorem a3W':fillsNumberSlot (.type "tuple") "mul"=pure false:=
 PySem.fillsNumberSlot_seq (id:="tuple.__mul__") (r:=some (.builtin "tuple.__rmul__")) F.slot_tuple_mul.lookup (by decide+kernel) F.slot_tuple_rmul.lookup (by decide+kernel)
theorem a7s':seqRepeat? (.type "tuple")=pure (some (.builtin "tuple.__mul__")):=by
 unfold seqRepeat?
 rw[PySem.seqSlot_of (T:="tuple") (name:="__mul__") (id:="tuple.__mul__") F.slot_tuple_mul.lookup (by decide+kernel),PySem.seqSlot_of (T:="tuple") (name:="__rmul__") (id:="tuple.__rmul__") F.slot_tuple_rmul.lookup (by decide+kernel)]
 rfl
theorem a5E' (a:Int)(t:Tok)(l:Addr)(items:Array Value)(n:Nat)(d:Option Addr)(sl:Array (Option Value)):
  Meets (Builtin.«int.__rmul__» ⟨[.int a t,.ref l],[]⟩) (fun _ R s=>s.heap.get? l=some {cls:=.type "tuple",dict:=d,data:=.seq items n,slots:=sl}∧R (.ok (.ret Value.notImplemented)) s):=
 .of_wp fun prog w A R s h=>by obtain⟨hp,g,d,tk,os⟩:=s;obtain⟨hl,h⟩:=h;wp_walk;exact⟨_,rfl,h⟩
theorem a5F' (l:Addr)(items:Array Value)(n:Nat)(d:Option Addr)(sl:Array (Option Value))(x:Int)(u:Tok)(h0:¬(decide (x< -(2^63))||decide (x≥2^63))=true)(h1:(items.isEmpty||x==1)=true):
  Meets (Builtin.«tuple.__mul__» ⟨[.ref l,.int x u],[]⟩) (fun _ R s=>s.heap.get? l=some {cls:=.type "tuple",dict:=d,data:=.seq items n,slots:=sl}∧R (.ok (.ret (Value.ref l))) s):=
 .of_wp fun prog w A R s h=>by
  obtain⟨hp,g,d,tk,os⟩:=s;obtain⟨hl,h⟩:=h
  have f2:=AutoSeq1.sub_tuple_tuple
  have h0':=decide_eq_false h0
  wp_walk
  refine wpAny_ite_false h0' ?_
  wp_walk using wpAny_loadPart' hl
  exact⟨_,rfl,h⟩
theorem a6n' (l:Addr)(items:Array Value)(n:Nat)(d:Option Addr)(sl:Array (Option Value))(x:Int)(u:Tok)(h0:¬(decide (x< -(2^63))||decide (x≥2^63))=true)(h1:¬(items.isEmpty||x==1)=true)(h2:¬(decide (x≤0)||items.isEmpty)=true)
  (h3:¬((items.size:Int)*x>(2^63-1)/8)) (h4:¬Builtin.Tuple.tupleTooMany (items.size*x)=true) (h5:(List.foldl (· ++ ·) #[] (List.replicate x.toNat items)).size≤sizeLine):
  Meets (Builtin.«tuple.__mul__» ⟨[.ref l,.int x u],[]⟩) (fun _ R s=>s.heap.get? l=some {cls:=.type "tuple",dict:=d,data:=.seq items n,slots:=sl}∧R (.ok (.ret (Value.ref s.heap.objs.size))) {s with heap:=s.heap.push {cls:=Value.type "tuple",data:=Data.seq (List.foldl (· ++ ·) #[] (List.replicate x.toNat items))}}):=
 .of_wp fun prog w A R s h=>by
  obtain⟨hp,g,d,tk,os⟩:=s;obtain⟨hl,h⟩:=h
  have f2:=AutoSeq1.sub_tuple_tuple
  have h0':=decide_eq_false h0
  wp_walk
  refine wpAny_ite_false h0' ?_
  wp_walk using wpAny_loadPart' hl
  refine wpAny_ite_false (decide_eq_false h3) ?_
  wp_walk
  exact⟨_,rfl,h⟩
theorem a5G' (l:Addr)(items:Array Value)(n:Nat)(d:Option Addr)(sl:Array (Option Value))(u:Tok)(h1:¬(items.isEmpty||(0:Int)==1)=true):
  Meets (Builtin.«tuple.__mul__» ⟨[.ref l,.int 0 u],[]⟩) (fun _ R s=>s.heap.get? l=some {cls:=.type "tuple",dict:=d,data:=.seq items n,slots:=sl}∧R (.ok (.ret (Value.ref s.heap.objs.size))) {s with heap:=s.heap.push {cls:=Value.type "tuple",data:=Data.seq #[]}}):=
 .of_wp fun prog w A R s h=>by
  obtain⟨hp,g,d,tk,os⟩:=s;obtain⟨hl,h⟩:=h
  have f2:=AutoSeq1.sub_tuple_tuple
  wp_walk
  wp_walk using wpAny_loadPart' hl
  refine wpAny_ite_false (decide_eq_false h1) ?_
  wp_walk
  exact⟨_,rfl,h⟩
section
variable {X:Cx}
theorem op_repT:OpR X (binaryOp .Mult) (fun x y H Q=>∃l k xs,x=.ref l∧y=.int k∧SqT X.K H l xs∧0≤k∧k<1000∧xs.length*k.toNat≤sizeLine∧
  ((xs=[]∨k=1)→Q (.ref l) H)∧∀p,H p=none→Q (.ref p) (upd H p (.tup (List.replicate k.toNat xs).flatten))):=by
 intro pins s σ H x y v u Q I rx ry h
 obtain⟨l,k,xs,rfl,rfl,hH,h1,h2,hz,q1,q2⟩:=h
 cases rx
 obtain⟨t,rfl⟩:=ry
 obtain⟨its,r,p,_⟩:=I.tuple hH
 obtain⟨⟨cls,dd,data,sl⟩,ho,hc,n,hd⟩:=id p
 simp only at hc hd
 subst hc hd
 have hl:=r.length
 have b0:¬(decide (k< -(2^63))||decide (k≥2^63))=true:=by simp;omega
 refine wpAny_binaryOp_repeat_ref (T:="tuple") (U:="int") (by decide) ⟨_,ho,rfl⟩ (fun s'=>typeIs_int s' k t) a3W' F.fills_int_mul F.slot_int_rmul a7s' F.slot_int_index.lookup
  (call_meets F.slot_int_rmul (typeIs_int s k t) F.entry_int_rmul (F.args_int_rmul_2 _ _) (a5E' k t l its.toArray n dd sl) ⟨ho,rfl,⟨_,ho,rfl⟩,?_⟩)
 by_cases hs:(its.toArray.isEmpty||k==1)=true
 ·refine call_meets F.slot_tuple_mul ⟨_,ho,rfl⟩ F.entry_tuple_mul (F.args_tuple_mul_2 _ _) (a5F' l its.toArray n dd sl k t b0 hs) ⟨ho,⟨.ref l,H,I,rfl,q1 ?_⟩⟩
  simp at hs
  rcases hs with z|z
  ·exact .inl (by subst z;exact List.eq_nil_of_length_eq_zero hl)
  ·exact .inr z
 ·by_cases hk0:k=0
  ·subst hk0
   refine call_meets F.slot_tuple_mul ⟨_,ho,rfl⟩ F.entry_tuple_mul (F.args_tuple_mul_2 _ _) (a5G' l its.toArray n dd sl t hs) ⟨ho,?_⟩
   refine⟨.ref s.heap.objs.size,_,I.laid (t':=s.toks) (o:=.tup []) (fun b ob q=>Heap.get?_push_of_some _ q) (Nat.le_refl _) ?_,rfl,q2 _ (I.hok.fresh (Nat.le_refl _))⟩
   exact⟨Nat.zero_le _,[],.nil,IsTup.new _ _⟩
  have h1:1≤k:=by omega
  have hne:its.toArray.isEmpty=false:=by cases e:its.toArray.isEmpty<;>simp[e]at hs⊢
  have hk:(its.toArray.size:Int)*k=((its.toArray.size*k.toNat:Nat):Int):=by rw[Int.natCast_mul,Int.toNat_of_nonneg (by omega)]
  have hlen:its.toArray.size*k.toNat≤sizeLine:=by rw[List.size_toArray,←hl];exact hz
  have hsl:sizeLine=16777216:=sizeLine_eq
  have hnew:List.foldl (fun x1 x2=>x1++x2) #[] (List.replicate k.toNat its.toArray)=(List.replicate k.toNat its).flatten.toArray:=by
   have:=a5D' its k.toNat []
   rw[List.nil_append]at this
   exact this
  refine call_meets F.slot_tuple_mul ⟨_,ho,rfl⟩ F.entry_tuple_mul (F.args_tuple_mul_2 _ _) (a6n' l its.toArray n dd sl k t b0 hs (by rw[hne];simp;omega) ?_ ?_ ?_) ⟨ho,?_⟩
  ·rw[hk];omega
  ·unfold Builtin.Tuple.tupleTooMany
   rw[hk]
   simp only[gt_iff_lt,decide_eq_true_eq]
   omega
  ·rw[hnew,List.size_toArray,a9O',←hl,Nat.mul_comm];exact hz
  ·rw[hnew]
   refine⟨.ref s.heap.objs.size,_,I.laid (t':=s.toks) (o:=.tup (List.replicate k.toNat xs).flatten) (fun b ob q=>Heap.get?_push_of_some _ q) (Nat.le_refl _) ?_,rfl,q2 _ (I.hok.fresh (Nat.le_refl _))⟩
   exact⟨by rw[a9O',Nat.mul_comm];exact hz,_,r.rep k.toNat,IsTup.new _ _⟩
end
end Py
end
section
namespace Py
open PySem PySem.Spec PyProof.Rows L2
structure Exc where
 cls:Str
 fs:List D
inductive Res (α:Type) where
 |ok (a:α) (S:Store)
 |err (x:Exc) (S:Store)
 |fail
abbrev big:Nat:=16777216
theorem a8R':sizeLine=big:=sizeLine_eq
def Want (K:PySem.W.Frag)(mg:GS)(μ:List Addr)(H:Hp)(Q:VK):Res D→Prop
 | .ok d S'=>∀μ' H' v,Ext μ H μ' H'→SOk K mg μ' S' H'→Rep K mg μ' H' d v→Q v H'
 |_=>False
section
variable {K:PySem.W.Frag}{mg:GS}{μ μ':List Addr}{H H':Hp}{Q:VK}{S:Store}
theorem Want.now {d:D}{v:V}(w:Want K mg μ H Q (.ok d S))(s:SOk K mg μ S H)(r:Rep K mg μ H d v):Q v H:=w μ H v .refl s r
theorem Want.tup {ds:List D}{vs:List V}(w:Want K mg μ H Q (.ok (.tup ds) S))(s:SOk K mg μ S H)(r:RepL K mg μ H ds vs)(p:Addr)(hp:H p=none):Q (.ref p) (upd H p (.tup vs)):=
 w μ _ _ (.laid hp) (s.laid hp) (by unfold Rep;exact⟨p,vs,rfl,SqT.of a0I',RepL.mono (.laid hp) _ _ r⟩)
theorem Want.lst {ds:List D}{vs:List V}(w:Want K mg μ H Q (.ok (.lst ds) S))(s:SOk K mg μ S H)(r:RepL K mg μ H ds vs)(p:Addr)(hp:H p=none):Q (.ref p) (upd H p (.lst vs)):=
 w μ _ _ (.laid hp) (s.laid hp) (by unfold Rep;exact⟨p,vs,rfl,a0I',⟨s.notin hp,s.notF hp⟩,RepL.mono (.laid hp) _ _ r⟩)
theorem Want.box {ds:List D}{vs:List V}(w:Want K mg μ H Q (.ok (.ref S.length) (S++[ds])))(s:SOk K mg μ S H)(r:RepL K mg μ H ds vs)(p:Addr)(hp:H p=none):Q (.ref p) (upd H p (.lst vs)):=
 w (μ++[p]) _ _ (.boxed hp) (s.boxed hp r) (by unfold Rep;exact⟨p,rfl,by rw[List.getElem?_append_right (by rw[s.len];exact Nat.le_refl _),s.len];simp⟩)
theorem Want.wrote {n:Nat}{a:Addr}{d:D}{v:V}{ds:List D}{xs vs:List V}(w:Want K mg μ H Q (.ok d (S.set n ds)))(s:SOk K mg μ S H)(hn:μ[n]? =some a)(h:H a=some (.lst xs))(r:RepL K mg μ H ds vs)
  (rd:Rep K mg μ H d v):Q v (upd H a (.lst vs)):=
 w μ _ _ (.wrote (List.mem_of_getElem? hn) h) (s.wrote hn h r) (Rep.mono (.wrote (List.mem_of_getElem? hn) h) _ _ rd)
def a3X' (S:Store):D→Option (List D)
 | .lst xs=>some xs
 | .ref n=>S[n]?
 |_=>none
def seqOf (S:Store):D→Option (List D)
 | .lst xs=>some xs
 | .ref n=>S[n]?
 | .tup xs=>some xs
 | .scr xs=>some xs
 |_=>none
theorem a0M' {d:D}{v:V}{xs:List D}(s:SOk K mg μ S H)(r:Rep K mg μ H d v)(e:a3X' S d=some xs):∃a vs,v=.ref a∧H a=some (.lst vs)∧RepL K mg μ H xs vs:=by
 cases d with
 |lst ys=>
  unfold a3X' at e;cases e
  unfold Rep at r
  obtain⟨a,vs,e,h,_,q⟩:=r
  exact⟨a,vs,e,h,q⟩
 |ref n=>
  unfold a3X' at e
  unfold Rep at r
  obtain⟨a,e1,h⟩:=r
  obtain⟨vs,h1,q⟩:=s.at_ n a xs h e
  exact⟨a,vs,e1,h1,q⟩
 |_=>cases e
theorem a3Y' {d:D}{v:V}{xs:List D}(s:SOk K mg μ S H)(r:Rep K mg μ H d v)(e:seqOf S d=some xs):∃a vs,v=.ref a∧(SqL K H a vs∨SqT K H a vs)∧RepL K mg μ H xs vs:=by
 cases d with
 |lst ys=>
  obtain⟨a,vs,e1,h,q⟩:=a0M' s r (show a3X' S (.lst ys)=some xs from e)
  exact⟨a,vs,e1,.inl (.of h),q⟩
 |ref n=>
  obtain⟨a,vs,e1,h,q⟩:=a0M' s r (show a3X' S (.ref n)=some xs from e)
  exact⟨a,vs,e1,.inl (.of h),q⟩
 |tup ys=>
  unfold seqOf at e;cases e
  unfold Rep at r
  obtain⟨a,vs,e,h,q⟩:=r
  exact⟨a,vs,e,.inr h,q⟩
 |scr ys=>
  unfold seqOf at e;cases e
  unfold Rep at r
  obtain⟨a,vs,e,h,q⟩:=r
  exact⟨a,vs,e,.inl h.sq,q⟩
 |_=>cases e
theorem a0c' {i:Int}{v:V}(r:Rep K mg μ H (.int i) v):v=.int i:=by unfold Rep at r;exact r
theorem a6o' {i:Bool}{v:V}(r:Rep K mg μ H (.bl i) v):v=.bl i:=by unfold Rep at r;exact r
theorem a3r' {i:Str}{v:V}(r:Rep K mg μ H (.str i) v):v=.str i:=by unfold Rep at r;exact r
theorem a3Z' {v:V}(r:Rep K mg μ H .non v):v=.non:=by unfold Rep at r;exact r
theorem a0s' {ds:List D}{v:V}(r:Rep K mg μ H (.tup ds) v):∃a vs,v=.ref a∧SqT K H a vs∧RepL K mg μ H ds vs:=by unfold Rep at r;exact r
theorem a0T' {i:Int}:Rep K mg μ H (.int i) (.int i):=by unfold Rep;rfl
theorem repBl {i:Bool}:Rep K mg μ H (.bl i) (.bl i):=by unfold Rep;rfl
theorem repStr {i:Str}:Rep K mg μ H (.str i) (.str i):=by unfold Rep;rfl
theorem b1G':Rep K mg μ H .non .non:=by unfold Rep;rfl
end
def rD (K:PySem.W.Frag)(mg:Str→Option Value)(g:D→D→Store→Res D):R2:=fun x y H Q=>∃F μ S d e,SOk K ⟨mg,F⟩ μ S H∧Rep K ⟨mg,F⟩ μ H d x∧Rep K ⟨mg,F⟩ μ H e y∧Want K ⟨mg,F⟩ μ H Q (g d e S)
def addD (d e:D)(S:Store):Res D:=match d,e with
 | .int i,.int j=>.ok (.int (i+j)) S
 | .str x,.str y=>if x.length+y.length≤big then .ok (.str (x++y)) S else .fail
 | .tup a,.tup b=>if a.length+b.length≤big then .ok (.tup (a++b)) S else .fail
 |d,e=>match a3X' S d,a3X' S e with
  |some a,some b=>if a.length+b.length≤big then .ok (.lst (a++b)) S else .fail
  |_,_=>.fail
def subD (d e:D)(S:Store):Res D:=match d,e with
 | .int i,.int j=>.ok (.int (i-j)) S
 |_,_=>.fail
def mulD (d e:D)(S:Store):Res D:=match d,e with
 | .int i,.int j=>if(-(2^64)<i∧i<2^64)∨(-(2^64)<j∧j<2^64)then .ok (.int (i*j)) S else if Builtin.Int.intBits i≤100000∧Builtin.Int.intBits j≤100000 then .ok (.int (i*j)) S else .fail
 | .tup a,.int k=>if 0≤k∧k<1000∧a.length*k.toNat≤big then .ok (.tup (List.replicate k.toNat a).flatten) S else .fail
 | .lst a,.int k=>if-(2^63)≤k∧k<2^63∧a.length*k.toNat≤big then .ok (.lst (List.replicate k.toNat a).flatten) S else .fail
 |_,_=>.fail
def fdivD (d e:D)(S:Store):Res D:=match d,e with
 | .int i,.int j=>if 0<j∧j<1073741824 then .ok (.int (i/j)) S else .fail
 |_,_=>.fail
def modD (d e:D)(S:Store):Res D:=match d,e with
 | .int i,.int j=>if 0<j then .ok (.int (i%j)) S else .fail
 |_,_=>.fail
def powD (d e:D)(S:Store):Res D:=match d,e with
 | .int i,.int j=>if 0≤j∧j≤1000000∧i.natAbs<2^64 then .ok (.int (i^j.toNat)) S else .fail
 |_,_=>.fail
def shrD (d e:D)(S:Store):Res D:=match d,e with
 | .int i,.int j=>if 0≤j then .ok (.int (i/2^j.toNat)) S else .fail
 |_,_=>.fail
def shlD (d e:D)(S:Store):Res D:=match d,e with
 | .int i,.int j=>if i=1∧0≤j∧j<1000 then .ok (.int (2^j.toNat)) S else .fail
 |_,_=>.fail
def andD (d e:D)(S:Store):Res D:=match d,e with
 | .int i,.int j=>.ok (.int (Builtin.bitAnd i j)) S
 |_,_=>.fail
def orD (d e:D)(S:Store):Res D:=match d,e with
 | .int i,.int j=>.ok (.int (Builtin.bitOr i j)) S
 |_,_=>.fail
def opD:Operator→D→D→Store→Res D
 | .Add=>addD| .Sub=>subD| .Mult=>mulD| .FloorDiv=>fdivD| .Mod=>modD| .Pow=>powD| .RShift=>shrD| .LShift=>shlD| .BitAnd=>andD| .BitOr=>orD
 |_=>fun _ _ _=>.fail
section
variable {X:Cx}
theorem b3R' {prog:Program}{w:World}{A:Around}{E:Value→Shared→Prop}{s:Shared}{t b:Addr}{ws:List Value}{Q:Value→Shared→Prop}(ht:IsTup s.heap t #[])(hb:IsTup s.heap b ws.toArray)
  (h1:Q (.ref b) s):wpAny (model prog w) A (binaryOp .Add (.ref t) (.ref b)) Q E s:=by
 obtain⟨⟨cls,dd,data,sl⟩,ho,hc,n,hd⟩:=id ht
 obtain⟨⟨cls2,dd2,data2,sl2⟩,ho2,hc2,n2,hd2⟩:=id hb
 simp only at hc hd hc2 hd2
 subst hc hd hc2 hd2
 exact concat_meets ⟨_,ho,rfl⟩ ⟨_,ho2,rfl⟩ noFill_tuple_add seq_tuple_add PySem.F.slot_tuple_add PySem.F.entry_tuple_add (PySem.F.args_tuple_add_2 _ _)
   (tuple_addW0 t b #[] ws.toArray n n2 dd dd2 sl sl2 rfl) ⟨ho,ho2,h1⟩
theorem b3S':OpR X (binaryOp .Add) (fun x y H Q=>∃a b ys,x=.ref a∧y=.ref b∧SqT X.K H a []∧SqT X.K H b ys∧Q (.ref b) H):=by
 intro pins s σ H x y v u Q I rx ry h
 obtain⟨a,b,ys,rfl,rfl,ha,hb,q⟩:=h
 cases rx
 cases ry
 obtain⟨its,r,pa,_⟩:=I.tuple ha
 obtain⟨its2,r2,pb,_⟩:=I.tuple hb
 have e:=r.zero
 subst e
 exact b3R' pa pb ⟨.ref b,H,I,rfl,q⟩
theorem op_shl1:OpR X (binaryOp .LShift) (rI (fun i j=>i=1∧0≤j∧j<1000) fun _ j=>.int (2^j.toNat)):=opI fun i j _ _ _ _ _ hc q=>by
 obtain⟨rfl,h1,h2⟩:=hc
 refine lshift_int h1 ?_ (by rw[Int.one_mul];exact q)
 have:Builtin.Int.intBits 1=1:=by decide+kernel
 rw[this]
 omega
theorem op_mulG:OpR X (binaryOp .Mult) (rI (fun i j=>Builtin.Int.intBits i≤100000∧Builtin.Int.intBits j≤100000) fun i j=>.int (i*j)):=opI fun _ _ _ _ _ _ _ hc q=>PyProof.Rows.mul_int q (PySem.IntMulOk.of_le hc.1 hc.2 (by decide))
theorem op_D (op:Operator):OpR X (binaryOp op) (rD X.K X.mg (opD op)):=by
 intro pins s σ H x y v u Q I rx ry h
 obtain⟨F,μ,S,d,e,sk,rd,re,w⟩:=h
 have hb:=a8R'
 cases op with
 |Add=>
  replace w:Want X.K ⟨X.mg,F⟩ μ H Q (addD d e S):=w
  unfold addD at w
  split at w
  ·have:=a0c' rd;have:=a0c' re;subst x y
   exact op_add pins s σ H _ _ v u Q I rx ry ⟨_,_,rfl,rfl,w.now sk a0T'⟩
  ·have:=a3r' rd;have:=a3r' re;subst x y
   split at w
   ·exact a9F' pins s σ H _ _ v u Q I rx ry ⟨_,_,rfl,rfl,by omega,w.now sk repStr⟩
   ·exact w.elim
  ·split at w
   ·obtain⟨a,vs,rfl,ha,qa⟩:=a0s' rd
    obtain⟨b,ws,rfl,hb',qb⟩:=a0s' re
    have l1:=qa.length
    have l2:=qb.length
    cases vs with
    |nil=>
     refine b3S' pins s σ H _ _ v u Q I rx ry ⟨a,b,ws,rfl,rfl,ha,hb',?_⟩
     rename_i as bs _
     have:as=[]:=List.eq_nil_of_length_eq_zero (by simpa using l1)
     subst this
     exact w.now sk re
    |cons v0 vs=>
     refine op_catT pins s σ H _ _ v u Q I rx ry ⟨a,b,v0::vs,ws,rfl,rfl,ha,hb',by simp,by omega,?_,?_⟩
     ·intro hw
      subst hw
      rename_i as bs _
      have:bs=[]:=List.eq_nil_of_length_eq_zero (by simpa using l2)
      subst this
      rw[List.append_nil]at w
      exact w.now sk rd
     ·intro _ p hp
      exact w.tup sk (qa.append qb) p hp
   ·exact w.elim
  ·split at w
   ·rename_i as bs e1 e2
    split at w
    ·obtain⟨a,vs,rfl,ha,qa⟩:=a0M' sk rd e1
     obtain⟨b,ws,rfl,hb',qb⟩:=a0M' sk re e2
     have l1:=qa.length
     have l2:=qb.length
     exact op_cat pins s σ H _ _ v u Q I rx ry ⟨a,b,vs,ws,rfl,rfl,ha,hb',by omega,fun p hp=>w.lst sk (qa.append qb) p hp⟩
    ·exact w.elim
   ·exact w.elim
 |Sub=>
  replace w:Want X.K ⟨X.mg,F⟩ μ H Q (subD d e S):=w
  unfold subD at w
  split at w
  ·have:=a0c' rd;have:=a0c' re;subst x y
   exact op_sub pins s σ H _ _ v u Q I rx ry ⟨_,_,rfl,rfl,w.now sk a0T'⟩
  ·exact w.elim
 |Mult=>
  replace w:Want X.K ⟨X.mg,F⟩ μ H Q (mulD d e S):=w
  unfold mulD at w
  split at w
  ·have:=a0c' rd;have:=a0c' re;subst x y
   split at w
   ·rename_i hc
    exact op_mul pins s σ H _ _ v u Q I rx ry ⟨_,_,rfl,rfl,hc,w.now sk a0T'⟩
   ·split at w
    ·rename_i hc
     exact op_mulG pins s σ H _ _ v u Q I rx ry ⟨_,_,rfl,rfl,hc,w.now sk a0T'⟩
    ·exact w.elim
  ·split at w
   ·rename_i as k hc
    obtain⟨a,vs,rfl,ha,qa⟩:=a0s' rd
    have:=a0c' re;subst y
    have l1:=qa.length
    have qr:∀m,RepL X.K ⟨X.mg,F⟩ μ H (List.replicate m as).flatten (List.replicate m vs).flatten:=fun m=>by
     induction m with
     |zero=>simpa using RepL.nil
     |succ m ih=>rw[List.replicate_succ,List.replicate_succ,List.flatten_cons,List.flatten_cons];exact qa.append ih
    refine op_repT pins s σ H _ _ v u Q I rx ry ⟨a,k,vs,rfl,rfl,ha,hc.1,hc.2.1,by rw[←l1];omega,fun z=>w.now sk ?_,fun p hp=>w.tup sk (qr _) p hp⟩
    have e:(List.replicate k.toNat as).flatten=as:=by
     rcases z with z|z
     ·have:as=[]:=List.eq_nil_of_length_eq_zero (by rw[l1,z];rfl)
      rw[this];simp
     ·rw[z];simp
    rw[e]
    exact rd
   ·exact w.elim
  ·split at w
   ·rename_i as k hc
    obtain⟨a,vs,rfl,ha,qa⟩:=a0M' sk rd rfl
    have:=a0c' re;subst y
    have l1:=qa.length
    refine op_rep pins s σ H _ _ v u Q I rx ry ⟨a,k,vs,rfl,rfl,ha,hc.1,hc.2.1,by rw[←l1];omega,fun p hp=>w.lst sk ?_ p hp⟩
    generalize k.toNat=m
    clear hc w
    induction m with
    |zero=>simpa using RepL.nil
    |succ m ih=>rw[List.replicate_succ,List.replicate_succ,List.flatten_cons,List.flatten_cons];exact qa.append ih
   ·exact w.elim
  ·exact w.elim
 |FloorDiv=>
  replace w:Want X.K ⟨X.mg,F⟩ μ H Q (fdivD d e S):=w
  unfold fdivD at w
  split at w
  ·have:=a0c' rd;have:=a0c' re;subst x y
   split at w
   ·rename_i hc
    exact op_fdiv pins s σ H _ _ v u Q I rx ry ⟨_,_,rfl,rfl,hc,w.now sk a0T'⟩
   ·exact w.elim
  ·exact w.elim
 |Mod=>
  replace w:Want X.K ⟨X.mg,F⟩ μ H Q (modD d e S):=w
  unfold modD at w
  split at w
  ·have:=a0c' rd;have:=a0c' re;subst x y
   split at w
   ·rename_i hc
    exact op_mod pins s σ H _ _ v u Q I rx ry ⟨_,_,rfl,rfl,hc,w.now sk a0T'⟩
   ·exact w.elim
  ·exact w.elim
 |Pow=>
  replace w:Want X.K ⟨X.mg,F⟩ μ H Q (powD d e S):=w
  unfold powD at w
  split at w
  ·have:=a0c' rd;have:=a0c' re;subst x y
   split at w
   ·rename_i hc
    exact op_pow pins s σ H _ _ v u Q I rx ry ⟨_,_,rfl,rfl,hc,w.now sk a0T'⟩
   ·exact w.elim
  ·exact w.elim
 |RShift=>
  replace w:Want X.K ⟨X.mg,F⟩ μ H Q (shrD d e S):=w
  unfold shrD at w
  split at w
  ·have:=a0c' rd;have:=a0c' re;subst x y
   split at w
   ·rename_i hc
    exact op_shr pins s σ H _ _ v u Q I rx ry ⟨_,_,rfl,rfl,hc,w.now sk a0T'⟩
   ·exact w.elim
  ·exact w.elim
 |LShift=>
  replace w:Want X.K ⟨X.mg,F⟩ μ H Q (shlD d e S):=w
  unfold shlD at w
  split at w
  ·have:=a0c' rd;have:=a0c' re;subst x y
   split at w
   ·rename_i hc
    obtain⟨rfl,h1,h2⟩:=hc
    exact op_shl1 pins s σ H _ _ v u Q I rx ry ⟨_,_,rfl,rfl,⟨rfl,h1,h2⟩,w.now sk a0T'⟩
   ·exact w.elim
  ·exact w.elim
 |BitAnd=>
  replace w:Want X.K ⟨X.mg,F⟩ μ H Q (andD d e S):=w
  unfold andD at w
  split at w
  ·have:=a0c' rd;have:=a0c' re;subst x y
   exact op_and pins s σ H _ _ v u Q I rx ry ⟨_,_,rfl,rfl,w.now sk a0T'⟩
  ·exact w.elim
 |BitOr=>
  replace w:Want X.K ⟨X.mg,F⟩ μ H Q (orD d e S):=w
  unfold orD at w
  split at w
  ·have:=a0c' rd;have:=a0c' re;subst x y
   exact op_or pins s σ H _ _ v u Q I rx ry ⟨_,_,rfl,rfl,w.now sk a0T'⟩
  ·exact w.elim
 |_=>exact w.elim
def mulBD (d e:D)(S:Store):Res D:=match d,e with
 | .lst a,.int k=>if-(2^63)≤k∧k<2^63∧a.length*k.toNat≤big then .ok (.ref S.length) (S++[(List.replicate k.toNat a).flatten])else .fail
 |_,_=>.fail
theorem op_BD:OpR X (binaryOp .Mult) (rD X.K X.mg mulBD):=by
 intro pins s σ H x y v u Q I rx ry h
 obtain⟨F,μ,S,d,e,sk,rd,re,w⟩:=h
 have hb:=a8R'
 unfold mulBD at w
 split at w
 ·split at w
  ·rename_i as k hc
   obtain⟨a,vs,rfl,ha,qa⟩:=a0M' sk rd rfl
   have:=a0c' re;subst y
   have l1:=qa.length
   refine op_rep pins s σ H _ _ v u Q I rx ry ⟨a,k,vs,rfl,rfl,ha,hc.1,hc.2.1,by rw[←l1];omega,fun p hp=>w.box sk ?_ p hp⟩
   generalize k.toNat=m
   clear hc w
   induction m with
   |zero=>simpa using RepL.nil
   |succ m ih=>rw[List.replicate_succ,List.replicate_succ,List.flatten_cons,List.flatten_cons];exact qa.append ih
  ·exact w.elim
 ·exact w.elim
end
end Py
end
section
namespace Py
open PySem PySem.Spec PyProof.Rows L2
inductive Sh where
 |non|bl (b:Bool)|int (i:Int)|str (x:Str)|tup (xs:List D)|lst (xs:List D)
def sh (S:Store):D→Option Sh
 | .non=>some .non
 | .bl b=>some (.bl b)
 | .int i=>some (.int i)
 | .str x=>some (.str x)
 | .tup xs=>some (.tup xs)
 | .lst xs=>some (.lst xs)
 | .ref n=>(S[n]?).map .lst
 |_=>none
def allO:List (Option Bool)→Option Bool
 | []=>some true
 |o::r=>match o,allO r with
  |some b,some c=>some (b&&c)
  |_,_=>none
def eqS (f:D→D→Option Bool):Sh→Sh→Option Bool
 | .non,.non=>some true
 | .bl a,.bl b=>some (a==b)
 | .int a,.int b=>some (a==b)
 | .str a,.str b=>some (a==b)
 | .bl a,.int b=>some ((if a then 1 else 0)==b)
 | .int a,.bl b=>some (a==(if b then 1 else 0))
 | .tup a,.tup b=>(allO (List.zipWith f a b)).map (· &&a.length==b.length)
 | .lst a,.lst b=>if a.length=b.length then allO (List.zipWith f a b)else some false
 |_,_=>some false
def eqF (S:Store):Nat→D→D→Option Bool
 |0,_,_=>none
 |n+1,d,e=>match sh S d,sh S e with
  |some x,some y=>eqS (eqF S n) x y
  |_,_=>none
def eJ (l:List (Option Bool))(j:Nat):Bool:=match l[j]? with
 |some (some b)=>b
 |_=>true
theorem a3L':∀(l:List (Option Bool)) (k:Bool),allO l=some k→(∀(j:Nat) o,l[j]? =some o→o=some (eJ l j))∧k=(List.range l.length).all (eJ l)
 | [],k,h=>by
  unfold allO at h;cases h
  exact⟨fun j o e=>by simp at e,by simp⟩
 |o::r,k,h=>by
  unfold allO at h
  split at h
  ·rename_i b c e2
   cases h
   obtain⟨h1,h2⟩:=a3L' r c e2
   refine⟨fun j o e=> ?_,?_⟩
   ·cases j with
    |zero=>simp at e;subst e;simp[eJ]
    |succ j=>
     have e':r[j]? =some o:=by simpa using e
     rw[h1 j o e']
     simp[eJ]
   ·rw[List.length_cons,List.range_succ_eq_map,List.all_cons,List.all_map,h2]
    rfl
  ·cases h
section
variable {X:Cx}{pins:List (Addr×Obj)}{σ:L2.St}{H:Hp}{s:Shared}{μ:List Addr}{S:Store}{F:List Addr}
def ShIs (K:PySem.W.Frag)(mg:GS)(μ:List Addr)(H:Hp)(s:Shared)(u:Value):Sh→Prop
 | .non=>u=.none
 | .bl b=>u=.bool b
 | .int i=>∃t,u=.int i t
 | .str x=>∃t,u=.str x t
 | .tup ds=>∃a its vs,u=.ref a∧s.heap.IsTuple a its.toArray∧Vals vs its∧RepL K mg μ H ds vs
 | .lst ds=>∃a its vs,u=.ref a∧s.heap.IsList a its.toArray∧Vals vs its∧RepL K mg μ H ds vs
theorem shIs (I:Inv X pins σ H s)(sk:SOk X.K ⟨X.mg,F⟩ μ S H){d:D}{v:V}{u:Value}{x:Sh}(r:Rep X.K ⟨X.mg,F⟩ μ H d v)(q:RelV v u)(e:sh S d=some x):ShIs X.K ⟨X.mg,F⟩ μ H s u x:=by
 cases d with
 |non=>cases e;cases a3Z' r;exact q
 |bl b=>cases e;cases a6o' r;exact q
 |int b=>cases e;cases a0c' r;exact q
 |str b=>cases e;cases a3r' r;exact q
 |tup xs=>
  cases e
  obtain⟨a,vs,rfl,h,k⟩:=a0s' r
  cases q
  obtain⟨its,rv,p,_⟩:=I.tuple h
  exact⟨a,its,vs,rfl,p,rv,k⟩
 |lst xs=>
  cases e
  obtain⟨a,vs,rfl,h,k⟩:=a0M' sk r rfl
  cases q
  obtain⟨its,rv,p,_⟩:=I.list (.of h)
  exact⟨a,its,vs,rfl,p.isList,rv,k⟩
 |ref n=>
  replace e:(S[n]?).map Sh.lst=some x:=e
  cases e2:S[n]? with
  |none=>rw[e2]at e;cases e
  |some xs=>
   rw[e2]at e;cases e
   obtain⟨a,vs,rfl,h,k⟩:=a0M' sk r e2
   cases q
   obtain⟨its,rv,p,_⟩:=I.list (.of h)
   exact⟨a,its,vs,rfl,p.isList,rv,k⟩
 |_=>cases e
def Items (A:Around)(s:Shared)(f:D→D→Option Bool)(K:PySem.W.Frag)(mg:GS)(μ:List Addr)(H:Hp):Prop:=
 ∀d e v w u z k,Rep K mg μ H d v→RelV v u→Rep K mg μ H e w→RelV w z→f d e=some k→SeqAt.EqAt A s u z k
theorem a9P' {A:Around}{f:D→D→Option Bool}{K:PySem.W.Frag}{mg:GS}(F:Items A s f K mg μ H){ds es:List D}{vs ws:List V}{us zs:List Value}(r1:RepL K mg μ H ds vs)(q1:Vals vs us)(r2:RepL K mg μ H es ws)(q2:Vals ws zs){k:Bool}
  (h:allO (List.zipWith f ds es)=some k):∀j (h1:j<us.toArray.size) (h2:j<zs.toArray.size),SeqAt.EqAt A s us.toArray[j] zs.toArray[j] (eJ (List.zipWith f ds es) j):=by
 intro j h1 h2
 have l1:=r1.length;have l2:=r2.length;have l3:=q1.length;have l4:=q2.length
 have h1':j<us.length:=by simpa using h1
 have h2':j<zs.length:=by simpa using h2
 have a1:ds[j]? =some (ds[j]'(by omega)):=List.getElem?_eq_getElem _
 have a2:es[j]? =some (es[j]'(by omega)):=List.getElem?_eq_getElem _
 obtain⟨v,b1,c1⟩:=r1.get a1
 obtain⟨w,b2,c2⟩:=r2.get a2
 obtain⟨u,b3,c3⟩:=q1.get b1
 obtain⟨z,b4,c4⟩:=q2.get b2
 have e1:us.toArray[j]=u:=by
  have:=List.getElem?_eq_some_iff.mp b3
  obtain⟨_,e⟩:=this
  simpa using e
 have e2:zs.toArray[j]=z:=by
  have:=List.getElem?_eq_some_iff.mp b4
  obtain⟨_,e⟩:=this
  simpa using e
 rw[e1,e2]
 have hz:(List.zipWith f ds es)[j]? =some (f (ds[j]'(by omega)) (es[j]'(by omega))):=by
  rw[List.getElem?_zipWith,a1,a2]
 exact F _ _ v w u z _ c1 c3 c2 c4 ((a3L' _ _ h).1 j _ hz)
theorem a9Q' {f:D→D→Option Bool}{ds es:List D}{k:Bool}(h:allO (List.zipWith f ds es)=some k)(m:Nat)(hm:m=min ds.length es.length):(List.range m).all (eJ (List.zipWith f ds es))=k:=by
 have:=(a3L' _ _ h).2
 rw[this,List.length_zipWith,hm]
open PySem.SeqAt
theorem rcS {A:Around}{K:PySem.W.Frag}{mg:GS}{f:D→D→Option Bool}(F:Items A.in1 s f K mg μ H)(hu:A.units<cLine){u z:Value}:∀{x y:Sh} {k:Bool},ShIs K mg μ H s u x→ShIs K mg μ H s z y→eqS f x y=some k→
  RcAt A s u z k∧RcNeAt A s u z (!k):=by
 intro x y k hx hy h
 cases x with
 |non=>
  cases hx
  cases y with
  |non=>cases hy;cases h;exact⟨RcAt.none_none,RcNeAt.none_none⟩
  |bl b=>cases hy;cases h;exact⟨RcAt.none_bool b,RcNeAt.none_bool b⟩
  |int b=>obtain⟨t,rfl⟩:=hy;cases h;exact⟨RcAt.none_int b t,RcNeAt.none_int b t⟩
  |str b=>obtain⟨t,rfl⟩:=hy;cases h;exact⟨RcAt.none_str b t,RcNeAt.none_str b t⟩
  |tup b=>obtain⟨a,its,vs,rfl,p,_⟩:=hy;cases h;exact⟨RcAt.none_tuple p hu,RcNeAt.none_tuple p hu⟩
  |lst b=>obtain⟨a,its,vs,rfl,p,_⟩:=hy;cases h;exact⟨RcAt.none_list p hu,RcNeAt.none_list p hu⟩
 |bl a=>
  cases hx
  cases y with
  |non=>cases hy;cases h;exact⟨RcAt.bool_none a,RcNeAt.bool_none a⟩
  |bl b=>cases hy;cases h;exact⟨RcAt.bool_bool a b,RcNeAt.bool_bool a b⟩
  |int b=>obtain⟨t,rfl⟩:=hy;cases h;exact⟨RcAt.bool_int a b t,RcNeAt.bool_int a b t⟩
  |str b=>obtain⟨t,rfl⟩:=hy;cases h;exact⟨RcAt.bool_str a b t,RcNeAt.bool_str a b t⟩
  |tup b=>obtain⟨_,its,vs,rfl,p,_⟩:=hy;cases h;exact⟨RcAt.bool_tuple a p hu,RcNeAt.bool_tuple a p hu⟩
  |lst b=>obtain⟨_,its,vs,rfl,p,_⟩:=hy;cases h;exact⟨RcAt.bool_list a p hu,RcNeAt.bool_list a p hu⟩
 |int a=>
  obtain⟨t',rfl⟩:=hx
  cases y with
  |non=>cases hy;cases h;exact⟨RcAt.int_none a t',RcNeAt.int_none a t'⟩
  |bl b=>cases hy;cases h;exact⟨RcAt.int_bool a t' b,RcNeAt.int_bool a t' b⟩
  |int b=>obtain⟨t,rfl⟩:=hy;cases h;exact⟨RcAt.int_int a t' b t,RcNeAt.int_int a t' b t⟩
  |str b=>obtain⟨t,rfl⟩:=hy;cases h;exact⟨RcAt.int_str a t' b t,RcNeAt.int_str a t' b t⟩
  |tup b=>obtain⟨_,its,vs,rfl,p,_⟩:=hy;cases h;exact⟨RcAt.int_tuple a t' p hu,RcNeAt.int_tuple a t' p hu⟩
  |lst b=>obtain⟨_,its,vs,rfl,p,_⟩:=hy;cases h;exact⟨RcAt.int_list a t' p hu,RcNeAt.int_list a t' p hu⟩
 |str a=>
  obtain⟨t',rfl⟩:=hx
  cases y with
  |non=>cases hy;cases h;exact⟨RcAt.str_none a t',RcNeAt.str_none a t'⟩
  |bl b=>cases hy;cases h;exact⟨RcAt.str_bool a t' b,RcNeAt.str_bool a t' b⟩
  |int b=>obtain⟨t,rfl⟩:=hy;cases h;exact⟨RcAt.str_int a t' b t,RcNeAt.str_int a t' b t⟩
  |str b=>obtain⟨t,rfl⟩:=hy;cases h;exact⟨RcAt.str_str a t' b t,RcNeAt.str_str a t' b t⟩
  |tup b=>obtain⟨_,its,vs,rfl,p,_⟩:=hy;cases h;exact⟨RcAt.str_tuple a t' p hu,RcNeAt.str_tuple a t' p hu⟩
  |lst b=>obtain⟨_,its,vs,rfl,p,_⟩:=hy;cases h;exact⟨RcAt.str_list a t' p hu,RcNeAt.str_list a t' p hu⟩
 |tup a=>
  obtain⟨a1,its1,vs1,rfl,p1,q1,r1⟩:=hx
  cases y with
  |non=>cases hy;cases h;exact⟨RcAt.tuple_none p1 hu,RcNeAt.tuple_none p1 hu⟩
  |bl b=>cases hy;cases h;exact⟨RcAt.tuple_bool b p1 hu,RcNeAt.tuple_bool b p1 hu⟩
  |int b=>obtain⟨t,rfl⟩:=hy;cases h;exact⟨RcAt.tuple_int b t p1 hu,RcNeAt.tuple_int b t p1 hu⟩
  |str b=>obtain⟨t,rfl⟩:=hy;cases h;exact⟨RcAt.tuple_str b t p1 hu,RcNeAt.tuple_str b t p1 hu⟩
  |tup b=>
   obtain⟨a2,its2,vs2,rfl,p2,q2,r2⟩:=hy
   replace h:(allO (List.zipWith f a b)).map (· &&a.length==b.length)=some k:=h
   obtain⟨k1,e1,e2⟩:=Option.map_eq_some_iff.mp h
   have hz:=a9P' F r1 q1 r2 q2 e1
   have l1:=r1.length;have l2:=r2.length;have l3:=q1.length;have l4:=q2.length
   have e3:k=((List.range (min its1.toArray.size its2.toArray.size)).all (eJ (List.zipWith f a b))&&its1.toArray.size==its2.toArray.size):=by
    rw[←e2,a9Q' e1 _ (by rw[List.size_toArray,List.size_toArray,←l3,←l4,←l1,←l2]),List.size_toArray,List.size_toArray,←l3,←l4,←l1,←l2]
   rw[e3]
   exact⟨RcAt.tuples p1 p2 hu hz,RcNeAt.tuples p1 p2 hu hz⟩
  |lst b=>obtain⟨a2,its2,vs2,rfl,p2,_⟩:=hy;cases h;exact⟨RcAt.tuple_list p1 p2 hu,RcNeAt.tuple_list p1 p2 hu⟩
 |lst a=>
  obtain⟨a1,its1,vs1,rfl,p1,q1,r1⟩:=hx
  cases y with
  |non=>cases hy;cases h;exact⟨RcAt.list_none p1 hu,RcNeAt.list_none p1 hu⟩
  |bl b=>cases hy;cases h;exact⟨RcAt.list_bool b p1 hu,RcNeAt.list_bool b p1 hu⟩
  |int b=>obtain⟨t,rfl⟩:=hy;cases h;exact⟨RcAt.list_int b t p1 hu,RcNeAt.list_int b t p1 hu⟩
  |str b=>obtain⟨t,rfl⟩:=hy;cases h;exact⟨RcAt.list_str b t p1 hu,RcNeAt.list_str b t p1 hu⟩
  |tup b=>obtain⟨a2,its2,vs2,rfl,p2,_⟩:=hy;cases h;exact⟨RcAt.list_tuple p1 p2 hu,RcNeAt.list_tuple p1 p2 hu⟩
  |lst b=>
   obtain⟨a2,its2,vs2,rfl,p2,q2,r2⟩:=hy
   have l1:=r1.length;have l2:=r2.length;have l3:=q1.length;have l4:=q2.length
   replace h:(if a.length=b.length then allO (List.zipWith f a b)else some false)=some k:=h
   split at h
   ·rename_i hl
    have hz:=a9P' F r1 q1 r2 q2 h
    have e3:k=(List.range its1.toArray.size).all (eJ (List.zipWith f a b)):=by
     rw[a9Q' h _ (by rw[List.size_toArray,←l3,←l1];omega)]
    rw[e3]
    have hs:its1.toArray.size=its2.toArray.size:=by rw[List.size_toArray,List.size_toArray];omega
    exact⟨RcAt.lists p1 p2 hs hu hz,RcNeAt.lists p1 p2 hs hu hz⟩
   ·rename_i hl
    cases h
    have hs:(its1.toArray.size !=its2.toArray.size)=true:=by rw[List.size_toArray,List.size_toArray];simp;omega
    exact⟨RcAt.lists_lengths p1 p2 hs hu,RcNeAt.lists_lengths p1 p2 hs hu⟩
theorem b2S' (I:Inv X pins σ H s)(sk:SOk X.K ⟨X.mg,F⟩ μ S H):∀(n:Nat) (d e:D) (v:V) (k:Bool),Rep X.K ⟨X.mg,F⟩ μ H d v→Rep X.K ⟨X.mg,F⟩ μ H e v→eqF S n d e=some k→k=true:=by
 intro n
 induction n with
 |zero=>intro d e v k _ _ h;cases h
 |succ n ih=>
  intro d e v k rd re h
  have lists:∀(ds es:List D) (vs:List V) (k:Bool),RepL X.K ⟨X.mg,F⟩ μ H ds vs→RepL X.K ⟨X.mg,F⟩ μ H es vs→allO (List.zipWith (eqF S n) ds es)=some k→k=true:=by
   intro ds
   induction ds with
   |nil=>intro es vs k _ _ h;cases h;rfl
   |cons d ds ihl=>
    intro es vs k r1 r2 h
    obtain⟨v,ws,rfl,a1,b1⟩:=r1.uncons
    cases es with
    |nil=>cases h;rfl
    |cons e es=>
     obtain⟨v',ws',e1,a2,b2⟩:=r2.uncons
     cases e1
     rw[List.zipWith_cons_cons]at h
     unfold allO at h
     split at h
     ·rename_i x y e1 e2
      cases h
      rw[ih d e v x a1 a2 e1,ihl es ws y b1 b2 e2]
      rfl
     ·cases h
  unfold eqF at h
  cases e1:sh S d with
  |none=>rw[e1]at h;cases h
  |some x=>
   cases e2:sh S e with
   |none=>rw[e1,e2]at h;cases h
   |some y=>
    rw[e1,e2]at h
    replace h:eqS (eqF S n) x y=some k:=h
    obtain⟨u,ru⟩:∃u,RelV v u:=by
     cases v with
     |non=>exact⟨_,rfl⟩
     |bl b=>exact⟨_,rfl⟩
     |int i=>exact⟨.int i 0,0,rfl⟩
     |str x=>exact⟨.str x 0,0,rfl⟩
     |byt x=>exact⟨.bytes x 0,0,rfl⟩
     |flt x=>exact⟨.float x 0,0,rfl⟩
     |ref a=>exact⟨_,rfl⟩
     |ty n=>exact⟨_,rfl⟩
    have s1:=shIs I sk rd ru e1
    have s2:=shIs I sk re ru e2
    have len:∀{ds es:List D} {vs ws:List V} {us:List Value},RepL X.K ⟨X.mg,F⟩ μ H ds vs→Vals vs us→RepL X.K ⟨X.mg,F⟩ μ H es ws→Vals ws us→vs=ws∧ds.length=es.length:=fun r1 q1 r2 q2=>by
     have:=q1.inj q2
     subst this
     exact⟨rfl,r1.length.trans r2.length.symm⟩
    cases x with
    |non=>
     cases s1
     cases y with
     |non=>cases h;rfl
     |bl b=>cases s2
     |int b=>obtain⟨t,z⟩:=s2;cases z
     |str b=>obtain⟨t,z⟩:=s2;cases z
     |tup b=>obtain⟨_,_,_,z,_⟩:=s2;cases z
     |lst b=>obtain⟨_,_,_,z,_⟩:=s2;cases z
    |bl a=>
     cases s1
     cases y with
     |non=>cases s2
     |bl b=>cases s2;cases h;simp
     |int b=>obtain⟨t,z⟩:=s2;cases z
     |str b=>obtain⟨t,z⟩:=s2;cases z
     |tup b=>obtain⟨_,_,_,z,_⟩:=s2;cases z
     |lst b=>obtain⟨_,_,_,z,_⟩:=s2;cases z
    |int a=>
     obtain⟨t',rfl⟩:=s1
     cases y with
     |non=>cases s2
     |bl b=>cases s2
     |int b=>obtain⟨t,z⟩:=s2;cases z;cases h;simp
     |str b=>obtain⟨t,z⟩:=s2;cases z
     |tup b=>obtain⟨_,_,_,z,_⟩:=s2;cases z
     |lst b=>obtain⟨_,_,_,z,_⟩:=s2;cases z
    |str a=>
     obtain⟨t',rfl⟩:=s1
     cases y with
     |non=>cases s2
     |bl b=>cases s2
     |int b=>obtain⟨t,z⟩:=s2;cases z
     |str b=>obtain⟨t,z⟩:=s2;cases z;cases h;simp
     |tup b=>obtain⟨_,_,_,z,_⟩:=s2;cases z
     |lst b=>obtain⟨_,_,_,z,_⟩:=s2;cases z
    |tup a=>
     obtain⟨a1,its1,vs1,rfl,p1,q1,r1⟩:=s1
     cases y with
     |non=>cases s2
     |bl b=>cases s2
     |int b=>obtain⟨t,z⟩:=s2;cases z
     |str b=>obtain⟨t,z⟩:=s2;cases z
     |tup b=>
      obtain⟨a2,its2,vs2,z,p2,q2,r2⟩:=s2
      cases z
      have hi:its1=its2:=by
       obtain⟨o,ho,_,n,hd⟩:=p1
       obtain⟨o',ho',_,n',hd'⟩:=p2
       rw[ho]at ho';cases ho'
       rw[hd]at hd';injection hd' with z _
       simpa using congrArg Array.toList z
      subst hi
      obtain⟨rfl,hl⟩:=len r1 q1 r2 q2
      replace h:(allO (List.zipWith (eqF S n) a b)).map (· &&a.length==b.length)=some k:=h
      obtain⟨k1,e3,e4⟩:=Option.map_eq_some_iff.mp h
      rw[←e4,lists a b vs1 k1 r1 r2 e3,hl]
      simp
     |lst b=>
      obtain⟨a2,its2,vs2,z,p2,q2,r2⟩:=s2
      cases z
      obtain⟨o,ho,c,n,hd⟩:=p1
      obtain⟨o',ho',c',n',hd'⟩:=p2
      rw[ho]at ho';cases ho'
      rw[c]at c';exact absurd c' (by decide)
    |lst a=>
     obtain⟨a1,its1,vs1,rfl,p1,q1,r1⟩:=s1
     cases y with
     |non=>cases s2
     |bl b=>cases s2
     |int b=>obtain⟨t,z⟩:=s2;cases z
     |str b=>obtain⟨t,z⟩:=s2;cases z
     |tup b=>
      obtain⟨a2,its2,vs2,z,p2,q2,r2⟩:=s2
      cases z
      obtain⟨o,ho,c,n,hd⟩:=p1
      obtain⟨o',ho',c',n',hd'⟩:=p2
      rw[ho]at ho';cases ho'
      rw[c]at c';exact absurd c' (by decide)
     |lst b=>
      obtain⟨a2,its2,vs2,z,p2,q2,r2⟩:=s2
      cases z
      have hi:its1=its2:=by
       obtain⟨o,ho,_,n,hd⟩:=p1
       obtain⟨o',ho',_,n',hd'⟩:=p2
       rw[ho]at ho';cases ho'
       rw[hd]at hd';injection hd' with z _
       simpa using congrArg Array.toList z
      subst hi
      obtain⟨rfl,hl⟩:=len r1 q1 r2 q2
      replace h:(if a.length=b.length then allO (List.zipWith (eqF S n) a b)else some false)=some k:=h
      rw[if_pos hl]at h
      exact lists a b vs1 k r1 r2 h
theorem rcF (I:Inv X pins σ H s)(sk:SOk X.K ⟨X.mg,F⟩ μ S H):∀(n:Nat) (A:Around),A.units+n<cLine→∀d e v w u z k,Rep X.K ⟨X.mg,F⟩ μ H d v→RelV v u→Rep X.K ⟨X.mg,F⟩ μ H e w→RelV w z→eqF S n d e=some k→
  RcAt A s u z k∧RcNeAt A s u z (!k)∧EqAt A s u z k:=by
 intro n
 induction n with
 |zero=>intro A _ d e v w u z k _ _ _ _ h;cases h
 |succ n ih=>
  intro A hA d e v w u z k rd ru re rz h
  have self:=fun(hv:v=w)=>b2S' I sk (n+1) d e v k rd (hv▸re) h
  unfold eqF at h
  cases e1:sh S d with
  |none=>rw[e1]at h;cases h
  |some x=>
   cases e2:sh S e with
   |none=>rw[e1,e2]at h;cases h
   |some y=>
    rw[e1,e2]at h
    replace h:eqS (eqF S n) x y=some k:=h
    have s1:=shIs I sk rd ru e1
    have s2:=shIs I sk re rz e2
    have hin:A.in1.units=A.units+1:=rfl
    have F:Items A.in1 s (eqF S n) X.K ⟨X.mg,F⟩ μ H:=fun d e v w u z k a b c d' h=>(ih A.in1 (by omega) d e v w u z k a b c d' h).2.2
    obtain⟨c1,c2⟩:=rcS F (by omega) s1 s2 h
    refine⟨c1,c2,?_⟩
    have refs:∀{l b:Addr},u=.ref l→z=.ref b→EqAt A s u z k:=fun{l b} eu ez=>by
     subst eu;subst ez
     by_cases hl:l=b
     ·subst hl
      have hv:v=w:=by
       cases v<;>first| (cases ru;done)|skip
       all_goals first| (obtain⟨_,q⟩:=ru;cases q;done)|skip
       cases w<;>first| (cases rz;done)|skip
       all_goals first| (obtain⟨_,q⟩:=rz;cases q;done)|skip
       cases ru;cases rz;rfl
      rw[self hv]
      exact EqAt.same _
     ·exact .of_refs hl c1
    have hu:A.units<cLine:=by omega
    cases x with
    |non=>
     cases s1
     cases y with
     |non=>cases s2;cases h;exact EqAt.same _
     |bl b=>cases s2;cases h;exact EqAt.none_bool b
     |int b=>obtain⟨t,rfl⟩:=s2;cases h;exact EqAt.none_int b t
     |str b=>obtain⟨t,rfl⟩:=s2;cases h;exact EqAt.none_str b t
     |tup b=>obtain⟨a,its,vs,rfl,p,_⟩:=s2;cases h;exact EqAt.none_tuple p hu
     |lst b=>obtain⟨a,its,vs,rfl,p,_⟩:=s2;cases h;exact EqAt.none_list p hu
    |bl a=>
     cases s1
     cases y with
     |non=>cases s2;cases h;exact EqAt.bool_none a
     |bl b=>cases s2;cases h;exact EqAt.bool_bool a b
     |int b=>obtain⟨t,rfl⟩:=s2;cases h;exact EqAt.bool_int a b t
     |str b=>obtain⟨t,rfl⟩:=s2;cases h;exact EqAt.bool_str a b t
     |tup b=>obtain⟨_,its,vs,rfl,p,_⟩:=s2;cases h;exact EqAt.bool_tuple a p hu
     |lst b=>obtain⟨_,its,vs,rfl,p,_⟩:=s2;cases h;exact EqAt.bool_list a p hu
    |int a=>
     obtain⟨t',rfl⟩:=s1
     cases y with
     |non=>cases s2;cases h;exact EqAt.int_none a t'
     |bl b=>cases s2;cases h;exact EqAt.int_bool a t' b
     |int b=>obtain⟨t,rfl⟩:=s2;cases h;exact EqAt.int_int a t' b t
     |str b=>obtain⟨t,rfl⟩:=s2;cases h;exact EqAt.int_str a t' b t
     |tup b=>obtain⟨_,its,vs,rfl,p,_⟩:=s2;cases h;exact EqAt.int_tuple a t' p hu
     |lst b=>obtain⟨_,its,vs,rfl,p,_⟩:=s2;cases h;exact EqAt.int_list a t' p hu
    |str a=>
     obtain⟨t',rfl⟩:=s1
     cases y with
     |non=>cases s2;cases h;exact EqAt.str_none a t'
     |bl b=>cases s2;cases h;exact EqAt.str_bool a t' b
     |int b=>obtain⟨t,rfl⟩:=s2;cases h;exact EqAt.str_int a t' b t
     |str b=>obtain⟨t,rfl⟩:=s2;cases h;exact EqAt.str_str a t' b t
     |tup b=>obtain⟨_,its,vs,rfl,p,_⟩:=s2;cases h;exact EqAt.str_tuple a t' p hu
     |lst b=>obtain⟨_,its,vs,rfl,p,_⟩:=s2;cases h;exact EqAt.str_list a t' p hu
    |tup a=>
     obtain⟨a1,its1,vs1,rfl,p1,_⟩:=s1
     cases y with
     |non=>cases s2;cases h;exact EqAt.tuple_none p1 hu
     |bl b=>cases s2;cases h;exact EqAt.tuple_bool b p1 hu
     |int b=>obtain⟨t,rfl⟩:=s2;cases h;exact EqAt.tuple_int b t p1 hu
     |str b=>obtain⟨t,rfl⟩:=s2;cases h;exact EqAt.tuple_str b t p1 hu
     |tup b=>obtain⟨_,its,vs,rfl,p,_⟩:=s2;exact refs rfl rfl
     |lst b=>obtain⟨_,its,vs,rfl,p,_⟩:=s2;exact refs rfl rfl
    |lst a=>
     obtain⟨a1,its1,vs1,rfl,p1,_⟩:=s1
     cases y with
     |non=>cases s2;cases h;exact EqAt.list_none p1 hu
     |bl b=>cases s2;cases h;exact EqAt.list_bool b p1 hu
     |int b=>obtain⟨t,rfl⟩:=s2;cases h;exact EqAt.list_int b t p1 hu
     |str b=>obtain⟨t,rfl⟩:=s2;cases h;exact EqAt.list_str b t p1 hu
     |tup b=>obtain⟨_,its,vs,rfl,p,_⟩:=s2;exact refs rfl rfl
     |lst b=>obtain⟨_,its,vs,rfl,p,_⟩:=s2;exact refs rfl rfl
end
end Py
end
section
namespace Py
open PySem PySem.Spec PyProof.Rows L2
def ltL (eq lt:D→D→Option Bool):List D→List D→Option Bool
 | [],[]=>some false
 | [],_::_=>some true
 |_::_,[]=>some false
 |a::as,b::bs=>match eq a b with
  |some true=>ltL eq lt as bs
  |some false=>lt a b
  |none=>none
def ltF (S:Store):Nat→D→D→Option Bool
 |0,_,_=>none
 |n+1,.int a,.int b=>some (decide (a<b))
 |n+1,.tup a,.tup b=>ltL (eqF S n) (ltF S n) a b
 |_,_,_=>none
open PySem.SeqAt
def LtAt (A:Around)(s:Shared)(y x:Value)(b:Bool):Prop:=
 ∀(prog:Program) (w:World) (E:Value→Shared→Prop) (Q:Value→Shared→Prop),Q (.bool b) s→wpAny (model prog w) A (richCompare .Lt y x) Q E s
inductive LexAt (A:Around)(s:Shared):List Value→List Value→Bool→Prop where
 |nn:LexAt A s [] [] false
 |nc {w ws}:LexAt A s [] (w::ws) true
 |cn {v vs}:LexAt A s (v::vs) [] false
 |eq {v w vs ws k}:EqAt A s v w true→LexAt A s vs ws k→LexAt A s (v::vs) (w::ws) k
 |lt {v w vs ws k}:EqAt A s v w false→LtAt A s v w k→LexAt A s (v::vs) (w::ws) k
section
open PySem.AutoSeq1 (wpAny_loadPart')
open PySem.MeetsSeq PySem.MeetsSeq2 PySem.MeetsSeq3
theorem a6p' (l b:Addr)(items items2:Array Value)(n n2:Nat)(dd dd2:Option Addr)(sl sl2:Array (Option Value))(k:Bool):
  Meets (Builtin.«tuple.__lt__» ⟨[.ref l,.ref b],[]⟩)
   (fun A R s=>s.heap.get? l=some {cls:=.type "tuple",dict:=dd,data:=.seq items n,slots:=sl}∧s.heap.get? b=some {cls:=.type "tuple",dict:=dd2,data:=.seq items2 n2,slots:=sl2}∧
    LexAt A.in1 s items.toList items2.toList k∧R (.ok (.ret (.bool k))) s):=
 .of_wp fun prog w A R s h=>by
  obtain⟨hp,g,d,tk,os⟩:=s;obtain⟨hl,hb,hx,h⟩:=h
  have f2:=AutoSeq1.sub_tuple_tuple
  wp_walk using wpAny_loadPart' hl,wpAny_loadPart' hb,wpAny_forIn_list _ (fun rest b s'=>b.1=none∧s'=⟨hp,g,d,tk,os⟩∧∃(vs ws:List Value),rest=vs.zip ws∧
   LexAt A.in1 ⟨hp,g,d,tk,os⟩ vs ws k∧vs.length+items2.size=ws.length+items.size∧R (.ok (.ret (.bool k))) ⟨hp,g,d,tk,os⟩) _
  case turn=>
   rintro⟨y,x⟩ rest b s' ⟨hb',rfl,vs,ws,hz,hvi,hlen,hR⟩
   cases hvi with
   |nn=>rw[List.zip_nil_left]at hz;cases hz
   |nc=>rw[List.zip_nil_left]at hz;cases hz
   |cn=>rw[List.zip_nil_right]at hz;cases hz
   |eq he hr=>
    rw[List.zip_cons_cons]at hz
    injection hz with hyx hrest
    injection hyx with hy hx
    subst hy hx
    simp only[List.length_cons]at hlen
    refine wpAny_bind (he prog w _ _ ?_)
    wp_walk
    exact⟨rfl,rfl,_,_,hrest,hr,by omega,hR⟩
   |lt he hr=>
    rw[List.zip_cons_cons]at hz
    injection hz with hyx hrest
    injection hyx with hy hx
    subst hy hx
    refine wpAny_bind (he prog w _ _ ?_)
    have hri:=fun(E:Value→Shared→Prop) (Q:Value→Shared→Prop)=>hr prog w E Q
    wp_walk using hri
    exact⟨_,rfl,by simpa using hR⟩
  case fin=>
   rintro⟨b1,b2⟩ s' ⟨hb',rfl,vs,ws,hz,hvi,hlen,hR⟩
   simp only at hb'
   subst hb'
   have hv:k=decide (items.size<items2.size):=by
    cases hvi with
    |nn=>simp only[List.length_nil]at hlen;exact(decide_eq_false (by omega)).symm
    |nc=>simp only[List.length_nil,List.length_cons]at hlen;exact(decide_eq_true (by omega)).symm
    |cn=>simp only[List.length_nil,List.length_cons]at hlen;exact(decide_eq_false (by omega)).symm
    |eq he hr=>rw[List.zip_cons_cons]at hz;cases hz
    |lt he hr=>rw[List.zip_cons_cons]at hz;cases hz
   rw[hv]at hR
   wp_walk
   exact⟨_,rfl,by simpa[Builtin.Tuple.tupleCompareSizes]using hR⟩
  case h=>
   exact⟨rfl,rfl,items.toList,items2.toList,rfl,hx,by simp;omega,h⟩
end
theorem LtAt.tuples {A:Around}{s:Shared}{l b:Addr}{vs ws:List Value}{k:Bool}(hl:s.heap.IsTuple l vs.toArray)(hb:s.heap.IsTuple b ws.toArray)(hu:A.units<cLine)(hx:LexAt A.in1 s vs ws k):LtAt A s (.ref l) (.ref b) k:=fun prog w E Q h=>by
 obtain⟨⟨cls,dd,data,sl⟩,ho,hc,n,hd⟩:=id hl
 obtain⟨⟨cls2,dd2,data2,sl2⟩,ho2,hc2,n2,hd2⟩:=id hb
 simp only at hc hd hc2 hd2
 subst hc hd hc2 hd2
 exact richCompare_meets_room (op:=.Lt) ⟨_,ho,rfl⟩ ⟨_,ho2,rfl⟩ PySem.F.slot_tuple_lt PySem.F.entry_tuple_lt (PySem.F.args_tuple_lt_2 _ _) (a6p' l b vs.toArray ws.toArray n n2 dd dd2 sl sl2 k)
  ⟨ho,ho2,by simpa using hx,show Value.bool k≠Value.notImplemented∧Q (.bool k) s from⟨(fun x=>nomatch x),h⟩⟩ hu
def LeAt (A:Around)(s:Shared)(y x:Value)(b:Bool):Prop:=
 ∀(prog:Program) (w:World) (E:Value→Shared→Prop) (Q:Value→Shared→Prop),Q (.bool b) s→wpAny (model prog w) A (richCompare .LtE y x) Q E s
inductive LexLe (A:Around)(s:Shared):List Value→List Value→Bool→Prop where
 |nl {ws}:LexLe A s [] ws true
 |cn {v vs}:LexLe A s (v::vs) [] false
 |eq {v w vs ws k}:EqAt A s v w true→LexLe A s vs ws k→LexLe A s (v::vs) (w::ws) k
 |le {v w vs ws k}:EqAt A s v w false→LeAt A s v w k→LexLe A s (v::vs) (w::ws) k
section
open PySem.AutoSeq1 (wpAny_loadPart')
open PySem.MeetsSeq PySem.MeetsSeq2 PySem.MeetsSeq3
theorem a9R' (l b:Addr)(xs ys:Array Value)(n n2:Nat)(dd dd2:Option Addr)(sl sl2:Array (Option Value))(k:Bool):
  Meets (Builtin.«tuple.__le__» ⟨[.ref l,.ref b],[]⟩)
   (fun A R s=>s.heap.get? l=some {cls:=.type "tuple",dict:=dd,data:=.seq xs n,slots:=sl}∧s.heap.get? b=some {cls:=.type "tuple",dict:=dd2,data:=.seq ys n2,slots:=sl2}∧
    LexLe A.in1 s xs.toList ys.toList k∧R (.ok (.ret (.bool k))) s):=
 .of_wp fun prog w A R s h=>by
  obtain⟨hp,g,d,tk,os⟩:=s;obtain⟨hl,hb,hx,h⟩:=h
  have f2:=AutoSeq1.sub_tuple_tuple
  wp_walk using wpAny_loadPart' hl,wpAny_loadPart' hb,wpAny_forIn_list _ (fun rest b s'=>b.1=none∧s'=⟨hp,g,d,tk,os⟩∧∃(vs ws:List Value),rest=vs.zip ws∧
   LexLe A.in1 ⟨hp,g,d,tk,os⟩ vs ws k∧vs.length+ys.size=ws.length+xs.size∧R (.ok (.ret (.bool k))) ⟨hp,g,d,tk,os⟩) _
  case turn=>
   rintro⟨y,x⟩ rest b s' ⟨hb',rfl,vs,ws,hz,hvi,hlen,hR⟩
   cases hvi with
   |nl=>rw[List.zip_nil_left]at hz;cases hz
   |cn=>rw[List.zip_nil_right]at hz;cases hz
   |eq he hr=>
    rw[List.zip_cons_cons]at hz
    injection hz with hyx hrest
    injection hyx with hy hx
    subst hy hx
    simp only[List.length_cons]at hlen
    refine wpAny_bind (he prog w _ _ ?_)
    wp_walk
    exact⟨rfl,rfl,_,_,hrest,hr,by omega,hR⟩
   |le he hr=>
    rw[List.zip_cons_cons]at hz
    injection hz with hyx hrest
    injection hyx with hy hx
    subst hy hx
    refine wpAny_bind (he prog w _ _ ?_)
    have hri:=fun(E:Value→Shared→Prop) (Q:Value→Shared→Prop)=>hr prog w E Q
    wp_walk using hri
    exact⟨_,rfl,by simpa using hR⟩
  case fin=>
   rintro⟨b1,b2⟩ s' ⟨hb',rfl,vs,ws,hz,hvi,hlen,hR⟩
   simp only at hb'
   subst hb'
   have hv:k=decide (xs.size≤ys.size):=by
    cases hvi with
    |nl=>simp only[List.length_nil]at hlen;exact(decide_eq_true (by omega)).symm
    |cn=>simp only[List.length_nil,List.length_cons]at hlen;exact(decide_eq_false (by omega)).symm
    |eq he hr=>rw[List.zip_cons_cons]at hz;cases hz
    |le he hr=>rw[List.zip_cons_cons]at hz;cases hz
   rw[hv]at hR
   wp_walk
   exact⟨_,rfl,by simpa[Builtin.Tuple.tupleCompareSizes]using hR⟩
  case h=>
   exact⟨rfl,rfl,xs.toList,ys.toList,rfl,hx,by simp;omega,h⟩
end
theorem b1H' {A:Around}{s:Shared}{l b:Addr}{vs ws:List Value}{k:Bool}(hl:s.heap.IsTuple l vs.toArray)(hb:s.heap.IsTuple b ws.toArray)(hu:A.units<cLine)(hx:LexLe A.in1 s vs ws k):LeAt A s (.ref l) (.ref b) k:=fun prog w E Q h=>by
 obtain⟨⟨cls,dd,data,sl⟩,ho,hc,n,hd⟩:=id hl
 obtain⟨⟨cls2,dd2,data2,sl2⟩,ho2,hc2,n2,hd2⟩:=id hb
 simp only at hc hd hc2 hd2
 subst hc hd hc2 hd2
 exact richCompare_meets_room (op:=.LtE) ⟨_,ho,rfl⟩ ⟨_,ho2,rfl⟩ PySem.F.slot_tuple_le PySem.F.entry_tuple_le (PySem.F.args_tuple_le_2 _ _) (a9R' l b vs.toArray ws.toArray n n2 dd dd2 sl sl2 k)
  ⟨ho,ho2,by simpa using hx,show Value.bool k≠Value.notImplemented∧Q (.bool k) s from⟨(fun x=>nomatch x),h⟩⟩ hu
def leI:List D→List D→Option Bool
 | [],_=>some true
 |_::_,[]=>some false
 | .int a::as,.int b::bs=>if a=b then leI as bs else some (decide (a≤b))
 |_::_,_::_=>none
theorem leI_at {K:PySem.W.Frag}{mg:GS}{μ:List Addr}{H:Hp}{A:Around}{s:Shared}:∀(ds es:List D) (vs ws:List V) (us zs:List Value) (k:Bool),RepL K mg μ H ds vs→Vals vs us→RepL K mg μ H es ws→Vals ws zs→leI ds es=some k→LexLe A s us zs k
 | [],es,vs,ws,us,zs,k,r1,q1,r2,q2,h=>by
  unfold RepL at r1;subst r1;have:=q1.zero;subst this
  cases h
  exact .nl
 |d::ds,[],vs,ws,us,zs,k,r1,q1,r2,q2,h=>by
  obtain⟨v,vs,rfl,a1,b1⟩:=r1.uncons
  unfold RepL at r2;subst r2;have:=q2.zero;subst this
  cases q1
  have h':some false=some k:=by cases d<;>exact h
  cases h'
  exact .cn
 |d::ds,e::es,vs,ws,us,zs,k,r1,q1,r2,q2,h=>by
  obtain⟨v,vs,rfl,a1,b1⟩:=r1.uncons
  obtain⟨w,ws,rfl,a2,b2⟩:=r2.uncons
  cases d with
  |int a=>cases e with
   |int b=>
    have:=a0c' a1;have:=a0c' a2;subst v w
    cases q1 with
    |cons c1 d1=>cases q2 with
     |cons c2 d2=>
      obtain⟨t,rfl⟩:=c1;obtain⟨t',rfl⟩:=c2
      have h':(if a=b then leI ds es else some (decide (a≤b)))=some k:=h
      have he:=EqAt.int_int (A:=A) (s:=s) a t b t'
      by_cases hab:a=b
      ·rw[if_pos hab]at h'
       have e1:(a==b)=true:=by simpa using hab
       rw[e1]at he
       exact .eq he (leI_at ds es vs ws _ _ k b1 d1 b2 d2 h')
      ·rw[if_neg hab]at h'
       have e1:(a==b)=false:=by simpa using hab
       rw[e1]at he
       cases h'
       exact .le he fun prog w E Q hq=>(PyProof.Rows.le_int hq:wpAny (model prog w) A (compareOp .LtE (.int _ t) (.int _ t')) Q E s)
   |_=>cases h
  |_=>
   have h':(none:Option Bool)=some k:=by cases e<;>exact h
   cases h'
section
variable {X:Cx}{pins:List (Addr×Obj)}{σ:L2.St}{H:Hp}{s:Shared}{μ:List Addr}{S:Store}{F:List Addr}
theorem ltF_at (I:Inv X pins σ H s)(sk:SOk X.K ⟨X.mg,F⟩ μ S H):∀(n:Nat) (A:Around),A.units+n<cLine→∀d e v w u z k,Rep X.K ⟨X.mg,F⟩ μ H d v→RelV v u→Rep X.K ⟨X.mg,F⟩ μ H e w→RelV w z→ltF S n d e=some k→LtAt A s u z k:=by
 intro n
 induction n with
 |zero=>intro A _ d e v w u z k _ _ _ _ h;cases h
 |succ n ih=>
  intro A hA d e v w u z k rd ru re rz h
  have hin:A.in1.units=A.units+1:=rfl
  have lex:∀(ds es:List D) (vs ws:List V) (us zs:List Value),RepL X.K ⟨X.mg,F⟩ μ H ds vs→Vals vs us→RepL X.K ⟨X.mg,F⟩ μ H es ws→Vals ws zs→ltL (eqF S n) (ltF S n) ds es=some k→LexAt A.in1 s us zs k:=by
   intro ds
   induction ds with
   |nil=>
    intro es vs ws us zs r1 q1 r2 q2 h
    unfold RepL at r1;subst r1;have:=q1.zero;subst this
    cases es with
    |nil=>unfold RepL at r2;subst r2;have:=q2.zero;subst this;cases h;exact .nn
    |cons e es=>obtain⟨w,ws,rfl,_,_⟩:=r2.uncons;cases q2;cases h;exact .nc
   |cons d ds ihl=>
    intro es vs ws us zs r1 q1 r2 q2 h
    obtain⟨v,vs,rfl,a1,b1⟩:=r1.uncons
    cases q1 with
    |cons c1 d1=>
     cases es with
     |nil=>unfold RepL at r2;subst r2;have:=q2.zero;subst this;cases h;exact .cn
     |cons e es=>
      obtain⟨w,ws,rfl,a2,b2⟩:=r2.uncons
      cases q2 with
      |cons c2 d2=>
       unfold ltL at h
       split at h
       ·rename_i he
        exact .eq (rcF I sk n A.in1 (by omega) d e v w _ _ true a1 c1 a2 c2 he).2.2 (ihl es vs ws _ _ b1 d1 b2 d2 h)
       ·rename_i he
        exact .lt (rcF I sk n A.in1 (by omega) d e v w _ _ false a1 c1 a2 c2 he).2.2 (ih A.in1 (by omega) d e v w _ _ k a1 c1 a2 c2 h)
       ·cases h
  unfold ltF at h
  split at h
  ·rename_i h0;cases h0
  ·have:=a0c' rd;have:=a0c' re;subst v w
   obtain⟨t,rfl⟩:=ru;obtain⟨t',rfl⟩:=rz
   cases h
   exact fun prog w E Q hq=>(PyProof.Rows.lt_int hq:wpAny (model prog w) A (compareOp .Lt (.int _ t) (.int _ t')) Q E s)
  ·rename_i n' ds es heq
   cases heq
   obtain⟨a,vs,rfl,h1,r1⟩:=a0s' rd
   obtain⟨b,ws,rfl,h2,r2⟩:=a0s' re
   cases ru;cases rz
   obtain⟨us,q1,p1,_⟩:=I.tuple h1
   obtain⟨zs,q2,p2,_⟩:=I.tuple h2
   exact LtAt.tuples p1 p2 (by omega) (lex ds es vs ws us zs r1 q1 r2 q2 h)
  ·cases h
def deep:Nat:=40
def isNon:D→Bool
 | .non=>true
 |_=>false
def boolR (o:Option Bool)(S:Store):Res D:=match o with
 |some k=>.ok (.bl k) S
 |none=>.fail
def anyO (l:List (Option Bool)):Option Bool:=(allO (l.map fun o=>o.map not)).map not
def inD (d e:D)(S:Store):Option Bool:=match seqOf S e with
 |some xs=>anyO (xs.map fun y=>eqF S deep y d)
 |none=>none
def leD (d e:D)(S:Store):Res D:=match d,e with
 | .int i,.int j=>.ok (.bl (decide (i≤j))) S
 | .tup a,.tup b=>boolR (leI a b) S
 |_,_=>.fail
def gtD (d e:D)(S:Store):Res D:=match d,e with
 | .int i,.int j=>.ok (.bl (decide (j<i))) S
 |_,_=>.fail
def geD (d e:D)(S:Store):Res D:=match d,e with
 | .int i,.int j=>.ok (.bl (decide (j≤i))) S
 |_,_=>.fail
def isD (d e:D)(S:Store):Res D:=match e with
 | .non=>.ok (.bl (isNon d)) S
 |_=>.fail
def b3T' (d e:D)(S:Store):Res D:=match e with
 | .non=>.ok (.bl (!isNon d)) S
 |_=>.fail
def cmpD (op:CmpOp)(d e:D)(S:Store):Res D:=match op with
 | .Eq=>boolR (eqF S deep d e) S
 | .NotEq=>boolR ((eqF S deep d e).map not) S
 | .Lt=>boolR (ltF S deep d e) S
 | .LtE=>leD d e S
 | .Gt=>gtD d e S
 | .GtE=>geD d e S
 | .In=>boolR (inD d e S) S
 | .NotIn=>boolR ((inD d e S).map not) S
 | .Is=>isD d e S
 | .IsNot=>b3T' d e S
theorem b2T' {K:PySem.W.Frag}{mg:GS}{d:D}{v:V}(r:Rep K mg μ H d v):decide (v=.non)=isNon d:=by
 cases d with
 |non=>cases a3Z' r;rfl
 |bl b=>cases a6o' r;rfl
 |int b=>cases a0c' r;rfl
 |str b=>cases a3r' r;rfl
 |tup b=>obtain⟨a,vs,rfl,_⟩:=a0s' r;rfl
 |lst b=>unfold Rep at r;obtain⟨a,vs,rfl,_⟩:=r;rfl
 |ref b=>unfold Rep at r;obtain⟨a,rfl,_⟩:=r;rfl
 |scr b=>unfold Rep at r;obtain⟨a,vs,rfl,_⟩:=r;rfl
 |fn b=>unfold Rep at r;obtain⟨a,rfl,_⟩:=r;rfl
 |dct=>unfold Rep at r;obtain⟨a,rfl,_⟩:=r;rfl
 |ty n=>unfold Rep at r;cases r;rfl
theorem a1h' {K:PySem.W.Frag}{mg:GS}{Q:VK}{o:Option Bool}(w:Want K mg μ H Q (boolR o S))(sk:SOk K mg μ S H):∃k,o=some k∧Q (.bl k) H:=by
 cases o with
 |none=>exact w.elim
 |some k=>exact⟨k,rfl,w.now sk repBl⟩
theorem b1I' {l:List (Option Bool)}{k:Bool}(h:anyO l=some k):(∀o∈l,o.isSome=true)∧k=l.any (fun o=>o==some true):=by
 unfold anyO at h
 obtain⟨k1,e1,e2⟩:=Option.map_eq_some_iff.mp h
 subst e2
 clear h
 induction l generalizing k1 with
 |nil=>cases e1;exact⟨by simp,rfl⟩
 |cons o r ih=>
  rw[List.map_cons]at e1
  unfold allO at e1
  split at e1
  ·rename_i b c e3 e4
   cases e1
   obtain⟨h1,h2⟩:=ih c e4
   obtain⟨b',rfl,e5⟩:=Option.map_eq_some_iff.mp e3
   subst e5
   refine⟨fun o ho=> ?_,?_⟩
   ·rcases List.mem_cons.mp ho with rfl|ho
    ·rfl
    ·exact h1 o ho
   ·rw[List.any_cons,←h2]
    cases b'<;>cases c<;>rfl
  ·cases e1
theorem in_at (I:Inv X pins σ H s)(sk:SOk X.K ⟨X.mg,F⟩ μ S H){A:Around}(hu:A.units+64<cLine){d e:D}{v w:V}{u z:Value}{k:Bool}(rd:Rep X.K ⟨X.mg,F⟩ μ H d v)(ru:RelV v u)(re:Rep X.K ⟨X.mg,F⟩ μ H e w)(rz:RelV w z)
  (h:inD d e S=some k):∃(a:Addr) (its:List Value) (f:Value→Bool),z=.ref a∧(s.heap.IsList a its.toArray∨s.heap.IsTuple a its.toArray)∧(∀y∈its.toArray,EqAt A.in1 s y u (f y))∧its.toArray.any f=k:=by
 unfold inD at h
 split at h
 ·rename_i xs e1
  obtain⟨a,vs,rfl,hq,r⟩:=a3Y' sk re e1
  cases rz
  obtain⟨its,q,hp⟩:∃its,Vals vs its∧(s.heap.IsList a its.toArray∨s.heap.IsTuple a its.toArray):=by
   rcases hq with hq|hq
   ·obtain⟨its,q,p,_⟩:=I.list hq;exact⟨its,q,.inl p.isList⟩
   ·obtain⟨its,q,p,_⟩:=I.tuple hq;exact⟨its,q,.inr p⟩
  have hin:A.in1.units=A.units+1:=rfl
  have hd:deep=40:=rfl
  obtain⟨h1,h2⟩:=b1I' h
  classical
  have at_:∀(j:Nat) (x:D) (y:Value),xs[j]? =some x→its[j]? =some y→∀b,eqF S deep x d=some b→EqAt A.in1 s y u b:=fun j x y hx hy b hb=>by
   obtain⟨v',h3,h4⟩:=r.get hx
   obtain⟨y',h5,h6⟩:=q.get h3
   rw[hy]at h5;cases h5
   exact(rcF I sk deep A.in1 (by omega) x d v' v _ u b h4 h6 rd ru hb).2.2
  have len:xs.length=its.length:=r.length.trans q.length
  refine⟨a,its,fun y=>decide (∃(j:Nat) (x:D),its[j]? =some y∧xs[j]? =some x∧eqF S deep x d=some true),rfl,hp,fun y hy=> ?_,?_⟩
  ·obtain⟨j,hj,ej⟩:=List.mem_iff_getElem.mp (show y∈its by simpa using hy)
   have hy':its[j]? =some y:=by rw[List.getElem?_eq_getElem hj,ej]
   have hx':xs[j]? =some (xs[j]'(by omega)):=List.getElem?_eq_getElem _
   by_cases hc:∃(j:Nat) (x:D),its[j]? =some y∧xs[j]? =some x∧eqF S deep x d=some true
   ·obtain⟨j',x',c1,c2,c3⟩:=id hc
    show EqAt A.in1 s y u (decide (∃(j:Nat) (x:D),its[j]? =some y∧xs[j]? =some x∧eqF S deep x d=some true))
    rw[decide_eq_true hc]
    exact at_ j' x' y c2 c1 true c3
   ·show EqAt A.in1 s y u (decide (∃(j:Nat) (x:D),its[j]? =some y∧xs[j]? =some x∧eqF S deep x d=some true))
    rw[decide_eq_false hc]
    obtain⟨b,hb⟩:=Option.isSome_iff_exists.mp (h1 (eqF S deep (xs[j]'(by omega)) d) (List.mem_map.mpr ⟨_,List.mem_of_getElem? hx',rfl⟩))
    cases b with
    |false=>exact at_ j _ y hx' hy' false hb
    |true=>exact absurd ⟨j,_,hy',hx',hb⟩ hc
  ·rw[h2]
   apply Bool.eq_iff_iff.mpr
   rw[List.any_toArray,List.any_eq_true,List.any_eq_true]
   constructor
   ·rintro⟨y,hy,hd⟩
    obtain⟨j,x,c1,c2,c3⟩:=of_decide_eq_true hd
    exact⟨some true,List.mem_map.mpr ⟨x,List.mem_of_getElem? c2,c3⟩,rfl⟩
   ·rintro⟨o,ho,hd⟩
    obtain⟨x,hx,rfl⟩:=List.mem_map.mp ho
    obtain⟨j,hj,ej⟩:=List.mem_iff_getElem.mp hx
    have hx':xs[j]? =some x:=by rw[List.getElem?_eq_getElem hj,ej]
    have hy':its[j]? =some (its[j]'(by omega)):=List.getElem?_eq_getElem _
    exact⟨_,List.mem_of_getElem? hy',decide_eq_true ⟨j,x,hy',hx',by simpa using hd⟩⟩
 ·cases h
theorem cmp_D (op:CmpOp)(hu:X.A.units+64<cLine):OpR X (compareOp op) (rD X.K X.mg (cmpD op)):=by
 intro pins s σ H x y v u Q I rx ry h
 obtain⟨F,μ,S,d,e,sk,rd,re,w⟩:=h
 have hd:deep=40:=rfl
 have fin:∀{k:Bool},Q (.bl k) H→EP X pins σ Q (.bool k) s:=fun{k} q=>⟨.bl k,H,I,rfl,q⟩
 cases op with
 |Eq=>
  obtain⟨k,e1,q⟩:=a1h' (o:=eqF S deep d e) w sk
  exact(rcF I sk deep X.A (by omega) d e x y v u k rd rx re ry e1).1 X.prog X.w _ _ (fin q)
 |NotEq=>
  obtain⟨k,e1,q⟩:=a1h' (o:=(eqF S deep d e).map not) w sk
  obtain⟨k',e2,rfl⟩:=Option.map_eq_some_iff.mp e1
  exact(rcF I sk deep X.A (by omega) d e x y v u k' rd rx re ry e2).2.1 X.prog X.w _ _ (fin q)
 |Lt=>
  obtain⟨k,e1,q⟩:=a1h' (o:=ltF S deep d e) w sk
  exact ltF_at I sk deep X.A (by omega) d e x y v u k rd rx re ry e1 X.prog X.w _ _ (fin q)
 |LtE=>
  replace w:Want X.K ⟨X.mg,F⟩ μ H Q (leD d e S):=w
  unfold leD at w
  split at w
  ·have:=a0c' rd;have:=a0c' re;subst x y
   exact op_le pins s σ H _ _ v u Q I rx ry ⟨_,_,rfl,rfl,w.now sk repBl⟩
  ·rename_i as bs
   obtain⟨k,e1,q⟩:=a1h' (o:=leI as bs) w sk
   obtain⟨a,vs,rfl,h1,r1⟩:=a0s' rd
   obtain⟨b,ws,rfl,h2,r2⟩:=a0s' re
   cases rx;cases ry
   obtain⟨us,q1,p1,_⟩:=I.tuple h1
   obtain⟨zs,q2,p2,_⟩:=I.tuple h2
   exact b1H' p1 p2 (by omega) (leI_at as bs vs ws us zs k r1 q1 r2 q2 e1) X.prog X.w _ _ (fin q)
  ·exact w.elim
 |Gt=>
  replace w:Want X.K ⟨X.mg,F⟩ μ H Q (gtD d e S):=w
  unfold gtD at w
  split at w
  ·have:=a0c' rd;have:=a0c' re;subst x y
   exact op_gt pins s σ H _ _ v u Q I rx ry ⟨_,_,rfl,rfl,w.now sk repBl⟩
  ·exact w.elim
 |GtE=>
  replace w:Want X.K ⟨X.mg,F⟩ μ H Q (geD d e S):=w
  unfold geD at w
  split at w
  ·have:=a0c' rd;have:=a0c' re;subst x y
   exact op_ge pins s σ H _ _ v u Q I rx ry ⟨_,_,rfl,rfl,w.now sk repBl⟩
  ·exact w.elim
 |In=>
  obtain⟨k,e1,q⟩:=a1h' (o:=inD d e S) w sk
  obtain⟨a,its,f,rfl,hp,hf,rfl⟩:=in_at I sk (A:=X.A) hu rd rx re ry e1
  rcases hp with hp|hp
  ·exact in_listAt f hp hf (fin q)
  ·exact in_tupleAt f hp hf (fin q)
 |NotIn=>
  obtain⟨k,e1,q⟩:=a1h' (o:=(inD d e S).map not) w sk
  obtain⟨k',e2,rfl⟩:=Option.map_eq_some_iff.mp e1
  obtain⟨a,its,f,rfl,hp,hf,rfl⟩:=in_at I sk (A:=X.A) hu rd rx re ry e2
  rcases hp with hp|hp
  ·exact notIn_listAt f hp hf (fin q)
  ·exact notIn_tupleAt f hp hf (fin q)
 |Is=>
  replace w:Want X.K ⟨X.mg,F⟩ μ H Q (isD d e S):=w
  unfold isD at w
  split at w
  ·cases a3Z' re
   exact op_isN pins s σ H _ _ v u Q I rx ry ⟨rfl,by rw[b2T' rd];exact w.now sk repBl⟩
  ·exact w.elim
 |IsNot=>
  replace w:Want X.K ⟨X.mg,F⟩ μ H Q (b3T' d e S):=w
  unfold b3T' at w
  split at w
  ·cases a3Z' re
   exact op_notN pins s σ H _ _ v u Q I rx ry ⟨rfl,by rw[b2T' rd];exact w.now sk repBl⟩
  ·exact w.elim
end
end Py
end
section
namespace Py
open PySem PySem.Spec PyProof.Rows L2
def rC (K:PySem.W.Frag)(mg:Str→Option Value)(g:List D→Store→Res D):List V→Hp→VK→Prop:=fun xs H Q=>∃F μ S ds,SOk K ⟨mg,F⟩ μ S H∧RepL K ⟨mg,F⟩ μ H ds xs∧Want K ⟨mg,F⟩ μ H Q (g ds S)
theorem RepL.one {K:PySem.W.Frag}{mg:GS}{μ:List Addr}{H:Hp}{d:D}{vs:List V}(r:RepL K mg μ H [d] vs):∃v,vs=[v]∧Rep K mg μ H d v:=by
 obtain⟨v,ws,rfl,h,t⟩:=r.uncons
 unfold RepL at t;subst t
 exact⟨v,rfl,h⟩
theorem RepL.two {K:PySem.W.Frag}{mg:GS}{μ:List Addr}{H:Hp}{d e:D}{vs:List V}(r:RepL K mg μ H [d,e] vs):∃v w,vs=[v,w]∧Rep K mg μ H d v∧Rep K mg μ H e w:=by
 obtain⟨v,ws,rfl,h,t⟩:=r.uncons
 obtain⟨w,rfl,h2⟩:=t.one
 exact⟨v,w,rfl,h,h2⟩
theorem atI_rep {K:PySem.W.Frag}{mg:GS}{μ:List Addr}{H:Hp}{ds:List D}{vs:List V}{i:Int}{d:D}(r:RepL K mg μ H ds vs)(h:atI ds i=some d):∃v,atI vs i=some v∧Rep K mg μ H d v:=by
 unfold atI at h⊢
 rw[←r.length]
 cases e:ixN ds.length i with
 |none=>rw[e]at h;cases h
 |some j=>
  rw[e]at h
  exact r.get h
def idxD (d e:D)(S:Store):Res D:=match seqOf S d,e with
 |some xs,.int i=>match atI xs i with
  |some y=>.ok y S
  |none=>.fail
 |_,_=>.fail
section
variable {X:Cx}
theorem ix_D:IxR X (rD X.K X.mg idxD):=by
 intro value slice pins s σ H x y v u Q I rx ry h hsub
 obtain⟨F,μ,S,d,e,sk,rd,re,w⟩:=h
 unfold idxD at w
 split at w
 ·rename_i xs i e1
  split at w
  ·rename_i y' e2
   obtain⟨a,vs,rfl,hq,r⟩:=a3Y' sk rd e1
   cases a0c' re
   obtain⟨z,h1,h2⟩:=atI_rep r e2
   rcases hq with hq|hq
   ·exact ix_list value slice pins s σ H _ _ v u Q I rx ry ⟨a,vs,i,z,rfl,rfl,hq,h1,w.now sk h2⟩ hsub
   ·exact ix_tup value slice pins s σ H _ _ v u Q I rx ry ⟨a,vs,i,z,rfl,rfl,hq,h1,w.now sk h2⟩ hsub
  ·exact w.elim
 ·exact w.elim
def lenD (ds:List D)(S:Store):Res D:=match ds with
 | [.str x]=>if x.length≤big then .ok (.int x.length) S else .fail
 | [d]=>match seqOf S d with
  |some xs=>.ok (.int xs.length) S
  |none=>.fail
 |_=>.fail
theorem len_D:CallR X (.builtin "len") (rC X.K X.mg lenD):=by
 intro pins s σ H xs us Q I r h
 obtain⟨F,μ,S,ds,sk,rd,w⟩:=h
 have hb:=a8R'
 unfold lenD at w
 split at w
 ·split at w
  ·obtain⟨v,rfl,hv⟩:=rd.one
   cases a3r' hv
   exact a7q' pins s σ H _ us Q I r ⟨_,rfl,by omega,w.now sk a0T'⟩
  ·exact w.elim
 ·split at w
  ·rename_i xs' e
   obtain⟨v,rfl,hv⟩:=rd.one
   obtain⟨a,vs,rfl,hq,r2⟩:=a3Y' sk hv e
   refine a7p' pins s σ H _ us Q I r ⟨a,vs,rfl,hq,?_⟩
   rw[←r2.length]
   exact w.now sk a0T'
  ·exact w.elim
 ·exact w.elim
def a9S' (ds:List D)(S:Store):Res D:=match ds with
 | [.tup xs]=>.ok (.tup xs) S
 | [d]=>match seqOf S d with
  |some xs=>.ok (.tup xs) S
  |none=>.fail
 |_=>.fail
theorem a7t' {K:PySem.W.Frag}{mg:GS}{μ:List Addr}{H:Hp}{S:Store}{d:D}{v:V}{xs:List D}(s:SOk K mg μ S H)(r:Rep K mg μ H d v)(e:seqOf S d=some xs)(hd:∀ys,d≠.tup ys):∃a vs,v=.ref a∧SqL K H a vs∧RepL K mg μ H xs vs:=by
 cases d with
 |lst ys=>
  obtain⟨a,vs,e1,h,q⟩:=a0M' s r (show a3X' S (.lst ys)=some xs from e)
  exact⟨a,vs,e1,.of h,q⟩
 |ref n=>
  obtain⟨a,vs,e1,h,q⟩:=a0M' s r (show a3X' S (.ref n)=some xs from e)
  exact⟨a,vs,e1,.of h,q⟩
 |tup ys=>exact absurd rfl (hd ys)
 |scr ys=>
  unfold seqOf at e;cases e
  unfold Rep at r
  obtain⟨a,vs,e,h,q⟩:=r
  exact⟨a,vs,e,h.sq,q⟩
 |_=>cases e
theorem tuple_D:CallR X (.type "tuple") (rC X.K X.mg a9S'):=by
 intro pins s σ H xs us Q I r h
 obtain⟨F,μ,S,ds,sk,rd,w⟩:=h
 unfold a9S' at w
 split at w
 ·obtain⟨v,rfl,hv⟩:=rd.one
  obtain⟨a,vs,rfl,hq,r2⟩:=a0s' hv
  exact a3q' pins s σ H _ us Q I r ⟨a,vs,rfl,.inr ⟨hq,w.now sk hv⟩⟩
 ·rename_i d hd
  split at w
  ·rename_i xs' e
   obtain⟨v,rfl,hv⟩:=rd.one
   obtain⟨a,vs,rfl,hq,r2⟩:=a7t' sk hv e (fun ys z=>hd ys (by rw[z]))
   exact a3q' pins s σ H _ us Q I r ⟨a,vs,rfl,.inl ⟨hq,fun p hp=>w.tup sk r2 p hp⟩⟩
  ·exact w.elim
 ·exact w.elim
def listD (box:Bool)(ds:List D)(S:Store):Res D:=match ds with
 | [d]=>match seqOf S d with
  |some xs=>if box then .ok (.ref S.length) (S++[xs])else .ok (.lst xs) S
  |none=>.fail
 |_=>.fail
theorem list_D (box:Bool):CallR X (.type "list") (rC X.K X.mg (listD box)):=by
 intro pins s σ H xs us Q I r h
 obtain⟨F,μ,S,ds,sk,rd,w⟩:=h
 unfold listD at w
 split at w
 ·split at w
  ·rename_i xs' e
   obtain⟨v,rfl,hv⟩:=rd.one
   obtain⟨a,vs,rfl,hq,r2⟩:=a3Y' sk hv e
   refine a7r' pins s σ H _ us Q I r ⟨a,vs,rfl,hq,fun p hp=> ?_⟩
   split at w
   ·exact w.box sk r2 p hp
   ·exact w.lst sk r2 p hp
  ·exact w.elim
 ·exact w.elim
def intD (ds:List D)(S:Store):Res D:=match ds with
 | [.int i]=>.ok (.int i) S
 | [.bl b]=>.ok (.int (if b then 1 else 0)) S
 |_=>.fail
theorem int_D:CallR X (.type "int") (rC X.K X.mg intD):=by
 intro pins s σ H xs us Q I r h
 obtain⟨F,μ,S,ds,sk,rd,w⟩:=h
 unfold intD at w
 split at w
 ·obtain⟨v,rfl,hv⟩:=rd.one
  cases a0c' hv
  exact a7T' pins s σ H _ us Q I r (.inl ⟨_,rfl,w.now sk a0T'⟩)
 ·obtain⟨v,rfl,hv⟩:=rd.one
  cases a6o' hv
  exact a7T' pins s σ H _ us Q I r (.inr ⟨_,rfl,w.now sk a0T'⟩)
 ·exact w.elim
def maxD (ds:List D)(S:Store):Res D:=match ds with
 | [.int i,.int j]=>.ok (.int (if j>i then j else i)) S
 |_=>.fail
theorem max_D (hc:X.calm=true):CallR X (.builtin "max") (rC X.K X.mg maxD):=by
 intro pins s σ H xs us Q I r h
 obtain⟨F,μ,S,ds,sk,rd,w⟩:=h
 unfold maxD at w
 split at w
 ·obtain⟨v,w',rfl,hv,hw⟩:=rd.two
  cases a0c' hv;cases a0c' hw
  exact b1C' hc pins s σ H _ us Q I r ⟨_,_,rfl,w.now sk a0T'⟩
 ·exact w.elim
def truD (S:Store):D→Option Bool
 | .non=>some false
 | .bl b=>some b
 | .int i=>some (i !=0)
 | .str x=>if x.length≤big then some ((x.length:Int) !=0)else none
 |d=>(seqOf S d).map fun xs=> !xs.isEmpty
theorem tru_D {K:PySem.W.Frag}{mg:GS}{μ:List Addr}{H:Hp}{S:Store}{d:D}{v:V}{k:Bool}(sk:SOk K mg μ S H)(r:Rep K mg μ H d v)(e:truD S d=some k):TruV K v H k:=by
 have hb:=a8R'
 have seq:∀(xs:List D),seqOf S d=some xs→k= !xs.isEmpty→TruV K v H k:=fun xs e1 e2=>by
  obtain⟨a,vs,rfl,hq,q⟩:=a3Y' sk r e1
  have hl:=q.length
  have e3:xs.isEmpty=vs.isEmpty:=by cases xs<;>cases vs<;>simp at hl⊢
  rw[e3]at e2
  rcases hq with hq|hq
  ·exact .inl ⟨vs,hq,e2⟩
  ·exact .inr (.inl ⟨vs,hq,e2⟩)
 have sq2:(seqOf S d).map (fun xs=> !xs.isEmpty)=some k→TruV K v H k:=fun h=>by
  obtain⟨xs,e1,e2⟩:=Option.map_eq_some_iff.mp h
  exact seq xs e1 e2.symm
 cases d with
 |non=>cases a3Z' r;cases e;rfl
 |bl b=>cases a6o' r;cases e;rfl
 |int b=>cases a0c' r;cases e;rfl
 |str b=>
  cases a3r' r
  replace e:(if b.length≤big then some ((b.length:Int) !=0)else none)=some k:=e
  split at e
  ·cases e;exact⟨by omega,rfl⟩
  ·cases e
 |tup b=>exact sq2 e
 |lst b=>exact sq2 e
 |ref b=>exact sq2 e
 |scr b=>exact sq2 e
 |fn b=>exact sq2 e
 |dct=>exact sq2 e
 |ty b=>exact sq2 e
def cutL (xs:List D)(lo hi:Option Int):List D:=(xs.drop (HT.sIx xs.length 0 lo)).take (HT.sIx xs.length xs.length hi-HT.sIx xs.length 0 lo)
theorem a9T' {K:PySem.W.Frag}{mg:GS}{μ:List Addr}{H:Hp}{ds:List D}{vs:List V}{lo hi:Option Int}(r:RepL K mg μ H ds vs):RepL K mg μ H (cutL ds lo hi) (cutV vs lo hi):=by
 unfold cutL cutV
 rw[r.length]
 exact(r.drop _).take _
def slD (d:D)(lo hi:Option Int)(S:Store):Res D:=match d with
 | .tup xs=>.ok (.tup (cutL xs lo hi)) S
 |d=>match seqOf S d with
  |some xs=>.ok (.lst (cutL xs lo hi)) S
  |none=>.fail
def rSl (K:PySem.W.Frag)(mg:Str→Option Value):V→Option Int→Option Int→Hp→VK→Prop:=fun x lo hi H Q=>∃F μ S d,SOk K ⟨mg,F⟩ μ S H∧Rep K ⟨mg,F⟩ μ H d x∧Want K ⟨mg,F⟩ μ H Q (slD d lo hi S)
theorem a2G' {prog:Program}{w:World}{A:Around}{E:Value→Shared→Prop}{s:Shared}{t sl:Addr}{items:Array Value}{vl vu:Value}{lo hi:Option Int}{Q:Value→Shared→Prop}(ht:IsTup s.heap t items)(hs:s.heap.IsSliceOf sl vl vu .none)(pl:IsPart vl lo)(pu:IsPart vu hi)
  (hw:HT.sIx items.size 0 lo=0∧HT.sIx items.size items.size hi=items.size) (h:Q (.ref t) s):wpAny (model prog w) A (getItem (.ref t) (.ref sl)) Q E s:=by
 obtain⟨os,hos,hcs,hds⟩:=id hs
 have hTs:s.TypeIs (.ref sl) "slice":=⟨os,hos,hcs⟩
 unfold getItem
 try with_reducible refine wpAny_holding ?_
 first|refine wpAny_bind (wpAny_pure ?_)|skip
 refine wpAny_bind (wpAny_sequenceKey ht.typeIs (by decide) ?_)
 refine wpAny_bind (wpAny_callSpecial?_slot (name:=Str.ofString "__getitem__") ht.typeIs PyProof.Rows.slot_tuple_getitem
  (wpAny_call_entry PyProof.Rows.slot_tuple_getitem ht.typeIs entry_tuple_getitem ?_ (args_tuple_getitem _ _)))
 show wpAny _ _ (Builtin.Tuple.tupleItemsOf (.ref t)>>=_) _ _ s
 refine wpAny_bind (tupleItemsOf_ ht ?_)
 refine wpAny_bind (wpAny_typeOf hTs ?_)
 rw[if_pos (by decide)]
 refine wpAny_bind (HT.a1N' hs pl pu ?_)
 have hyes:((((HT.sIx items.size 0 lo:Nat):Int)==0&&(1:Int)==1&&(HT.sIx items.size items.size hi-HT.sIx items.size 0 lo)==items.size)=true):=by
  rw[hw.1,hw.2];simp
 show wpAny _ _ (if(((HT.sIx items.size 0 lo:Nat):Int)==0&&(1:Int)==1&&(HT.sIx items.size items.size hi-HT.sIx items.size 0 lo)==items.size)=true then _ else _) _ _ s
 rw[if_pos hyes]
 refine wpAny_bind (m:=Builtin.Tuple.tupleIsExact (.ref t)) ?_
 unfold Builtin.Tuple.tupleIsExact
 refine wpAny_bind (wpAny_typeOf ht.typeIs (wpAny_pure ?_))
 rw[if_pos (by decide)]
 exact wpAny_bind (wpAny_rule (wpAny_pure ⟨_,rfl,wpAny_pure h⟩))
theorem sl_D:SlR X (rSl X.K X.mg):=by
 intro pins s σ H x v vl vu lo hi sl Q I rx hs pl pu h
 obtain⟨F,μ,S,d,sk,rd,w⟩:=h
 unfold slD at w
 split at w
 ·rename_i xs
  obtain⟨a,vs,rfl,hq,r⟩:=a0s' rd
  have hl:=r.length
  by_cases hc:HT.sIx vs.length 0 lo=0∧HT.sIx vs.length vs.length hi=vs.length
  ·cases rx
   obtain⟨its,rv,ht,hz⟩:=I.tuple hq
   have hlen:its.toArray.size=vs.length:=by rw[List.size_toArray];exact rv.length.symm
   refine⟨"tuple",_,PyProof.Rows.slot_tuple_getitem.lookup,ht.typeIs,?_⟩
   refine a2G' ht hs pl pu (by rw[hlen];exact hc) ⟨.ref a,H,I,rfl,?_⟩
   have e:cutL xs lo hi=xs:=by
    unfold cutL
    rw[hl,hc.1,hc.2]
    simp[←hl]
   rw[e]at w
   exact w.now sk rd
  ·exact sl_tup pins s σ H _ v vl vu lo hi sl Q I rx hs pl pu ⟨a,vs,rfl,hq,hc,fun p hp=>w.tup sk (a9T' r) p hp⟩
 ·rename_i d hd
  split at w
  ·rename_i xs e
   obtain⟨a,vs,rfl,hq,r⟩:=a7t' sk rd e (fun ys z=>hd ys z)
   exact sl_list pins s σ H _ v vl vu lo hi sl Q I rx hs pl pu ⟨a,vs,rfl,hq,fun p hp=>w.lst sk (a9T' r) p hp⟩
  ·exact w.elim
def tyName (S:Store):D→Option String
 | .non=>some "NoneType"
 | .bl _=>some "bool"
 | .int _=>some "int"
 | .str _=>some "str"
 | .tup _=>some "tuple"
 | .lst _=>some "list"
 | .ref n=>(S[n]?).map fun _=>"list"
 | .scr _=>some "list"
 | .dct=>some "dict"
 |_=>none
def subTy (t c:String):Option Bool:=
 if ["NoneType","bool","int","str","tuple","list","dict"].contains t&&["bool","int","str","tuple","list","dict"].contains c then some (t==c||(t=="bool"&&c=="int"))else none
theorem kit_sub {K:PySem.W.Frag}{t c:String}{b:Bool}(h:subTy t c=some b):PySem.W.kitOne K (.type t) (.type c)=some b:=by
 unfold subTy at h
 split at h
 ·rename_i hc
  rw[Bool.and_eq_true]at hc
  simp at hc
  cases h
  obtain⟨h1,h2⟩:=hc
  rcases h1 with rfl|rfl|rfl|rfl|rfl|rfl|rfl<;>rcases h2 with rfl|rfl|rfl|rfl|rfl|rfl<;>first|rfl|decide+kernel
 ·cases h
def a3s' (ds:List D)(S:Store):Res D:=match ds with
 | [d,.ty c]=>match tyName S d with
  |some t=>boolR (subTy t c) S
  |none=>.fail
 |_=>.fail
theorem b3U':CallR X (.builtin "isinstance") (rC X.K X.mg a3s'):=by
 intro pins s σ H xs us Q I r h
 obtain⟨F,μ,S,ds,sk,rd,w⟩:=h
 unfold a3s' at w
 split at w
 ·rename_i d c
  split at w
  ·rename_i t et
   obtain⟨b,eb,q⟩:=a1h' w sk
   obtain⟨v,z,rfl,hv,hz⟩:=rd.two
   have hz':z=.ty c:=by unfold Rep at hz;exact hz
   subst hz'
   obtain⟨u,y,rfl,ru,ry⟩:=r.two
   cases ry
   have e:=kit_sub (K:=X.K) eb
   have fin:∀tk,EP X pins σ Q (.bool b) {s with toks:=tk}:=fun tk=>⟨.bl b,H,I.tok _,rfl,q⟩
   have lst:∀a vs,v=.ref a→SqL X.K H a vs→t="list"→wpAny (model X.prog X.w) X.A (call (.builtin "isinstance") [u,.type c]) (EP X pins σ Q) X.xe s:=fun a vs ev hq et=>by
    subst ev;subst et;cases ru
    obtain⟨its,rv,pl,_⟩:=I.list hq
    obtain⟨o,h1,h2,_⟩:=pl.isList
    exact PySem.W.kia_one PySem.W.kitx_list I.kIn ⟨o,h1,h2⟩ e (fun z=>nomatch z) fin
   cases d with
   |non=>cases a3Z' hv;cases ru;cases et;exact PySem.W.kia_one PySem.W.kitx_none I.kIn True.intro e (fun z=>nomatch z) fin
   |bl b=>cases a6o' hv;cases ru;cases et;exact PySem.W.kia_one PySem.W.kitx_bool I.kIn True.intro e (fun z=>nomatch z) fin
   |int b=>cases a0c' hv;obtain⟨t,rfl⟩:=ru;cases et;exact PySem.W.kia_one PySem.W.kitx_int I.kIn True.intro e (fun z=>nomatch z) fin
   |str b=>cases a3r' hv;obtain⟨t,rfl⟩:=ru;cases et;exact PySem.W.kia_one PySem.W.kitx_str I.kIn True.intro e (fun z=>nomatch z) fin
   |tup b=>
    obtain⟨a,vs,rfl,hq,_⟩:=a0s' hv
    cases ru;cases et
    obtain⟨its,rv,p,_⟩:=I.tuple hq
    obtain⟨o,h1,h2,_⟩:=p
    exact PySem.W.kia_one PySem.W.kitx_tuple I.kIn ⟨o,h1,h2⟩ e (fun z=>nomatch z) fin
   |lst b=>
    obtain⟨a,vs,rfl,hq,_⟩:=a0M' sk hv rfl
    cases et
    exact lst a vs rfl (.of hq) rfl
   |ref n=>
    replace et:(S[n]?).map (fun _=>"list")=some t:=et
    obtain⟨xs,e1,e2⟩:=Option.map_eq_some_iff.mp et
    obtain⟨a,vs,rfl,hq,_⟩:=a0M' sk hv e1
    exact lst a vs rfl (.of hq) e2.symm
   |scr b=>
    unfold Rep at hv
    obtain⟨a,vs,rfl,hq,_⟩:=hv
    cases et
    exact lst a vs rfl hq.sq rfl
   |dct=>
    unfold Rep at hv
    obtain⟨a,rfl,ea⟩:=hv
    cases ru;cases et
    obtain⟨_,_,vs,_,p⟩:=(show ObjOk X.prog X.w H s.heap a (.dK [])from I.hok a _ ea)
    obtain⟨o,es,ep,h1,h2,_⟩:=p
    exact PySem.W.kia_one PySem.W.kitx_dict I.kIn ⟨o,h1,h2.1⟩ e (fun z=>nomatch z) fin
   |fn b=>cases et
   |ty b=>cases et
  ·exact w.elim
 ·exact w.elim
end
end Py
end
section
namespace Py
open PySem PySem.Spec PyProof.Rows L2
def asB:D→Option Bool
 | .bl b=>some b
 |_=>none
def allD (ds:List D)(S:Store):Res D:=match ds with
 | [d]=>match seqOf S d with
  |some xs=>boolR (allO (xs.map asB)) S
  |none=>.fail
 |_=>.fail
section
variable {X:Cx}
theorem a9U' {K:PySem.W.Frag}{mg:GS}{μ:List Addr}{H:Hp}{xs:List D}{vs:List V}{its:List Value}(r:RepL K mg μ H xs vs)(q:Vals vs its)(h:∀(j:Nat) o,(xs.map asB)[j]? =some o→o=some (eJ (xs.map asB) j)):
  ∀(i:Nat) v,its.toArray[i]? =some v→v=.bool (eJ (xs.map asB) i):=fun i v hv=>by
 have l1:=r.length;have l2:=q.length
 have hv':its[i]? =some v:=by simpa using hv
 have hi:i<its.length:=(List.getElem?_eq_some_iff.mp hv').1
 have hx:xs[i]? =some (xs[i]'(by omega)):=List.getElem?_eq_getElem _
 obtain⟨w,h1,h2⟩:=r.get hx
 obtain⟨u,h3,h4⟩:=q.get h1
 rw[hv']at h3;cases h3
 have h5:=h i (asB (xs[i]'(by omega))) (by rw[List.getElem?_map,hx];rfl)
 revert h2 h5
 generalize xs[i]'(by omega)=d
 intro h2 h5
 cases d with
 |bl b=>
  cases a6o' h2
  have:b=eJ (xs.map asB) i:=by simpa[asB]using h5
  rw[←this];exact h4
 |_=>cases h5
theorem allany {pins:List (Addr×Obj)}{σ:L2.St}{H:Hp}{s:Shared}(hc:X.calm=true)(I:Inv X pins σ H s){μ:List Addr}{S:Store}{F:List Addr}(sk:SOk X.K ⟨X.mg,F⟩ μ S H){d:D}{v:V}{u:Value}{xs:List D}(rd:Rep X.K ⟨X.mg,F⟩ μ H d v)(ru:RelV v u)(e:seqOf S d=some xs)
  (h:∀(j:Nat) o,(xs.map asB)[j]? =some o→o=some (eJ (xs.map asB) j)) (b:Bool→Bool) {Q:VK} {fb:Nat→Bool} (q:Q (.bl (fb xs.length)) H):
  wpAny (model X.prog X.w) X.A.in1 (pyIter u) (fun it s₂=>∃I fp wr n P St,it=.ref I∧Walks X.prog X.w X.A.in1 I fp wr n P St∧St 0 s₂.heap∧TruthOf X.prog X.w X.A.in1 P (eJ (xs.map asB))∧
   ∀h' tk,(∀b o,b∉wr→s₂.heap.get? b=some o→h'.get? b=some o)→EP X pins σ Q (.bool (fb n)) {s₂ with heap:=h',toks:=tk}) X.xe s:=by
 obtain⟨a,vs,rfl,hq,r⟩:=a3Y' sk rd e
 cases ru
 have hh:X.A.in1.handled=none:=I.ok.hd hc
 rcases hq with hq|hq
 ·obtain⟨its,rv,p,hz⟩:=I.list hq
  have ba:=a9U' r rv h
  refine wpAny_pyIter_list p.isList ?_
  have hne:a≠s.heap.objs.size:=by obtain⟨o,ho,_⟩:=p.isList;exact Nat.ne_of_lt (Heap.lt_size ho)
  refine⟨_,_,_,_,_,_,rfl,Walks.list hh s.heap.objs.size a hne its.toArray,⟨⟨_,Heap.get?_push_size _ rfl,rfl,rfl⟩,Heap.IsList.push p.isList _⟩,?_,fun h' tk kp=> ?_⟩
  ·intro i v s' Q' E' hv hq'
   rw[ba i v hv]
   exact wpAny_truthy_bool hq'
  ·have hl:its.toArray.size=xs.length:=by rw[List.size_toArray,←rv.length,←r.length]
   rw[hl]
   refine⟨.bl _,H,I.kept (h':=h') (t':=tk) fun b o ho=>kp b o ?_ (Heap.get?_push_of_some _ ho),rfl,q⟩
   intro z
   have z':b=s.heap.objs.size:=by simpa using z
   exact absurd (Heap.lt_size ho) (by rw[z'];exact Nat.lt_irrefl _)
 ·obtain⟨its,rv,p,hz⟩:=I.tuple hq
  have ba:=a9U' r rv h
  refine wpAny_pyIter_tuple (show s.heap.IsTuple a its.toArray from p) ?_
  have hne:a≠s.heap.objs.size:=by obtain⟨o,ho,_⟩:=p;exact Nat.ne_of_lt (Heap.lt_size ho)
  refine⟨_,_,_,_,_,_,rfl,Walks.tuple hh s.heap.objs.size a hne its.toArray,⟨⟨_,Heap.get?_push_size _ rfl,rfl,rfl⟩,by obtain⟨o,ho,r⟩:=p;exact⟨o,Heap.get?_push_of_some _ ho,r⟩⟩,?_,fun h' tk kp=> ?_⟩
  ·intro i v s' Q' E' hv hq'
   rw[ba i v hv]
   exact wpAny_truthy_bool hq'
  ·have hl:its.toArray.size=xs.length:=by rw[List.size_toArray,←rv.length,←r.length]
   rw[hl]
   refine⟨.bl _,H,I.kept (h':=h') (t':=tk) fun b o ho=>kp b o ?_ (Heap.get?_push_of_some _ ho),rfl,q⟩
   intro z
   have z':b=s.heap.objs.size:=by simpa using z
   exact absurd (Heap.lt_size ho) (by rw[z'];exact Nat.lt_irrefl _)
theorem all_D (hc:X.calm=true):CallR X (.builtin "all") (rC X.K X.mg allD):=by
 intro pins s σ H xs us Q I r h
 obtain⟨F,μ,S,ds,sk,rd,w⟩:=h
 unfold allD at w
 split at w
 ·split at w
  ·rename_i d ys e
   obtain⟨k,e1,q⟩:=a1h' w sk
   obtain⟨v,rfl,hv⟩:=rd.one
   obtain⟨u,rfl,ru⟩:=r.one
   obtain⟨h1,h2⟩:=a3L' _ _ e1
   have hw:=allany hc I sk hv ru e h1 id (Q:=Q) (fb:=fun n=>(List.range n).all (eJ (ys.map asB))) (by rw[List.length_map]at h2;rw[←h2];exact q)
   exact call_all_walk (wpAny_mono hw (fun it s₂ ⟨I0,fp,wr,n,P,Sx,a1,a2,a3,a4,a5⟩=>⟨I0,fp,wr,n,P,Sx,_,a1,a2,a3,a4,a5⟩) fun _ _ z=>z)
  ·exact w.elim
 ·exact w.elim
def rM (K:PySem.W.Frag)(mg:Str→Option Value)(g:D→List D→Store→Res D):V→List V→Hp→VK→Prop:=fun x xs H Q=>∃F μ S d ds,SOk K ⟨mg,F⟩ μ S H∧Rep K ⟨mg,F⟩ μ H d x∧RepL K ⟨mg,F⟩ μ H ds xs∧Want K ⟨mg,F⟩ μ H Q (g d ds S)
theorem a4Z' {K:PySem.W.Frag}{mg:GS}{μ:List Addr}{H:Hp}{S:Store}{n:Nat}{v:V}{xs:List D}(s:SOk K mg μ S H)(r:Rep K mg μ H (.ref n) v)(e:S[n]? =some xs):∃a vs,v=.ref a∧μ[n]? =some a∧H a=some (.lst vs)∧RepL K mg μ H xs vs:=by
 unfold Rep at r
 obtain⟨a,rfl,h⟩:=r
 obtain⟨vs,h1,q⟩:=s.at_ n a xs h e
 exact⟨a,vs,rfl,h,h1,q⟩
def a2w' (d:D)(ds:List D)(S:Store):Res D:=match d,ds with
 | .ref n,[y]=>match S[n]? with
  |some xs=>if xs.length<big then .ok .non (S.set n (xs++[y]))else .fail
  |none=>.fail
 |_,_=>.fail
theorem b3V':MtR X "list.append" (rM X.K X.mg a2w'):=by
 intro pins s σ H x xs v us Q I rx rs h
 obtain⟨F,μ,S,d,ds,sk,rd,rds,w⟩:=h
 have hb:=a8R'
 unfold a2w' at w
 split at w
 ·split at w
  ·rename_i n y ys e
   split at w
   ·obtain⟨a,vs,rfl,hn,ha,r⟩:=a4Z' sk rd e
    obtain⟨z,rfl,hz⟩:=rds.one
    have hl:=r.length
    exact a7Z' pins s σ H _ _ v us Q I rx rs ⟨a,vs,z,rfl,rfl,ha,by omega,w.wrote sk hn ha (r.append (.cons hz .nil)) b1G'⟩
   ·exact w.elim
  ·exact w.elim
 ·exact w.elim
theorem RepL.dropLast {K:PySem.W.Frag}{mg:GS}{μ:List Addr}{H:Hp}{ds:List D}{vs:List V}(r:RepL K mg μ H ds vs):RepL K mg μ H ds.dropLast vs.dropLast:=by
 rw[List.dropLast_eq_take,List.dropLast_eq_take,r.length]
 exact r.take _
def popD (d:D)(ds:List D)(S:Store):Res D:=match d,ds with
 | .ref n,[]=>match S[n]? with
  |some xs=>match xs[xs.length-1]? with
   |some y=>.ok y (S.set n xs.dropLast)
   |none=>.fail
  |none=>.fail
 |_,_=>.fail
theorem pop_D:MtR X "list.pop" (rM X.K X.mg popD):=by
 intro pins s σ H x xs v us Q I rx rs h
 obtain⟨F,μ,S,d,ds,sk,rd,rds,w⟩:=h
 unfold popD at w
 split at w
 ·split at w
  ·rename_i n ys e
   split at w
   ·rename_i y e2
    obtain⟨a,vs,rfl,hn,ha,r⟩:=a4Z' sk rd e
    unfold RepL at rds
    subst rds
    obtain⟨z,h1,h2⟩:=r.get e2
    rw[r.length]at h1
    exact mt_pop pins s σ H _ _ v us Q I rx rs ⟨a,vs,z,rfl,rfl,ha,h1,w.wrote sk hn ha r.dropLast h2⟩
   ·exact w.elim
  ·exact w.elim
 ·exact w.elim
def setD (d e f:D)(S:Store):Option Store:=match d,e with
 | .ref n,.int i=>match S[n]? with
  |some xs=>match ixN xs.length i with
   |some j=>some (S.set n (xs.set j f))
   |none=>none
  |none=>none
 |_,_=>none
def rSet (K:PySem.W.Frag)(mg:Str→Option Value):TSet:=fun o i v H Q=>∃F μ S d e f,SOk K ⟨mg,F⟩ μ S H∧Rep K ⟨mg,F⟩ μ H d o∧Rep K ⟨mg,F⟩ μ H e i∧Rep K ⟨mg,F⟩ μ H f v∧
 ∃S',setD d e f S=some S'∧∀μ' H',Ext μ H μ' H'→SOk K ⟨mg,F⟩ μ' S' H'→Q H'
theorem set_D:PSet X (rSet X.K X.mg):=by
 intro pins s σ H o i v ov iv u Q I ro ri rv h
 obtain⟨F,μ,S,d,e,f,sk,rd,re,rf,S',e1,w⟩:=h
 unfold setD at e1
 split at e1
 ·split at e1
  ·rename_i n k _ ys e2
   split at e1
   ·rename_i j e3
    cases e1
    obtain⟨a,vs,rfl,hn,ha,r⟩:=a4Z' sk rd e2
    cases a0c' re
    rw[r.length]at e3
    exact b3N' pins s σ H _ _ v ov iv u Q I ro ri rv ⟨a,vs,k,j,rfl,rfl,ha,e3,w μ _ (.wrote (List.mem_of_getElem? hn) ha) (sk.wrote hn ha (r.set j rf))⟩
   ·cases e1
  ·cases e1
 ·cases e1
end
end Py
end
section
namespace Py
open PySem PySem.Spec PyProof.Rows L2
def clOf (env:Env):List (Str×NameKind)→List (Str×Addr)→List (Str×Addr)
 | [],cs=>cs
 | (n,k)::r,cs=>clOf env r (if k== .free then(match env.cells.lookup n with|some c=>(n,c)::cs|none=>cs)else cs)
theorem a6q' {scope:Scope}{env:Env}(h:∀x∈scope.names,x.2=.free→∃c,env.cells.lookup x.1=some c):closureFor scope env=pure (clOf env scope.names []):=by
 unfold closureFor
 have key:∀(l:List (Str×NameKind)) (cs:List (Str×Addr)),(∀x∈l,x.2=.free→∃c,env.cells.lookup x.1=some c)→
   (forIn l cs fun x r=>(if(x.2==NameKind.free)=true then do let c ←cellOf env x.1;pure (ForInStep.yield ((x.1,c)::r))else pure (ForInStep.yield r):Sem _))=pure (clOf env l cs):=by
  intro l
  induction l with
  |nil=>intro cs _;rfl
  |cons x l ih=>
   intro cs hl
   obtain⟨n,k⟩:=x
   rw[List.forIn_cons]
   unfold clOf
   by_cases hk:k=.free
   ·subst hk
    obtain⟨c,hc⟩:=hl (n,.free) (by simp) rfl
    have hc':cellOf env n=pure c:=by unfold cellOf;rw[hc]
    simp only[beq_self_eq_true,if_true,hc',hc]
    simp only[pure_bind]
    exact ih _ fun y hy=>hl y (List.mem_cons_of_mem _ hy)
   ·have hb:(k==NameKind.free)=false:=by simpa using hk
    simp only[hb,Bool.false_eq_true,if_false,pure_bind]
    exact ih _ fun y hy=>hl y (List.mem_cons_of_mem _ hy)
 have:=key scope.names [] h
 first
  | (rw[←this];rfl)
  | (simp only[bind_pure];exact this)
  | (show(do let r ←_;pure r)=_;rw[bind_pure];exact this)
theorem a7u' {env:Env}:∀(l:List (Str×NameKind)) (cs:List (Str×Addr)),(∀p∈cs,env.cells.lookup p.1=some p.2)→∀p∈clOf env l cs,env.cells.lookup p.1=some p.2
 | [],cs,h,p,hp=>h p hp
 | (n,k)::r,cs,h,p,hp=>by
  unfold clOf at hp
  refine a7u' r _ (fun q hq=> ?_) p hp
  split at hq
  ·split at hq
   ·rename_i c hc
    rcases List.mem_cons.mp hq with rfl|hq
    ·exact hc
    ·exact h q hq
   ·exact h q hq
  ·exact h q hq
theorem a9V' {env:Env}:∀(l:List (Str×NameKind)) (cs:List (Str×Addr)),∀p∈cs,p∈clOf env l cs
 | [],cs,p,hp=>hp
 | (n,k)::r,cs,p,hp=>by
  unfold clOf
  refine a9V' r _ p ?_
  split
  ·split
   ·exact List.mem_cons_of_mem _ hp
   ·exact hp
  ·exact hp
theorem a9W' {env:Env}{x:Str}{c:Addr}(hc:env.cells.lookup x=some c):∀(l:List (Str×NameKind)) (cs:List (Str×Addr)),(x,NameKind.free)∈l→(x,c)∈clOf env l cs
 | [],cs,h=>by cases h
 | (n,k)::r,cs,h=>by
  unfold clOf
  rcases List.mem_cons.mp h with e|h
  ·cases e
   refine a9V' r _ _ ?_
   simp only[beq_self_eq_true,if_true,hc]
   exact List.mem_cons_self
  ·exact a9W' hc r _ h
theorem a3t' {α:Type}{x:Str}{c:α}:∀{l:List (Str×α)},(x,c)∈l→∃d,l.lookup x=some d
 | [],h=>by cases h
 | (n,d)::r,h=>by
  rw[List.lookup_cons]
  cases e:x==n with
  |true=>exact⟨d,rfl⟩
  |false=>
   rcases List.mem_cons.mp h with e2|h
   ·cases e2;simp at e
   ·exact a3t' h
theorem a2H' {env:Env}:∀{names:List (Str×NameKind)} {x:Str} {k:NameKind},(names.map fun(n,k)=>if(k==NameKind.free&&env.scope.kind== .function&&env.kindOf n==some .cell)then(n,NameKind.cell)else(n,k)).lookup x=some k→
  ∃k',names.lookup x=some k'∧(k=k'∨(k'=.free∧k=.cell))
 | [],_,_,h=>by simp at h
 | (n,k0)::r,x,k,h=>by
  have ih:= @a2H' env r x k
  rw[List.map_cons]at h
  rw[List.lookup_cons]
  by_cases hc:(k0==NameKind.free&&env.scope.kind== .function&&env.kindOf n==some .cell)=true
  ·simp only[hc,if_true,List.lookup_cons]at h
   cases e:x==n with
   |true=>
    rw[e]at h
    cases h
    refine⟨k0,rfl,.inr ⟨?_,rfl⟩⟩
    rw[Bool.and_eq_true,Bool.and_eq_true]at hc
    exact eq_of_beq hc.1.1
   |false=>rw[e]at h;exact ih h
  ·simp only[hc,Bool.false_eq_true,if_false,List.lookup_cons]at h
   cases e:x==n with
   |true=>rw[e]at h;cases h;exact⟨k0,rfl,.inl rfl⟩
   |false=>rw[e]at h;exact ih h
theorem a1i' {env:Env}:∀{names:List (Str×NameKind)} {x:Str},names.lookup x=some .free→
  let m:=(names.map fun(n,k)=>if(k==NameKind.free&&env.scope.kind== .function&&env.kindOf n==some .cell)then(n,NameKind.cell)else(n,k))
  m.lookup x=some .cell∨m.lookup x=some .free
 | [],_,h=>by simp at h
 | (n,k0)::r,x,h=>by
  have ih:= @a1i' env r x
  rw[List.lookup_cons]at h
  dsimp only
  rw[List.map_cons]
  by_cases hc:(k0==NameKind.free&&env.scope.kind== .function&&env.kindOf n==some .cell)=true
  ·simp only[hc,if_true,List.lookup_cons]
   cases e:x==n with
   |true=>exact .inl rfl
   |false=>rw[e]at h;exact ih h
  ·simp only[hc,Bool.false_eq_true,if_false,List.lookup_cons]
   cases e:x==n with
   |true=>rw[e]at h;cases h;exact .inr rfl
   |false=>rw[e]at h;exact ih h
theorem a2I':∀(names:List (Str×NameKind)) (n:Nat) (a b:List (Str×Addr)),cellsFrom n names (a++b)=cellsFrom n names a++b
 | [],_,_,_=>rfl
 | (x,k)::r,n,a,b=>by
  show(if(k==NameKind.cell)=true then cellsFrom (n+1) r ((x,n)::(a++b))else cellsFrom n r (a++b))=(if(k==NameKind.cell)=true then cellsFrom (n+1) r ((x,n)::a)else cellsFrom n r a)++b
  split
  ·exact a2I' r (n+1) ((x,n)::a) b
  ·exact a2I' r n a b
theorem a5H' {x:Str}{c:Addr}:∀(names:List (Str×NameKind)) (n:Nat) (a:List (Str×Addr)),(x,c)∈cellsFrom n names a→(x,c)∈a∨(x,NameKind.cell)∈names
 | [],_,_,h=>.inl h
 | (y,k)::r,n,a,h=>by
  replace h:(x,c)∈(if(k==NameKind.cell)=true then cellsFrom (n+1) r ((y,n)::a)else cellsFrom n r a):=h
  split at h
  ·rename_i hk
   rcases a5H' r (n+1) _ h with h|h
   ·rcases List.mem_cons.mp h with h|h
    ·injection h with h _
     subst h
     have:k=.cell:=by simpa using hk
     subst this
     exact .inr List.mem_cons_self
    ·exact .inl h
   ·exact .inr (List.mem_cons_of_mem _ h)
  ·rcases a5H' r n _ h with h|h
   ·exact .inl h
   ·exact .inr (List.mem_cons_of_mem _ h)
theorem a7v' {M:Model}{A:Around}{E:Value→Shared→Prop}:∀(names:List (Str×NameKind)) (cs:List (Str×Addr)) (s:Shared) (Q:List (Str×Addr)→Shared→Prop),Q (cellsFrom s.heap.objs.size names cs) {s with heap:=pushCells s.heap names}→
  wpAny M A (forIn names cs fun x r=>match x with
   | (name,kind)=>if(kind==NameKind.cell)=true then do
     let c ←alloc {cls:=Value.type "cell",data:=Data.cell none}
     pure (ForInStep.yield ((name,c)::r))
    else pure (ForInStep.yield r)) Q E s
 | [],cs,s,Q,h=>by
  rw[List.forIn_nil]
  exact wpAny_pure h
 | (x,k)::r,cs,s,Q,h=>by
  rw[List.forIn_cons]
  have h:Q (if(k==NameKind.cell)=true then cellsFrom (s.heap.objs.size+1) r ((x,s.heap.objs.size)::cs)else cellsFrom s.heap.objs.size r cs) {s with heap:=if(k==NameKind.cell)=true then pushCells (s.heap.push {cls:=.type "cell",data:=.cell none}) r else pushCells s.heap r}:=h
  cases hk:(k==NameKind.cell)with
  |true=>
   rw[hk,if_pos rfl,if_pos rfl]at h
   refine wpAny_bind ?_
   show wpAny M A (if(k==NameKind.cell)=true then _ else _) _ _ _
   rw[hk,if_pos rfl]
   refine wpAny_bind (wpAny_alloc (wpAny_pure ?_))
   refine a7v' r _ {s with heap:=s.heap.push {cls:=.type "cell",data:=.cell none}} Q ?_
   show Q (cellsFrom (s.heap.push {cls:=.type "cell",data:=.cell none}).objs.size r _) _
   rw[Heap.size_push]
   exact h
  |false=>
   rw[hk,if_neg (by decide),if_neg (by decide)]at h
   refine wpAny_bind ?_
   show wpAny M A (if(k==NameKind.cell)=true then _ else _) _ _ _
   rw[hk,if_neg (by decide)]
   refine wpAny_pure ?_
   exact a7v' r _ s Q h
theorem b1J' {M:Model}{A:Around}{E:Value→Shared→Prop}{s:Shared}{scope:Scope}{g:Addr}{cl:List (Str×Addr)}{q:Str}{out:Env}{bl:Addr}{Q:Env→Shared→Prop}
  (h:Q ⟨scope,s.heap.objs.size,g,cellsFrom (s.heap.objs.size+1) scope.names cl,q,none,out.code,out.frame,out.builtins⟩ {s with heap:=pushCells (s.heap.push {cls:=.type "dict",data:=.dict #[]}) scope.names}):
  wpAny M A (newFunctionEnv scope g cl [] q none .none (some out) bl) Q E s:=by
 unfold newFunctionEnv
 refine wpAny_bind (wpAny_alloc (wpAny_bind (a7v' scope.names cl _ _ ?_)))
 show wpAny M A (forIn ([]:List (Str×Value)) PUnit.unit _>>=fun _=>pure _) _ _ _
 rw[List.forIn_nil]
 refine wpAny_bind (wpAny_pure (wpAny_pure ?_))
 have e:(s.heap.push {cls:=Value.type (if(some out).isSome=true then "dict" else "frame"),data:=Data.dict #[]}).objs.size=s.heap.objs.size+1:=Heap.size_push ..
 show Q ⟨scope,s.heap.objs.size,g,cellsFrom (s.heap.push {cls:=Value.type (if(some out).isSome=true then "dict" else "frame"),data:=Data.dict #[]}).objs.size scope.names cl,q,none,out.code,out.frame,out.builtins⟩ _
 rw[e]
 exact h
def cxC (X:Cx)(scope:Scope)(N:List Str)(C:Addr)(s0:Shared)(H0:Hp)(fp:List Addr):Cx:=
 {X with N:=N,s₀:=s0,H₀:=H0,env:=compEnvC scope (cellsFrom (C+1) scope.names (clOf X.env scope.names [])) C X.env,outer:=X.stack,stack:=X.stack,ex:=fp,fn:=fun x=>scope.names.lookup x==some .cell,pn:=[],xe:=fun _ _=>False}
structure CScope (X:Cx)(scope:Scope):Prop where
 kind:scope.kind=.function
 cel:∀y∈scope.names,y.2=.cell→scope.names.lookup y.1=some .cell
 loc:∀y∈scope.names,y.2=.local→scope.names.lookup y.1=some .local
 free:∀y∈scope.names,y.2=.free→X.env.kindOf y.1=some .cell∨X.env.kindOf y.1=some .free
section
variable {X:Cx}{pins:List (Addr×Obj)}{σ:L2.St}{H:Hp}{s:Shared}{scope:Scope}{N:List Str}{fp:List Addr}
theorem fs_of (I:Inv X pins σ H s){b:Addr}(h1:b≠X.env.locals)(h2:b∉X.fs):b∉frs X.stack:=fun z=>(List.mem_cons.mp (I.stkSub b z)).elim h1 h2
theorem a0N' {n:Nat}{x:Str}{c:Addr}(h:(cellsFrom n scope.names (clOf X.env scope.names [])).lookup x=some c):(cellsFrom n scope.names []).lookup x=some c∨((cellsFrom n scope.names []).lookup x=none∧(clOf X.env scope.names []).lookup x=some c):=by
 have e:=a2I' scope.names n [] (clOf X.env scope.names [])
 rw[List.nil_append]at e
 rw[e,List.lookup_append]at h
 cases z:(cellsFrom n scope.names []).lookup x with
 |some d=>rw[z]at h;exact .inl h
 |none=>rw[z]at h;exact .inr ⟨rfl,h⟩
theorem b1K' {n:Nat}{x:Str}{c:Addr}(h:(cellsFrom n scope.names []).lookup x=some c):(cellsFrom n scope.names (clOf X.env scope.names [])).lookup x=some c:=by
 have e:=a2I' scope.names n [] (clOf X.env scope.names [])
 rw[List.nil_append]at e
 rw[e,List.lookup_append,h]
 rfl
theorem a9X' {n:Nat}{x:Str}{c:Addr}(h:(cellsFrom n scope.names []).lookup x=none)(h2:(clOf X.env scope.names []).lookup x=some c):(cellsFrom n scope.names (clOf X.env scope.names [])).lookup x=some c:=by
 have e:=a2I' scope.names n [] (clOf X.env scope.names [])
 rw[List.nil_append]at e
 rw[e,List.lookup_append,h]
 exact h2
theorem b3W' {h1:Heap}{m:Str→Option Value}{tk:Nat}{σ':L2.St}(hc:X.calm=true)(I:Inv X pins σ H s)(sc:CScope X scope)(hf:∀b∈fp,FpOk X pins H b)(hfo:∀b∈fp,∃o,s.heap.get? b=some o)
  (hn:h1.Ns s.heap.objs.size m) (old:∀b o,s.heap.get? b=some o→h1.get? b=some o) (hcl:CellsOk h1 (s.heap.objs.size+1) (cellsFrom (s.heap.objs.size+1) scope.names [])) (hl:σ'.length=N.length)
  (hσ:∀(i:Nat) (v:V) (x:Str),N[i]? =some x→σ'[i]? =some (some v)→scope.names.lookup x=some .free∧∃j:Nat,X.N[j]? =some x∧σ[j]? =some (some v)):
  Inv (cxC X scope N s.heap.objs.size s H fp) (X.pn++pins) σ' H {s with heap:=h1,toks:=tk}:=by
 have lt:∀{b:Addr} {o:Obj},s.heap.get? b=some o→b≠s.heap.objs.size:=fun e=>Nat.ne_of_lt (Heap.lt_size e)
 have cl1:∀x c,(clOf X.env scope.names []).lookup x=some c→X.env.cells.lookup x=some c:=fun x c h=>a7u' scope.names [] (fun _ z=>nomatch z) (x,c) (PySem.mem_of_lookup h)
 have cellLt:∀x c,X.env.cells.lookup x=some c→c<s.heap.objs.size:=fun x c h=>by obtain⟨v,q⟩:=I.cell x c h;exact q.lt
 have ownC:∀x c,(cellsFrom (s.heap.objs.size+1) scope.names []).lookup x=some c→h1.IsCell c none∧s.heap.objs.size+1≤c:=fun x c h=>hcl.empty x c (PySem.mem_of_lookup h)
 have ownK:∀x c,(cellsFrom (s.heap.objs.size+1) scope.names []).lookup x=some c→scope.names.lookup x=some .cell:=fun x c h=>by
  rcases a5H' scope.names _ _ (PySem.mem_of_lookup h)with z|z
  ·cases z
  ·exact sc.cel _ z rfl
 have has:∀x,scope.names.lookup x=some .free→(cellsFrom (s.heap.objs.size+1) scope.names []).lookup x=none∧∃c,(clOf X.env scope.names []).lookup x=some c:=fun x h=>by
  refine⟨?_,?_⟩
  ·cases z:(cellsFrom (s.heap.objs.size+1) scope.names []).lookup x with
   |none=>rfl
   |some c=>have:=ownK x c z;rw[h]at this;cases this
  ·have hm:=PySem.mem_of_lookup h
   obtain⟨c,hcc⟩:=I.ok.has x (sc.free _ hm rfl)
   exact a3t' (a9W' hcc scope.names [] hm)
 have kindC:∀x,((cxC X scope N s.heap.objs.size s H fp).env.kindOf x=some .cell∨(cxC X scope N s.heap.objs.size s H fp).env.kindOf x=some .free)→scope.names.lookup x=some .free∨scope.names.lookup x=some .cell:=fun x h=>by
  have go:∀k,(k=NameKind.cell∨k=.free)→(relabel scope X.env).names.lookup x=some k→scope.names.lookup x=some .free∨scope.names.lookup x=some .cell:=fun k hk h=>by
   obtain⟨k',h1,h2⟩:=a2H' h
   rcases h2 with rfl| ⟨rfl,_⟩
   ·rcases hk with rfl|rfl
    ·exact .inr h1
    ·exact .inl h1
   ·exact .inl h1
  rcases h with h|h
  ·exact go _ (.inl rfl) h
  ·exact go _ (.inr rfl) h
 have apart:∀x y c,(cellsFrom (s.heap.objs.size+1) scope.names []).lookup x=some c→(cellsFrom (s.heap.objs.size+1) scope.names []).lookup y=some c→x=y:=fun x y c h1 h2=>by
  have m1:=PySem.mem_of_lookup h1
  have m2:=PySem.mem_of_lookup h2
  have ap:=hcl.apart
  generalize cellsFrom (s.heap.objs.size+1) scope.names []=l at m1 m2 ap
  induction l with
  |nil=>cases m1
  |cons p l ih=>
   obtain⟨a1,a2⟩:=List.pairwise_cons.mp ap
   rcases List.mem_cons.mp m1 with rfl|n1
   ·rcases List.mem_cons.mp m2 with z|n2
    ·injection z with z _;exact z.symm
    ·exact(a1 (y,c) n2 rfl).elim
   ·rcases List.mem_cons.mp m2 with rfl|n2
    ·exact(a1 (x,c) n1 rfl).elim
    ·exact ih n1 n2 a2
 refine⟨⟨I.ok.mod,?_,I.ok.glob,I.ok.blt,Nat.le_refl _,fun x y c h1 h2=> ?_,fun x h=> ?_,fun x c h h2=> ?_,I.ok.hd,I.ok.frames,.inl rfl,fun b hb=> ?_,I.bs,Nat.le_trans I.ok.bsz I.sz,fun b o e hb=> ?_,fun b hb=> ?_,I.stack,I.stkFree⟩,
  rfl,I.bare,Un.kept old,⟨m,hn,fun i x v e1 e2 e3=> ?_⟩,fun x c h=> ?_,I.hok.fresh (Nat.le_refl _),fun x c h=> ?_,fun p hp=> ?_,I.hok.kept old,hl⟩
 ·show(relabel scope X.env).kind=.function
  unfold relabel;exact sc.kind
 ·rcases a0N' h1 with z| ⟨_,z⟩<;>rcases a0N' h2 with y'| ⟨_,y'⟩
  ·exact apart x y c z y'
  ·exact absurd (cellLt _ _ (cl1 _ _ y')) (Nat.not_lt.mpr (Nat.le_of_succ_le (ownC _ _ z).2))
  ·exact absurd (cellLt _ _ (cl1 _ _ z)) (Nat.not_lt.mpr (Nat.le_of_succ_le (ownC _ _ y').2))
  ·exact I.ok.inj x y c (cl1 x c z) (cl1 y c y')
 ·rcases kindC x h with h|h
  ·obtain⟨z,c,hc2⟩:=has x h
   exact⟨c,a9X' z hc2⟩
  ·have:=PySem.W.cellsFrom_some (x:=x) scope.names (s.heap.objs.size+1) [] (.inl h)
   obtain⟨c,hc2⟩:=Option.isSome_iff_exists.mp this
   exact⟨c,b1K' hc2⟩
 ·have hk:scope.names.lookup x=some .cell:=by simpa[cxC]using h
  rcases a0N' h2 with z| ⟨z,_⟩
  ·exact Nat.le_of_succ_le (ownC _ _ z).2
  ·have:=PySem.W.cellsFrom_some (x:=x) scope.names (s.heap.objs.size+1) [] (.inl hk)
   rw[z]at this;cases this
 ·obtain⟨f0,f1,f2,f3,f4,f5⟩:=hf b hb
  obtain⟨o,ho⟩:=hfo b hb
  refine⟨lt ho,fun x c h=> ?_⟩
  rcases a0N' h with z| ⟨_,z⟩
  ·exact fun q=>absurd (Heap.lt_size ho) (Nat.not_lt.mpr (q▸Nat.le_of_succ_le (ownC _ _ z).2))
  ·exact f4 x c (cl1 x c z)
 ·obtain⟨f0,f1,f2,f3,f4,f5⟩:=hf b hb
  rcases f3 with f3|f3
  ·exact I.ok.noex b o e f3
  ·exact absurd (Heap.lt_size (I.ok.bs b o e).1) (Nat.not_lt.mpr f3)
 ·obtain⟨f0,f1,f2,f3,f4,f5⟩:=hf b hb
  exact fs_of I f1 f2
 ·obtain⟨g1,j,g2,g3⟩:=hσ i v x e1 e2
  obtain⟨m0,_,l0⟩:=I.loc
  have hv:Vis X.env.scope x:=by
   rcases sc.free _ (PySem.mem_of_lookup g1) rfl with q|q
   ·exact .inr (.inl q)
   ·exact .inr (.inr q)
  obtain⟨u,r,q⟩:=l0 j x v g2 g3 hv
  refine⟨u,r,.inr ⟨a1i' g1,?_⟩⟩
  obtain⟨z,c,hcl⟩:=has x g1
  have hcc:=cl1 x c hcl
  refine⟨c,a9X' z hcl,?_⟩
  have kx:=sc.free _ (PySem.mem_of_lookup g1) rfl
  rcases q with⟨q,_⟩| ⟨_,c',q1,q2⟩
  ·rcases kx with kx|kx
   ·rw[q]at kx;cases kx
   ·rw[q]at kx;cases kx
  ·rw[hcc]at q1;cases q1
   obtain⟨o,ho,hd⟩:=q2
   exact⟨o,old _ _ ho,hd⟩
 ·rcases a0N' h with z| ⟨_,z⟩
  ·exact⟨none,(ownC _ _ z).1⟩
  ·obtain⟨v,o,ho,hd⟩:=I.cell x c (cl1 x c z)
   exact⟨v,o,old _ _ ho,hd⟩
 ·rcases a0N' h with z| ⟨_,z⟩
  ·exact I.hok.fresh (Nat.le_of_succ_le (ownC _ _ z).2)
  ·exact I.freeC x c (cl1 x c z)
 ·have hp':p∈X.pn++pins:=by simpa[cxC]using hp
  obtain⟨e,n,ne,nf,d⟩:=I.pin p hp'
  exact⟨old _ _ e,n,lt e,fs_of I ne nf,d⟩
theorem b3X' {C:Addr}{s':Shared}{σ':L2.St}{H':Hp}{h':Heap}(I:Inv X pins σ H s)(hf:∀b∈fp,FpOk X pins H b)(hC:C=s.heap.objs.size){pins':List (Addr×Obj)}(J:Inv (cxC X scope N C s H fp) pins' σ' H' s')(hs:Heap.SameBut C s'.heap h'):
  Inv X pins σ H' {s' with heap:=h'}:=by
 have ne:∀{b:Addr} {o:Obj},s.heap.get? b=some o→b≠C:=fun e=>by rw[hC];exact Nat.ne_of_lt (Heap.lt_size e)
 have B:Un (frs X.stack) fp H H' s.heap s'.heap:=J.base
 have u:Un (frs X.stack) fp H H' s.heap h':=
  ⟨fun b o e n hb he=>(hs.2 b (ne e)).trans (B.keep b o e n hb he),fun b o e n hb he=>by obtain⟨sl,q⟩:=B.slot b o e n hb he;exact⟨sl,(hs.2 b (ne e)).trans q⟩,B.free,
   fun b o e he=>by obtain⟨o',q⟩:=B.there b o e he;exact⟨o',(hs.2 b (ne e)).trans q⟩,B.tups,B.frzs,B.tbls⟩
 have hfree:H' C=none:=J.free
 have hok:HOk X.prog X.w H' h':=fun b ob e=>by
  refine(J.hok b ob e).stay (fun c w' hc q=>(hs.2 c ?_).trans q) (fun _ q=>q) fun _ _ q=>q
  rintro rfl
  rcases hc with rfl|hc
  ·rw[hfree]at e;cases e
  ·rw[hfree]at hc;cases hc
 exact I.call' (s':={s' with heap:=h'}) (ch:=fp) J.os u hok J.bare fun b hb=>by
  obtain⟨f0,f1,f2,f3,f4,f5⟩:=hf b hb
  exact⟨f3,f1,f4,f5⟩
end
def PB (X:Cx)(body:Sem Unit)(t:L2.St→Hp→(L2.St→Hp→Prop)→Prop):Prop:=
 ∀(pins:List (Addr×Obj)) (s:Shared) (σ:L2.St) (H:Hp) (Q:L2.St→Hp→Prop),Inv X pins σ H s→t σ H Q→wpAny (model X.prog X.w) X.A body (fun _ s'=>∃σ' H',Inv X pins σ' H' s'∧Q σ' H') X.xe s
section
variable {X:Cx}
theorem noteF {M:Model}{A:Around}{E:Value→Shared→Prop}{α:Type}{m:Sem α}{Q:α→Shared→Prop}{s:Shared}(hx:X.xe=fun _ _=>False)(h:wpAny M A m Q X.xe s):wpAny M A m Q E s:=by
 rw[hx]at h
 exact wpAny_mono h (fun _ _ q=>q) fun _ _ z=>z.elim
theorem a8b' {elt:Expr}{gens:List Comprehension}{scope:Scope}{epos:Pos}{d:Nat}{tg:Expr}{it:Addr}{acc:Value}{p:Pos}{body:Sem Unit}{J:It}{fp:List Addr}{tn:Nat→Heap→Prop}{g:TG}{tb:L2.St→Hp→(L2.St→Hp→Prop)→Prop}{R:Result→Shared→Prop}{pins:List (Addr×Obj)}{s:Shared}{σ:L2.St}{H:Hp}{Fin:L2.St→Hp→Prop}
  (hx:X.xe=fun _ _=>False) (hc:X.calm=true)
  (heq:compTurn (.ListComp elt gens scope epos) d (.ref it) acc X.env=(standAt p>>=fun _=>pyNext (.ref it)>>=fun r=>match r with
   |none=>pure (.done .next)
   |some v=>letOwnedTupleGo tg (.ref it) v>>=fun _=>assign tg X.env v>>=fun _=>body>>=fun _=>again (.compLoop (.ListComp elt gens scope epos) d (.ref it) acc X.env)))
  (T:Turn X.prog X.w X.K tg J fp it tn) (hg:PG X tg g) (hb:PB X body tb) (I:Inv X pins σ H s) (st:tn 0 s.heap) (hf:∀b∈fp,FpOk X pins H b)
  (W:∃W:Nat→Nat→L2.St→Hp→Prop,(∃m,W 0 m σ H)∧∀i m σ H,W i m σ H→
   (J.stop i H∧Fin σ H)∨(J.go i H∧∃Nx:L2.St→Hp→Prop,(∀σ' H',Nx σ' H'→∃m',m'<m∧W (i+1) m' σ' H')∧∀x H',J.yld i H x H'→g x σ H' fun σ2 H2=>tb σ2 H2 Nx))
  (hR:∀s' σ' H',Inv X pins σ' H' s'→(∀b∈fp,H' b=none)→Fin σ' H'→R (.ok .next) s'):codeAny (model X.prog X.w) X.A (.compLoop (.ListComp elt gens scope epos) d (.ref it) acc X.env) R s:=by
 obtain⟨W,⟨m0,w0⟩,turn⟩:=W
 have stat:∀{H':Hp},(∀b∈fp,H' b=none)→∀b∈fp,FpOk X pins H' b:=fun hn b hb=>⟨hn b hb,(hf b hb).2⟩
 refine codeAny_loop rfl (fun n s'=>∃i σ' H',Inv X pins σ' H' s'∧tn i s'.heap∧(∀b∈fp,H' b=none)∧W i n σ' H') ?_ m0 ⟨0,σ,H,I,st,fun b hb=>(hf b hb).1,w0⟩
 rintro n s3 ⟨i,σ3,H3,I3,st3,fr3,w3⟩
 show wpAny _ X.A ((compTurn (.ListComp elt gens scope epos) d (.ref it) acc X.env).onRaise (fun x=>do noteFrame x X.env;theTreesLotGoes x)) _ _ s3
 refine wpAny_noted ?_
 rw[heq]
 refine wpAny_bind (wpAny_standAt ?_)
 rcases turn i n σ3 H3 w3 with⟨stop,qn⟩| ⟨go,Nx,hN,step⟩
 ·refine wpAny_bind (noteF hx (thn (T.done X rfl rfl rfl hc i pins s3 σ3 H3 X.xe I3 (stat fr3) st3 stop) fun r s4 ⟨hr,I4⟩=> ?_))
  subst hr
  exact wpAny_pure (hR s4 σ3 H3 I4 fr3 qn)
 ·refine wpAny_bind (noteF hx (thn (T.item X rfl rfl rfl hc i pins s3 σ3 H3 X.xe I3 (stat fr3) st3 go) fun r s4 ⟨u,hr,h4⟩=> ?_))
  subst hr
  refine wpAny_bind (noteF hx (thn h4 fun _ s5 ⟨x,H5,I5,r5,y5,st5,fr5⟩=> ?_))
  have I5':=I5.pinned (stat fr5) (T.obj _ _ st5)
  refine wpAny_bind (noteF hx (thn (hg _ s5 σ3 H5 x u _ I5' r5 (step x H5 y5)) fun _ s6 ⟨σ6,H6,I6,q6⟩=> ?_))
  refine wpAny_bind (noteF hx (thn (hb _ s6 σ6 H6 _ I6 q6) fun _ s7 ⟨σ7,H7,I7,n7⟩=> ?_))
  refine wpAny_pure ?_
  obtain⟨m',hm,w7⟩:=hN σ7 H7 n7
  refine⟨rfl,m',hm,i+1,σ7,H7,I7.unpinned,T.keep _ _ _ st5 fun b hb o e=>(I7.pin (b,o) (List.mem_append_right _ (List.mem_append_right _ (a2F' hb e)))).1,fun b hb=> ?_,w7⟩
  obtain⟨o,e,d⟩:=T.obj _ _ st5 b hb
  exact(I7.pin (b,o) (List.mem_append_right _ (List.mem_append_right _ (a2F' hb e)))).2.1
end
end Py
end
section
namespace Py
open PySem PySem.Spec PyProof.Rows L2
abbrev TU:=L2.St→Hp→(L2.St→Hp→Prop)→Prop
section
variable {X:Cx}
def b1L':List TT→(L2.St→Hp→(Bool→Hp→Prop)→Prop)
 | []=>fun _ H Q=>Q true H
 |t::r=>fun σ H Q=>t σ H fun b H1=>if b=true then b1L' r σ H1 Q else Q false H1
def PTs (X:Cx):List Expr→List TT→Prop
 | [],[]=>True
 |e::es,t::ts=>PT X e t∧PTs X es ts
 |_,_=>False
theorem a5a' {M:Model}{A:Around}{E:Value→Shared→Prop}{env:Env}{Q:Bool→Shared→Prop}{s:Shared}:∀(ifs:List Expr),Q false s→
  wpAny M A (forIn ifs false fun c r=>if r=true then do let ok ←isTrue c env (eval c env);pure (ForInStep.yield ok)else pure (ForInStep.yield r)) Q E s
 | [],h=>wpAny_pure h
 |c::r,h=>by
  rw[List.forIn_cons]
  simp only[Bool.false_eq_true,if_false]
  exact wpAny_bind (wpAny_pure (a5a' r h))
theorem a9Y':∀(ifs:List Expr) (ts:List TT),PTs X ifs ts→∀(pins:List (Addr×Obj)) (s:Shared) (σ:L2.St) (H:Hp) (Q:Bool→Hp→Prop),Inv X pins σ H s→b1L' ts σ H Q→
  wpAny (model X.prog X.w) X.A (forIn ifs true fun c r=>if r=true then do let ok ←isTrue c X.env (eval c X.env);pure (ForInStep.yield ok)else pure (ForInStep.yield r)) (TP X pins σ Q) X.xe s
 | [],[],_,pins,s,σ,H,Q,I,h=>wpAny_pure ⟨H,I,h⟩
 |e::es,t::ts,p,pins,s,σ,H,Q,I,h=>by
  rw[List.forIn_cons]
  simp only[if_true]
  refine wpAny_bind (wpAny_bind (thn (p.1 pins s σ H _ I h) fun b s1 ⟨H1,I1,q1⟩=>wpAny_pure ?_))
  cases b with
  |true=>
   rw[if_pos rfl]at q1
   exact a9Y' es ts p.2 pins s1 σ H1 Q I1 q1
  |false=>
   rw[if_neg (by decide)]at q1
   exact a5a' es ⟨H1,I1,q1⟩
 | [],_::_,p,_,_,_,_,_,_,_=>p.elim
 |_::_,[],p,_,_,_,_,_,_,_=>p.elim
def tEmit (acc:Addr)(te:TE):TU:=fun σ H Q=>te σ H fun v H1=>∃ys,H1 acc=some (.lst ys)∧ys.length<sizeLine∧Q σ (upd H1 acc (.lst (ys++[v])))
def tWhen (ts:List TT)(t:TU):TU:=fun σ H Q=>b1L' ts σ H fun b H1=>if b=true then t σ H1 Q else Q σ H1
def tInner (wi:TI)(g:TG)(tb:TU):TU:=fun σ H Q=>wi σ H fun J H1=>∃W:Nat→Nat→L2.St→Hp→Prop,(∃m,W 0 m σ H1)∧∀i m σ H,W i m σ H→
   (J.stop i H∧Q σ H)∨(J.go i H∧∃Nx:L2.St→Hp→Prop,(∀σ' H',Nx σ' H'→∃m',m'<m∧W (i+1) m' σ' H')∧∀x H',J.yld i H x H'→g x σ H' fun σ2 H2=>tb σ2 H2 Nx)
def tComp (cs:L2.St→L2.St)(wi:TI)(g:TG)(tb:Addr→TU):TE:=fun σ H Q=>wi σ H fun J H1=>∀acc,H1 acc=none→
 ∃W:Nat→Nat→L2.St→Hp→Prop,(∃m,W 0 m (cs σ) (upd H1 acc (.lst [])))∧∀i m σ H,W i m σ H→
   (J.stop i H∧Q (.ref acc) H)∨(J.go i H∧∃Nx:L2.St→Hp→Prop,(∀σ' H',Nx σ' H'→∃m',m'<m∧W (i+1) m' σ' H')∧∀x H',J.yld i H x H'→g x σ H' fun σ2 H2=>tb acc σ2 H2 Nx)
def CsOk (X:Cx)(scope:Scope)(N:List Str)(cs:L2.St→L2.St):Prop:=∀σ:L2.St,σ.length=X.N.length→(cs σ).length=N.length∧
 ∀(i:Nat) (v:V) (x:Str),N[i]? =some x→(cs σ)[i]? =some (some v)→scope.names.lookup x=some .free∧∃j:Nat,X.N[j]? =some x∧σ[j]? =some (some v)
theorem b2U' {pins:List (Addr×Obj)}{σ:L2.St}{H:Hp}{s:Shared}{scope:Scope}(I:Inv X pins σ H s)(sc:CScope X scope):closureFor scope X.env=pure (clOf X.env scope.names []):=
 a6q' fun x hx hk=>I.ok.has x.1 (sc.free x hx hk)
theorem b1M' (h3:Heap)(d:Obj)(names:List (Str×NameKind)):CellsOk (pushCells (h3.push d) names) (h3.objs.size+1) (cellsFrom (h3.objs.size+1) names []):=by
 have e:(h3.push d).objs.size=h3.objs.size+1:=Heap.size_push ..
 have:=cellsFrom_ok names (h3.push d) (h3.objs.size+1) [] ⟨(fun _ _ h=>by cases h),.nil⟩ (by rw[e];exact Nat.le_refl _)
 rw[e]at this
 exact this
theorem a8c' {elt tg iter:Expr}{ifs:List Expr}{rest:List Comprehension}{scope:Scope}{pos:Pos}{N:List Str}{cs:L2.St→L2.St}{J:It}{g:TG}{tb:Addr→TU}{R:Value→Addr→Result→Shared→Prop}{Fin:V→Hp→Prop}
  {pins:List (Addr×Obj)} {σ:L2.St} {H:Hp} {s:Shared} {it:Addr} {fp:List Addr} {tn:Nat→Heap→Prop} {E:Value→Shared→Prop} (hc:X.calm=true) (sc:CScope X scope) (hcs:CsOk X scope N cs) (I:Inv X pins σ H s) (T:Turn X.prog X.w X.K tg J fp it tn) (st:tn 0 s.heap) (hf:∀b∈fp,FpOk X pins H b)
  (body:Addr→Env→Sem Unit)
  (heq:∀(acc:Addr) (env:Env),compTurn (.ListComp elt (⟨tg,iter,ifs,0⟩::rest) scope pos) 0 (.ref it) (.ref acc) env=(standAt iter.pos>>=fun _=>pyNext (.ref it)>>=fun r=>match r with
   |none=>pure (.done .next)
   |some v=>letOwnedTupleGo tg (.ref it) v>>=fun _=>assign tg env v>>=fun _=>body acc env>>=fun _=>again (.compLoop (.ListComp elt (⟨tg,iter,ifs,0⟩::rest) scope pos) 0 (.ref it) (.ref acc) env)))
  (hin:∀(C:Addr) (s0:Shared) (H0:Hp) (fp:List Addr) (acc:Addr),PG (cxC X scope N C s0 H0 fp) tg g∧PB (cxC X scope N C s0 H0 fp) (body acc (cxC X scope N C s0 H0 fp).env) (tb acc))
  (W:∀acc,H acc=none→∃W:Nat→Nat→L2.St→Hp→Prop,(∃m,W 0 m (cs σ) (upd H acc (.lst [])))∧∀i m σ H,W i m σ H→
   (J.stop i H∧Fin (.ref acc) H)∨(J.go i H∧∃Nx:L2.St→Hp→Prop,(∀σ' H',Nx σ' H'→∃m',m'<m∧W (i+1) m' σ' H')∧∀x H',J.yld i H x H'→g x σ H' fun σ2 H2=>tb acc σ2 H2 Nx))
  (hR:∀(acc C:Addr) (s':Shared) (H':Hp) (m:Str→Option Value),s'.heap.Ns C m→C≠X.env.locals→(∀x c,X.env.cells.lookup x=some c→c≠C)→H' C=none→X.s₀.heap.objs.size≤C→(∀p∈X.pn++pins,p.1≠C)→(∀h',Heap.SameBut C s'.heap h'→Inv X pins σ H' {s' with heap:=h'})→Fin (.ref acc) H'→R (.ref acc) C (.ok .next) s'):
  wpAny (model X.prog X.w) X.A (newList []) (fun acc s₃=>wpAny (model X.prog X.w) X.A (newFunctionEnv scope X.env.globals (clOf X.env scope.names []) [] X.env.qual none .none (some X.env)) (fun cenv s₄=>
   codeAny (model X.prog X.w) X.A (.compStart (.ListComp elt (⟨tg,iter,ifs,0⟩::rest) scope pos) 0 (.ref it) acc {cenv with scope:=relabel scope X.env}) (R acc cenv.locals) s₄) E s₃) E s:=by
 refine wpAny_newObj_type (b1J' ?_)
 have hfr:H s.heap.objs.size=none:=I.hok.fresh (Nat.le_refl _)
 have I3:Inv X pins σ (upd H s.heap.objs.size (.lst [])) {s with heap:=s.heap.push {cls:=.type "list",data:=.seq ([]:List Value).toArray},toks:=s.toks}:=I.lnew (its:=[]) (ys:=[]) .nil (Nat.zero_le _)
 have fpl:∀b∈fp,∃o,s.heap.get? b=some o:=fun b hb=>by obtain⟨o,e,_⟩:=T.obj _ _ st b hb;exact⟨o,e⟩
 have hf3:∀b∈fp,FpOk X pins (upd H s.heap.objs.size (.lst [])) b:=fun b hb=>by
  obtain⟨f0,f1⟩:=hf b hb
  obtain⟨o,ho⟩:=fpl b hb
  exact⟨by rw[a0t' (Nat.ne_of_lt (Heap.lt_size ho))];exact f0,f1⟩
 have fpl3:∀b∈fp,∃o,(s.heap.push {cls:=.type "list",data:=.seq ([]:List Value).toArray}).get? b=some o:=fun b hb=>by obtain⟨o,ho⟩:=fpl b hb;exact⟨o,Heap.get?_push_of_some _ ho⟩
 obtain⟨k1,k2⟩:=hcs σ I.len
 obtain⟨h₁,eh⟩:∃h₁,h₁=pushCells ((s.heap.push {cls:=.type "list",data:=.seq ([]:List Value).toArray}).push {cls:=.type "dict",data:=.dict #[]}) scope.names:=⟨_,rfl⟩
 have old3:∀b o,(s.heap.push {cls:=.type "list",data:=.seq ([]:List Value).toArray}).get? b=some o→h₁.get? b=some o:=fun b o e=>by rw[eh];exact pushCells_keeps _ _ _ _ (Heap.get?_push_of_some _ e)
 have hns₁:h₁.Ns (s.heap.push {cls:=.type "list",data:=.seq ([]:List Value).toArray}).objs.size fun _=>none:=by
  rw[eh]
  exact⟨_,_,_,pushCells_keeps _ _ _ _ (Heap.get?_push_size _ rfl),rfl,(fun x h=>by simp at h),fun _=>rfl⟩
 have hcl:CellsOk h₁ ((s.heap.push {cls:=.type "list",data:=.seq ([]:List Value).toArray}).objs.size+1) (cellsFrom ((s.heap.push {cls:=.type "list",data:=.seq ([]:List Value).toArray}).objs.size+1) scope.names []):=by
  rw[eh]
  exact b1M' _ _ _
 rw[←eh]
 have J0:=b3W' (tk:=s.toks) (N:=N) (scope:=scope) (σ':=cs σ) hc I3 sc hf3 fpl3 hns₁ old3 hcl k1 k2
 have old:∀b o,s.heap.get? b=some o→h₁.get? b=some o:=fun b o e=>old3 b o (Heap.get?_push_of_some _ e)
 have st1:tn 0 h₁:=T.keep _ _ _ st fun b _ o e=>old b o e
 have hlt:X.env.locals<(s.heap.push {cls:=.type "list",data:=.seq ([]:List Value).toArray}).objs.size:=I3.lt
 have loop:codeAny (model X.prog X.w) X.A (.compLoop (.ListComp elt (⟨tg,iter,ifs,0⟩::rest) scope pos) 0 (.ref it) (.ref s.heap.objs.size) (cxC X scope N (s.heap.push {cls:=.type "list",data:=.seq ([]:List Value).toArray}).objs.size {s with heap:=s.heap.push {cls:=.type "list",data:=.seq ([]:List Value).toArray},toks:=s.toks} (upd H s.heap.objs.size (.lst [])) fp).env)
   (R (.ref s.heap.objs.size) (s.heap.push {cls:=.type "list",data:=.seq ([]:List Value).toArray}).objs.size) {s with heap:=h₁,toks:=s.toks}:=by
  obtain⟨p1,p2⟩:=hin (s.heap.push {cls:=.type "list",data:=.seq ([]:List Value).toArray}).objs.size {s with heap:=s.heap.push {cls:=.type "list",data:=.seq ([]:List Value).toArray},toks:=s.toks} (upd H s.heap.objs.size (.lst [])) fp s.heap.objs.size
  refine a8b' (X:=cxC X scope N _ _ _ fp) (Fin:=fun _ H'=>Fin (.ref s.heap.objs.size) H') rfl hc (heq _ _) T p1 p2 J0 st1 (fun b hb=> ?_) ?_ ?_
  ·obtain⟨f0,f1,f2,f3,f4,f5⟩:=hf3 b hb
   obtain⟨o,ho⟩:=fpl3 b hb
   refine⟨f0,Nat.ne_of_lt (Heap.lt_size ho),fs_of I3 f1 f2,.inl hb,fun x c h=> ?_,fun p hp=>f5 p (by simpa[cxC]using hp)⟩
   rcases a0N' h with z| ⟨_,z⟩
   ·exact fun q=>absurd (Heap.lt_size ho) (Nat.not_lt.mpr (q▸Nat.le_of_succ_le (hcl.empty x c (PySem.mem_of_lookup z)).2))
   ·exact f4 x c (a7u' scope.names [] (fun _ z=>nomatch z) (x,c) (PySem.mem_of_lookup z))
  ·exact W _ hfr
  ·intro s' σ' H' J1 _ fin
   obtain⟨m,hm,_⟩:=id J1.loc
   refine hR _ _ s' H' m hm (Nat.ne_of_gt hlt) (fun x c h z=> ?_) J1.free I3.sz (fun p hp z=> ?_) (fun h' hs'=> ?_) fin
   ·obtain⟨v,q⟩:=I3.cell x c h
    exact absurd q.lt (by rw[z];exact Nat.lt_irrefl _)
   ·exact absurd (Heap.lt_size (I3.pin p hp).1) (by rw[z];exact Nat.lt_irrefl _)
   ·exact b3X' I3 hf3 rfl J1 hs'
 exact codeAny_compStart_list loop (T.self _ 0 _ _ _ st1 loop)
theorem pe_comp {elt tg iter:Expr}{ifs:List Expr}{rest:List Comprehension}{scope:Scope}{pos:Pos}{N:List Str}{cs:L2.St→L2.St}{wi:TI}{g:TG}{tb:Addr→TU}(hc:X.calm=true)(sc:CScope X scope)(hcs:CsOk X scope N cs)(hi:PI X tg iter wi)(body:Addr→Env→Sem Unit)
  (heq:∀(it acc:Addr) (env:Env),compTurn (.ListComp elt (⟨tg,iter,ifs,0⟩::rest) scope pos) 0 (.ref it) (.ref acc) env=(standAt iter.pos>>=fun _=>pyNext (.ref it)>>=fun r=>match r with
   |none=>pure (.done .next)
   |some v=>letOwnedTupleGo tg (.ref it) v>>=fun _=>assign tg env v>>=fun _=>body acc env>>=fun _=>again (.compLoop (.ListComp elt (⟨tg,iter,ifs,0⟩::rest) scope pos) 0 (.ref it) (.ref acc) env)))
  (hin:∀(C:Addr) (s0:Shared) (H0:Hp) (fp:List Addr) (acc:Addr),PG (cxC X scope N C s0 H0 fp) tg g∧PB (cxC X scope N C s0 H0 fp) (body acc (cxC X scope N C s0 H0 fp).env) (tb acc))
  (hs:∀x,foldedSetIterable iter X.env x=pure x:=by intro _;rfl):PE X (.ListComp elt (⟨tg,iter,ifs,0⟩::rest) scope pos) (tComp cs wi g tb):=by
 intro pins s σ H Q I h
 rw[eval_ListComp]
 refine wpAny_comprehension_free (use:=none) rfl hs (b2U' I sc) sc.kind sc.loc (wpAny_mono (hi pins s σ H _ I h) (fun v s1 h1=>wpAny_mono h1 (fun itv s2 h2=> ?_) fun _ _ e=>e) fun _ _ e=>e)
 obtain⟨it,fp,tn,J,H2,e,I2,T,st2,f2,W⟩:=h2
 subst e
 refine a8c' (R:=fun acc C=>compPost (model X.prog X.w) X.A X.xe none (EP X pins σ Q) acc C) (Fin:=Q) hc sc hcs I2 T st2 f2 body (heq it) hin W ?_
 intro acc C s' H' m hm _ _ _ _ _ hI fin
 exact⟨m,hm,fun h' hs'=>⟨.ref acc,H',hI h' hs',rfl,fin⟩⟩
theorem ps_comp {elt tg iter:Expr}{ifs:List Expr}{rest:List Comprehension}{scope:Scope}{pos spos px:Pos}{N:List Str}{cs:L2.St→L2.St}{wi:TI}{g:TG}{tb:Addr→TU}{x:Str}{j:Nat}(hc:X.calm=true)(hN:X.N.Nodup)(hj:X.N[j]? =some x)(hx:X.env.scope.names.lookup x=some .local)
  (hsw:swapsWith (.ListComp elt (⟨tg,iter,ifs,0⟩::rest) scope pos) (some (.Name x px)) spos.line X.env=pure true)
  (sc:CScope X scope) (hcs:CsOk X scope N cs) (hi:PI X tg iter wi) (body:Addr→Env→Sem Unit)
  (heq:∀(it acc:Addr) (env:Env),compTurn (.ListComp elt (⟨tg,iter,ifs,0⟩::rest) scope pos) 0 (.ref it) (.ref acc) env=(standAt iter.pos>>=fun _=>pyNext (.ref it)>>=fun r=>match r with
   |none=>pure (.done .next)
   |some v=>letOwnedTupleGo tg (.ref it) v>>=fun _=>assign tg env v>>=fun _=>body acc env>>=fun _=>again (.compLoop (.ListComp elt (⟨tg,iter,ifs,0⟩::rest) scope pos) 0 (.ref it) (.ref acc) env)))
  (hin:∀(C:Addr) (s0:Shared) (H0:Hp) (fp:List Addr) (acc:Addr),PG (cxC X scope N C s0 H0 fp) tg g∧PB (cxC X scope N C s0 H0 fp) (body acc (cxC X scope N C s0 H0 fp).env) (tb acc))
  (hs:∀x,foldedSetIterable iter X.env x=pure x:=by intro _;rfl):PS X (.Assign [.Name x px] (.ListComp elt (⟨tg,iter,ifs,0⟩::rest) scope pos) spos) (tAsg (tComp cs wi g tb) (gName j)):=by
 intro pins s σ H D I h
 rw[exec_Assign_Name_used _ _ _ _ hsw]
 refine wpAny_bind (wpAny_standAt (wpAny_bind ?_))
 show wpAny _ X.A (do let _ ←comprehension (.ListComp elt (⟨tg,iter,ifs,0⟩::rest) scope pos) scope X.env _ (newList []) false (eval iter X.env) (some (assign (.Name x px) X.env))) _ _ s
 refine wpAny_bind (wpAny_mono (wpAny_comprehension_free (use:=some (assign (.Name x px) X.env)) (Q:=fun _ s'=>SP X pins D .next s') rfl hs (b2U' I sc) sc.kind sc.loc
  (wpAny_mono (hi pins s σ H _ I h) (fun v s1 h1=>wpAny_mono h1 (fun itv s2 h2=> ?_) fun _ _ e=>e) fun _ _ e=>e)) (fun _ s' hq=>wpAny_pure (wpAny_pure hq)) fun _ _ e=>e)
 obtain⟨it,fp,tn,J,H2,e,I2,T,st2,f2,W⟩:=h2
 subst e
 refine a8c' (R:=fun acc C=>compPost (model X.prog X.w) X.A X.xe (some (assign (.Name x px) X.env)) (fun _ s'=>SP X pins D .next s') acc C) (Fin:=fun v H'=>gName j v σ H' D.nx) hc sc hcs I2 T st2 f2 body (heq it) hin W ?_
 intro acc C s' H' m hm hCL hCc hC1 hC2 hC3 hI fin
 show wpAny _ X.A (assign (.Name x px) X.env (.ref acc)) _ _ s'
 have I4:Inv X pins σ H' s':=by
  have:=hI s'.heap (.refl ..)
  simpa using this
 refine wpAny_assign_Name (a7S' I4 hN hj (.inl hx) (v:=.ref acc) rfl (fun s'' I5 hch=> ?_) (.inr hx))
 obtain⟨a,hsb,ha⟩:=hch
 have hCa:C≠a:=by
  rcases ha with rfl|ha
  ·exact hCL
  ·exact fun z=>hCc x a ha z.symm
 refine⟨m,hm.sameBut hsb hCa,fun h' hs'=> ?_⟩
 exact⟨_,H',I5.turned (h':=h') (t':=s''.toks) (it:=C) (fun b o hb e=>(hs'.2 b hb).trans e) hC1 hCL (.inr hC2) hCc hC3,fin⟩
end
end Py
end
section
namespace Py
open PySem PySem.Spec PyProof.Rows L2
section
variable {X:Cx}
theorem RepL.eraseIdx {K:PySem.W.Frag}{mg:GS}{μ:List Addr}{H:Hp}:∀{ds:List D} {vs:List V} (i:Nat),RepL K mg μ H ds vs→RepL K mg μ H (ds.eraseIdx i) (vs.eraseIdx i)
 | [],vs,i,h=>by unfold RepL at h;subst h;simpa using RepL.nil
 |d::ds,vs,0,h=>by
  obtain⟨v,us,rfl,r,q⟩:=h.uncons
  exact q
 |d::ds,vs,i+1,h=>by
  obtain⟨v,us,rfl,r,q⟩:=h.uncons
  exact .cons r (RepL.eraseIdx i q)
def a9Z' (d:D)(ds:List D)(S:Store):Res D:=match d,ds with
 | .ref n,[.int i]=>match S[n]? with
  |some xs=>match ixN xs.length i with
   |some k=>match xs[k]? with
    |some y=>if xs.length≤big then .ok y (S.set n (xs.eraseIdx k))else .fail
    |none=>.fail
   |none=>.fail
  |none=>.fail
 |_,_=>.fail
theorem popAt_D:MtR X "list.pop" (rM X.K X.mg a9Z'):=by
 intro pins s σ H x xs v us Q I rx rs h
 obtain⟨F,μ,S,d,ds,sk,rd,rds,w⟩:=h
 unfold a9Z' at w
 split at w
 ·split at w
  ·rename_i n i _ ys e
   split at w
   ·rename_i k ek
    split at w
    ·rename_i y e2
     split at w
     ·rename_i hz
      obtain⟨a,vs,rfl,hn,ha,r⟩:=a4Z' sk rd e
      obtain⟨vi,rfl,ri⟩:=rds.one
      cases a0c' ri
      obtain⟨z,h1,h2⟩:=r.get e2
      obtain⟨q1,q2,q3,q4⟩:=a9L' ek
      rw[r.length]at q1
      exact b3P' pins s σ H _ _ v us Q I rx rs ⟨a,vs,i,k,z,rfl,rfl,ha,by have:=Nat.pow_pos (n:=63) (show 0<2 by decide);unfold big at hz;omega,by unfold big at hz;omega,q1,h1,w.wrote sk hn ha (r.eraseIdx k) h2⟩
     ·exact w.elim
    ·exact w.elim
   ·exact w.elim
  ·exact w.elim
 ·exact w.elim
def intsD:List D→Option (List Int)
 | []=>some []
 | .int i::r=>(intsD r).map (i:: ·)
 |_=>none
theorem a5I':∀{xs:List D} {ns:List Int},intsD xs=some ns→xs=ns.map D.int
 | [],ns,h=>by cases h;rfl
 |x::xs,ns,h=>by
  cases x with
  |int i=>
   unfold intsD at h
   cases e:intsD xs with
   |none=>rw[e]at h;cases h
   |some ms=>
    rw[e]at h
    cases h
    rw[a5I' e];rfl
  |_=>cases h
end
end Py
end
section
namespace Py
open PySem PySem.Spec PyProof.Rows L2
def b0a' (ds:List D)(S:Store):Res D:=match ds with
 | [d]=>match a3X' S d with
  |some xs=>match intsD xs with
   |some (n::ns)=>.ok (.int (ns.foldl max n)) S
   |_=>.fail
  |none=>.fail
 |ds=>maxD ds S
theorem b1N' {g:Int→Int→Int}{lt:Int→Int→Bool}(hg:∀a b,g a b=if lt b a=true then b else a)(n:Int)(ns:List Int):∀k,k≤ns.length→(n::ns).getD (argBest (fun i j=>lt ((n::ns).getD i 0) ((n::ns).getD j 0)) k) 0=(ns.take k).foldl g n:=by
 intro k
 induction k with
 |zero=>intro _;rfl
 |succ k ih=>
  intro h
  have hk:=ih (by omega)
  have e:ns.take (k+1)=ns.take k++[ns[k]]:=by rw[List.take_succ,List.getElem?_eq_getElem (by omega)];rfl
  have e2:(n::ns).getD (k+1) 0=ns[k]:=by simp[List.getD,List.getElem?_eq_getElem (show k<ns.length by omega)]
  rw[e,List.foldl_append,List.foldl_cons,List.foldl_nil,hg,←hk,argBest]
  rw[e2]
  split
  ·exact e2
  ·rfl
section
variable {X:Cx}
theorem a5J' {ns:List Int}:∀{its:List Value},Vals (ns.map V.int) its→∀i v,its.toArray[i]? =some v→∃t,v=Value.int (ns.getD i 0) t:=fun{its} rv i v hv=>by
 have hl:=rv.length
 simp only[List.length_map]at hl
 have hv':its[i]? =some v:=by simpa using hv
 have hi:i<ns.length:=by rw[hl];exact(List.getElem?_eq_some_iff.mp hv').1
 have e1:(ns.map V.int)[i]? =some (.int ns[i]):=by rw[List.getElem?_map,List.getElem?_eq_getElem hi];rfl
 obtain⟨u,e2,ru⟩:=rv.get e1
 rw[hv']at e2;cases e2
 obtain⟨t,rfl⟩:=ru
 exact⟨t,by simp[List.getD,List.getElem?_eq_getElem hi]⟩
theorem a8d' {K:PySem.W.Frag}{mg:GS}{μ:List Addr}{H:Hp}:∀(ns:List Int) (vs:List V),RepL K mg μ H (ns.map D.int) vs→vs=ns.map V.int:=by
 intro ns
 induction ns with
 |nil=>intro vs r;unfold RepL at r;exact r
 |cons n ns ih=>
  intro vs r
  obtain⟨v,ws,rfl,r1,r2⟩:=r.uncons
  cases a0c' r1
  rw[ih ws r2];rfl
theorem max_any (hc:X.calm=true):CallR X (.builtin "max") (rC X.K X.mg b0a'):=by
 intro pins s σ H xs us Q I r h
 obtain⟨F,μ,S,ds,sk,rl,w⟩:=h
 unfold b0a' at w
 split at w
 ·rename_i d
  obtain⟨v,rfl,rd⟩:=rl.one
  obtain⟨u,rfl,ru⟩:=vals1 r
  split at w
  ·rename_i ys e
   split at w
   ·rename_i n ns en
    have hys:=a5I' en
    subst hys
    obtain⟨a,vs,rfl,hq,rr⟩:=a0M' sk rd e
    cases ru
    have hv:=a8d' _ vs rr
    subst hv
    have hh:X.A.in1.handled=none:=I.ok.hd hc
    obtain⟨its,rv,p,hz⟩:=I.list (.of hq)
    have hl:its.toArray.size=ns.length+1:=by rw[List.size_toArray,←rv.length,List.length_map];rfl
    refine call_max_walk (wpAny_pyIter_list p.isList ?_)
    have hlt:a<s.heap.objs.size:=by obtain⟨o,ho,_⟩:=p.isList;exact Heap.lt_size ho
    have hne:a≠s.heap.objs.size:=Nat.ne_of_lt hlt
    refine⟨_,_,_,_,_,_,fun i j=>decide ((n::ns).getD i 0>(n::ns).getD j 0),rfl,Walks.list hh s.heap.objs.size a hne its.toArray,⟨⟨_,Heap.get?_push_size _ rfl,rfl,rfl⟩,Heap.IsList.push p.isList _⟩,?_,by omega,?_,fun v h' tk hP kp=> ?_⟩
    ·intro b hb
     have hz2:∀o,(s.heap.push o).objs.size=s.heap.objs.size+1:=fun o=>by simp[Heap.push]
     have hb':b=s.heap.objs.size∨b=a:=by simpa using hb
     refine Nat.lt_of_lt_of_eq ?_ (hz2 _).symm
     rcases hb' with h|h
     ·rw[h];exact Nat.lt_succ_self _
     ·rw[h];exact Nat.lt_succ_of_lt hlt
    ·intro i j vi vj s' Q' E' hi hj hq'
     obtain⟨t1,rfl⟩:=a5J' rv i vi hi
     obtain⟨t2,rfl⟩:=a5J' rv j vj hj
     exact(PyProof.Rows.gt_int hq':wpAny (model X.prog X.w) X.A.in1 (compareOp .Gt _ _) Q' E' s')
    ·obtain⟨t',rfl⟩:=a5J' rv _ v hP
     rw[hl]at*
     have:=b1N' (g:=max) (lt:=fun a b=>decide (a>b)) (fun a b=>by simp only[decide_eq_true_eq];omega) n ns ns.length (Nat.le_refl _)
     rw[List.take_length]at this
     rw[show ns.length+1-1=ns.length from rfl,this]
     refine⟨.int (ns.foldl max n),H,I.kept (h':=h') (t':=tk) fun b o ho=>kp b o ?_ (Heap.get?_push_of_some _ ho),⟨t',rfl⟩,w μ H _ .refl sk a0T'⟩
     intro z
     have z':b=s.heap.objs.size:=by simpa using z
     exact absurd (Heap.lt_size ho) (by rw[z'];exact Nat.lt_irrefl _)
   ·exact w.elim
  ·exact w.elim
 ·exact max_D hc pins s σ H xs us Q I r ⟨F,μ,S,_,sk,rl,w⟩
def b3Y' (d:D)(ds:List D)(S:Store):Res D:=match d,ds with
 | .ref n,[.int k]=>match S[n]? with
  |some xs=>match intsD xs with
   |some ns=>.ok (.int (ns.count k:Nat)) S
   |none=>.fail
  |none=>.fail
 |_,_=>.fail
theorem b0b':∀{ns:List Int} {its:List Value},Vals (ns.map V.int) its→PyProof.Rows.IntsAre its ns
 | [],its,r=>by cases r;exact .nil
 |n::ns,its,r=>by
  cases r with
  |cons p q=>
   obtain⟨t,rfl⟩:=p
   exact .cons _ _ (b0b' q)
theorem count_D:MtR X "list.count" (rM X.K X.mg b3Y'):=by
 intro pins s σ H x xs v us Q I rx rs h
 obtain⟨F,μ,S,d,ds,sk,rd,rds,w⟩:=h
 unfold b3Y' at w
 split at w
 ·rename_i n k
  split at w
  ·rename_i ys e
   split at w
   ·rename_i ns en
    have hys:=a5I' en
    subst hys
    obtain⟨a,vs,rfl,hn,ha,r⟩:=a4Z' sk rd e
    have hv:=a8d' _ vs r
    subst hv
    obtain⟨z,rfl,hz⟩:=rds.one
    cases a0c' hz
    cases rx
    obtain⟨u,rfl,ru⟩:=rs.one
    obtain⟨t,rfl⟩:=ru
    obtain⟨its,rv,p,hz⟩:=I.list (.of ha)
    exact count_list_ints p.isList (b0b' rv) ⟨.int (ns.count k:Nat),H,I.kept (t':=s.toks+1) fun b o e=>e,⟨_,rfl⟩,w μ H _ .refl sk a0T'⟩
   ·exact w.elim
  ·exact w.elim
 ·exact w.elim
end
end Py
end
section
namespace Py
open PySem PySem.Spec PyProof.Rows L2
section
variable {prog:Program}{w:World}{A:Around}{R:Result→Shared→Prop}{I:Addr}{fp wr:List Addr}{n:Nat}{P:Nat→Value→Prop}{St:Nat→Heap→Prop}
end
section
variable {X:Cx}
end
end Py
end
section
namespace Py
open PySem PySem.Spec PyProof.Rows L2
mutual
def toPy:D→Option PyData
 | .non=>some .none
 | .bl b=>some (.bool b)
 | .int i=>some (.int i)
 | .str x=>some (.str x)
 | .tup ds=>(toPyL ds).map .tuple
 | .lst ds=>(toPyL ds).map .list
 |_=>none
def toPyL:List D→Option (List PyData)
 | []=>some []
 |d::ds=>match toPy d,toPyL ds with
  |some p,some ps=>some (p::ps)
  |_,_=>none
end
section
variable {X:Cx}{pins:List (Addr×Obj)}{σ:L2.St}{H:Hp}{s:Shared}{μ:List Addr}{F:List Addr}
mutual
theorem b3Z' (I:Inv X pins σ H s):∀(d:D) (v:V) (u:Value) (p:PyData),Rep X.K ⟨X.mg,F⟩ μ H d v→RelV v u→toPy d=some p→p.hasDict=false∧∃as,Reads s.heap u p as
 | .non,v,u,p,r,q,h=>by
  cases a3Z' r
  have q:u=.none:=q
  subst q;cases h
  exact⟨rfl,_,.none⟩
 | .bl b,v,u,p,r,q,h=>by
  cases a6o' r
  have q:u=.bool b:=q
  subst q;cases h
  exact⟨rfl,_,.bool b⟩
 | .int i,v,u,p,r,q,h=>by
  cases a0c' r
  obtain⟨t,rfl⟩:=q
  cases h
  exact⟨rfl,_,.int i t⟩
 | .str x,v,u,p,r,q,h=>by
  cases a3r' r
  obtain⟨t,rfl⟩:=q
  cases h
  exact⟨rfl,_,.str x t⟩
 | .tup ds,v,u,p,r,q,h=>by
  obtain⟨a,vs,rfl,ha,rr⟩:=a0s' r
  have q:u=.ref a:=q
  subst q
  obtain⟨its,rv,⟨o,h1,h2,n,h3⟩,_⟩:=I.tuple ha
  have h:(toPyL ds).map PyData.tuple=some p:=h
  cases e:toPyL ds with
  |none=>rw[e]at h;cases h
  |some ps=>
   rw[e]at h
   cases h
   obtain⟨k1,as,k2⟩:=a5K' I ds vs its ps rr rv e
   exact⟨k1,as,.tuple h1 h2 h3 (by simpa using k2)⟩
 | .lst ds,v,u,p,r,q,h=>by
  unfold Rep at r
  obtain⟨a,vs,rfl,ha,_,rr⟩:=r
  have q:u=.ref a:=q
  subst q
  obtain⟨its,rv,pl,_⟩:=I.list (.of ha)
  obtain⟨o,h1,h2,n,h3⟩:=pl.isList
  have h:(toPyL ds).map PyData.list=some p:=h
  cases e:toPyL ds with
  |none=>rw[e]at h;cases h
  |some ps=>
   rw[e]at h
   cases h
   obtain⟨k1,as,k2⟩:=a5K' I ds vs its ps rr rv e
   exact⟨k1,_,.list h1 h2 h3 (by simpa using k2)⟩
 | .ref _,v,u,p,r,q,h=>by cases h
 | .scr _,v,u,p,r,q,h=>by cases h
 | .fn _,v,u,p,r,q,h=>by cases h
 | .dct,v,u,p,r,q,h=>by cases h
 | .ty _,v,u,p,r,q,h=>by cases h
theorem a5K' (I:Inv X pins σ H s):∀(ds:List D) (vs:List V) (us:List Value) (ps:List PyData),RepL X.K ⟨X.mg,F⟩ μ H ds vs→Vals vs us→toPyL ds=some ps→PyData.hasDictAll ps=false∧∃as,ReadsAll s.heap us ps as
 | [],vs,us,ps,r,q,h=>by
  unfold RepL at r
  subst r
  cases q.zero
  cases h
  exact⟨rfl,_,.nil⟩
 |d::ds,vs,us,ps,r,q,h=>by
  obtain⟨w,ws,rfl,r1,r2⟩:=r.uncons
  obtain⟨u,us',rfl,q1,q2⟩:=q.un
  unfold toPyL at h
  split at h
  ·rename_i p ps' e1 e2
   cases h
   obtain⟨k1,as,k2⟩:=b3Z' I d w u p r1 q1 e1
   obtain⟨k3,bs,k4⟩:=a5K' I ds ws us' ps' r2 q2 e2
   exact⟨by show(PyData.hasDict p||PyData.hasDictAll ps')=false;rw[k1,k3];rfl,_,.cons k2 k4⟩
  ·cases h
end
end
section
variable {X:Cx}
end
section
variable {X:Cx}
end
end Py
end
section
namespace Py
open PySem PySem.Spec PyProof.Rows L2
section
variable {X:Cx}
end
end Py
end
section
namespace Py
open PySem PySem.Spec PyProof.Rows L2
end Py
end
section
namespace Py
open PySem PySem.Spec PyProof.Rows L2
inductive KTy where
 |int|seq (t:KTy)
 deriving DecidableEq
inductive Blt where
 |len|tuple|list (box:Bool)|int|min|max|isinst|all|any|sum|repr|abs|sorted (box:Bool) (t:KTy)
 deriving DecidableEq
inductive Mth where
 |append|extend|pop|count
 deriving DecidableEq
inductive CT where
 |var (i:Nat)
 |tup (ts:List CT)
inductive CE where
 |var (i:Nat)
 |lit (d:D)
 |glob (x:Str)
 |ty (n:String)
 |bin (op:Operator) (a b:CE)
 |binB (a b:CE)
 |neg (a:CE)
 |cmp (op:CmpOp) (a b:CE)
 |chain (op op':CmpOp) (a b c:CE)
 |band (a b:CE)
 |bor (a b:CE)
 |bnot (a:CE)
 |ite (c a b:CE)
 |tup (es:List CE)
 |lst (box:Bool) (es:List CE)
 |idx (a b:CE)
 |sl (a:CE) (lo hi:List CE)
 |call (f:Str) (es:List CE)
 |blt (b:Blt) (es:List CE)
 |meth (m:Mth) (o:CE) (es:List CE)
 |lenset (a:CE)
 |rng (tup box:Bool) (es:List CE)
 |comp (box:Bool) (N:List Str) (fr:List (Option Nat)) (tg:CT) (it:CE) (ifs:List CE) (body:CE)
 |emit (e:CE)
 |inner (tg:CT) (it:CE) (ifs:List CE) (body:CE)
 |seq (e:CE)
 |range (es:List CE)
 |zip (es:List CE)
 |down (es:List CE)
 |dct
 |rev (a b:CE)
 |enum (es:List CE)
 |revl (es:List CE)
inductive CS where
 |asg (i:Nat) (e:CE)
 |asgT (t:CT) (e:CE)
 |par (is:List Nat) (es:List CE)
 |set (o i v:CE)
 |set2 (o i o' i' v:CE)
 |expr (e:CE)
 |ret (e:CE)
 |retN
 |pass
 |brk
 |cont
 |ite (c:CE) (a b:List CS)
 |for_ (t:CT) (it:CE) (body:List CS)
 |while_ (n:Nat) (c:CE) (body:List CS)
 |never
abbrev Rho:=List (Option D)
abbrev FT:=Str→Option (List D→Store→Res D)
def Res.bind {α β:Type}(r:Res α)(f:α→Store→Res β):Res β:=match r with
 | .ok a S=>f a S
 | .err x S=>.err x S
 | .fail=>.fail
def Res.noErr {α:Type}:Res α→Res α
 | .ok a S=>.ok a S
 |_=>.fail
def onBl {α:Type}(d:D)(f:Bool→Res α):Res α:=match d with
 | .bl k=>f k
 |_=>.fail
def asgVs:List CT→List D→Rho→Option Rho
 | [],ds,ρ=>if ds.isEmpty=true then some ρ else none
 |t::ts,ds,ρ=>match t,ds with
  | .var i,d::ds=>asgVs ts ds (ρ.set i (some d))
  |_,_=>none
def asgCT:CT→D→Rho→Option Rho
 | .var i,d,ρ=>some (ρ.set i (some d))
 | .tup ts,d,ρ=>match d with
  | .tup ds=>asgVs ts ds ρ
  |_=>none
def a2J':List CT→List Nat
 | []=>[]
 |t::ts=>match t with
  | .var i=>i::a2J' ts
  | .tup _=>a2J' ts
def slots:CT→List Nat
 | .var i=>[i]
 | .tup ts=>a2J' ts
def isNew:Rho→List Nat→Bool
 |ρ,is=>is.all fun i=>match ρ[i]? with
  |some none=>true
  |_=>false
def a0m' (t:CT)(d:D)(ρ:Rho):Option Rho:=if isNew ρ (slots t)=true then asgCT t d ρ else none
inductive Its where
 |items (xs:List D)|live (f:Nat) (get:Store→Nat→Option (Option D))
def compD (step:D→List D→Store→Res (List D)):List D→List D→Store→Res (List D)
 | [],acc,S=>.ok acc S
 |x::xs,acc,S=>(step x acc S).bind fun acc' S'=>compD step xs acc' S'
def compB (step:D→List D→Store→Res (List D))(get:Store→Nat→Option (Option D)):Nat→Nat→List D→Store→Res (List D)
 |0,_,_,_=>.fail
 |f+1,i,acc,S=>match get S i with
  |none=>.fail
  |some none=>.ok acc S
  |some (some x)=>(step x acc S).bind fun acc' S'=>compB step get f (i+1) acc' S'
def compI (step:D→List D→Store→Res (List D))(its:Its)(acc:List D)(S:Store):Res (List D):=match its with
 | .items xs=>compD step xs acc S
 | .live f get=>compB step get f 0 acc S
def a1k' (n:Nat):Store→Nat→Option (Option D):=fun S i=>(S[n]?).map fun xs=>xs[i]?
def a0u' (S:Store):D→Option Its
 | .tup xs=>some (.items xs)
 | .lst xs=>some (.items xs)
 | .scr xs=>some (.items xs)
 | .ref n=>some (.live (((S[n]?).getD []).length+1) (a1k' n))
 |_=>none
def b1O':D→Option (List D)
 | .tup xs=>some xs
 | .lst xs=>some xs
 | .scr xs=>some xs
 |_=>none
def b1P' (d e:D):Store→Nat→Option (Option D):=fun S i=>match seqOf S d,seqOf S e with
 |some xs,some ys=>some (match xs[i]?,ys[i]? with
  |some x,some y=>some (.tup [x,y])
  |_,_=>none)
 |_,_=>none
def isLst:D→Bool
 | .tup _=>false
 |_=>true
def zipOf (S:Store)(d e:D):Option Its:=match b1O' d,b1O' e with
  |some xs,some ys=>some (.items (List.zipWith (fun x y=>.tup [x,y]) xs ys))
  |_,_=>match seqOf S d,seqOf S e with
   |some xs,some ys=>some (.live (min xs.length ys.length+1) (b1P' d e))
   |_,_=>none
def b4a' (n L:Nat):Store→Nat→Option (Option D):=fun S i=>match S[n]? with
 |some xs=>if xs.length=L then some (xs.reverse[i]?)else none
 |none=>none
def a3d' (lo:Int):Nat→List D
 |0=>[]
 |n+1=>.int lo::a3d' (lo+1) n
def downL:Nat→List D
 |0=>[]
 |n+1=>.int (n:Nat)::downL n
def toOpt:List D→Option (Option Int)
 | []=>some none
 | [.int i]=>some (some i)
 |_=>none
def optL (ds:List D)(S:Store):Res (Option Int):=match toOpt ds with
 |some o=>.ok o S
 |none=>.fail
def hasTy:KTy→D→Bool
 | .int,.int _=>true
 | .seq t,.tup xs=>xs.all (hasTy t)
 |_,_=>false
def lexB (f:D→D→Bool):List D→List D→Bool
 | [],[]=>false
 | [],_::_=>true
 |_::_,[]=>false
 |x::xs,y::ys=>if f x y=true then true else if f y x=true then false else lexB f xs ys
def ltK:KTy→D→D→Bool
 | .int,.int i,.int j=>decide (i<j)
 | .seq t,.tup xs,.tup ys=>lexB (ltK t) xs ys
 |_,_,_=>false
def insB (f:D→D→Bool)(x:D):List D→List D
 | []=>[x]
 |y::ys=>if f x y=true then x::y::ys else y::insB f x ys
def a4J' (f:D→D→Bool)(xs:List D):List D:=xs.foldl (fun acc x=>insB f x acc) []
def noStr:KTy→Bool
 | .int=>true
 | .seq t=>noStr t
def isNil:D→Bool
 | .tup []=>true
 |_=>false
def a4a':KTy→List D→Bool
 | .int,_=>true
 | .seq t,xs=>noStr t&&((xs.all fun d=> !isNil d)||isNil (xs.headD .non))
def a2K' (box:Bool)(t:KTy)(ds:List D)(S:Store):Res D:=match ds with
 | [d]=>match seqOf S d with
  |some xs=>if xs.all (hasTy t)=true∧xs.length<65536∧a4a' t xs=true then(if box=true then .ok (.ref S.length) (S++[a4J' (ltK t) xs])else .ok (.lst (a4J' (ltK t) xs)) S)else .fail
  |none=>.fail
 |_=>.fail
def asInt:D→Option Int
 | .int i=>some i
 |_=>none
def dedI (ns:List Int):List Int:=ns.foldl step_dedup []
def a8e' (d:D)(S:Store):Res D:=match seqOf S d with
  |some xs=>if xs.all (hasTy .int)=true∧xs.length<1000 then .ok (.int ((dedI (xs.filterMap asInt)).length:Nat)) S else .fail
  |none=>.fail
def depth:KTy→Nat
 | .int=>1
 | .seq t=>depth t+1
def bltB:Blt→Bool
 | .sorted _ t=>decide (depth t≤40)
 | .sum=>false
 | .any=>false
 | .min=>false
 | .repr=>false
 | .abs=>false
 |_=>true
def bltD:Blt→List D→Store→Res D
 | .len=>lenD| .tuple=>a9S'| .list b=>listD b| .int=>intD| .min=>fun _ _=>.fail | .max=>b0a'| .isinst=>a3s'| .all=>allD| .any=>fun _ _=>.fail | .sum=>fun _ _=>.fail | .repr=>fun _ _=>.fail | .abs=>fun _ _=>.fail
 | .sorted b t=>a2K' b t
def b2V' (d:D)(ds:List D)(S:Store):Res D:=match ds with
 | []=>popD d [] S
 |ds=>a9Z' d ds S
def methD:Mth→D→List D→Store→Res D
 | .append=>a2w'| .extend=>fun _ _ _=>.fail | .pop=>b2V'| .count=>b3Y'
section
variable (Φ:FT)(Γ:Str→Option D)
mutual
def den:CE→Rho→Store→Res D
 | .var i,ρ,S=>match ρ[i]? with
  |some (some d)=>.ok d S
  |_=>.fail
 | .dct,ρ,S=>.ok .dct S
 | .lit d,ρ,S=>.ok d S
 | .glob x,ρ,S=>match Γ x with
  |some d=>.ok d S
  |none=>.fail
 | .ty n,ρ,S=>.ok (.ty n) S
 | .bin op a b,ρ,S=>(den a ρ S).bind fun d S1=>(den b ρ S1).bind fun e S2=>(opD op d e S2).noErr
 | .binB a b,ρ,S=>(den a ρ S).bind fun d S1=>(den b ρ S1).bind fun e S2=>(mulBD d e S2).noErr
 | .neg a,ρ,S=>(den a ρ S).bind fun d S1=>match d with
  | .int i=>.ok (.int (-i)) S1
  |_=>.fail
 | .cmp op a b,ρ,S=>(den a ρ S).bind fun d S1=>(den b ρ S1).bind fun e S2=>(cmpD op d e S2).noErr
 | .chain op op' a b c,ρ,S=>(den a ρ S).bind fun d S1=>(den b ρ S1).bind fun e S2=>(cmpD op d e S2).noErr.bind fun k S3=>onBl k fun k=>if k=true then(den c ρ S3).bind fun f S4=>(cmpD op' e f S4).noErr else .ok (.bl false) S3
 | .band a b,ρ,S=>(den a ρ S).bind fun d S1=>onBl d fun k=>if k=true then den b ρ S1 else .ok (.bl false) S1
 | .bor a b,ρ,S=>(den a ρ S).bind fun d S1=>onBl d fun k=>if k=true then .ok (.bl true) S1 else den b ρ S1
 | .bnot a,ρ,S=>(den a ρ S).bind fun d S1=>match truD S1 d with
  |some k=>.ok (.bl (!k)) S1
  |none=>.fail
 | .ite c a b,ρ,S=>(denT c ρ S).bind fun k S1=>if k=true then den a ρ S1 else den b ρ S1
 | .tup es,ρ,S=>(denL es ρ S).bind fun ds S1=>.ok (.tup ds) S1
 | .lst box es,ρ,S=>(denL es ρ S).bind fun ds S1=>if box=true then .ok (.ref S1.length) (S1++[ds])else .ok (.lst ds) S1
 | .rev _ _,_,_=>.fail
 | .idx a b,ρ,S=>(den a ρ S).bind fun d S1=>(den b ρ S1).bind fun e S2=>(idxD d e S2).noErr
 | .sl a lo hi,ρ,S=>(den a ρ S).bind fun d S1=>((denL lo ρ S1).bind optL).bind fun l S2=>((denL hi ρ S2).bind optL).bind fun h S3=>(slD d l h S3).noErr
 | .call f es,ρ,S=>match Φ f with
  |some φ=>(denL es ρ S).bind fun ds S1=>φ ds S1
  |none=>.fail
 | .blt b es,ρ,S=>(denL es ρ S).bind fun ds S1=>(bltD b ds S1).noErr
 | .meth m o es,ρ,S=>(den o ρ S).bind fun d S1=>match d with
  | .ref n=>(denL es ρ S1).bind fun ds S2=>(methD m (.ref n) ds S2).noErr
  |_=>.fail
 | .lenset a,ρ,S=>(den a ρ S).bind fun d S1=>(a8e' d S1).noErr
 | .rng _ _ _,_,_=>.fail
 | .comp box N fr tg it ifs body,ρ,S=>(denI it ρ S).bind fun its S1=>
   (compI (fun x acc S2=>match a0m' tg x (fr.map fun j=>j.bind fun j=>(ρ[j]?).join)with
    |some ρ'=>(denTs ifs ρ' S2).bind fun k S3=>if k=true then denB body ρ' acc S3 else .ok acc S3
    |none=>.fail) its [] S1).noErr.bind fun ys S5=>if box=true then .ok (.ref S5.length) (S5++[ys])else .ok (.lst ys) S5
 | .emit _,_,_=>.fail
 | .inner _ _ _ _,_,_=>.fail
 | .seq _,_,_=>.fail
 | .range _,_,_=>.fail
 | .zip _,_,_=>.fail
 | .down _,_,_=>.fail
 | .enum _,_,_=>.fail
 | .revl _,_,_=>.fail
def denT:CE→Rho→Store→Res Bool
 | .band a b,ρ,S=>(denT a ρ S).bind fun k S1=>if k=true then denT b ρ S1 else .ok false S1
 | .bor a b,ρ,S=>(denT a ρ S).bind fun k S1=>if k=true then .ok true S1 else denT b ρ S1
 | .bnot a,ρ,S=>(denT a ρ S).bind fun k S1=>.ok (!k) S1
 | .cmp op a b,ρ,S=>(den a ρ S).bind fun d S1=>(den b ρ S1).bind fun e S2=>(cmpD op d e S2).noErr.bind fun k S3=>onBl k fun k=>.ok k S3
 | .chain op op' a b c,ρ,S=>(den a ρ S).bind fun d S1=>(den b ρ S1).bind fun e S2=>(cmpD op d e S2).noErr.bind fun k S3=>onBl k fun k=>if k=true then(den c ρ S3).bind fun f S4=>(cmpD op' e f S4).noErr.bind fun k S5=>onBl k fun k=>.ok k S5 else .ok false S3
 | .var i,ρ,S=>match ρ[i]? with
  |some (some d)=>match truD S d with
   |some k=>.ok k S
   |none=>.fail
  |_=>.fail
 | .call f es,ρ,S=>match Φ f with
  |some φ=>(denL es ρ S).bind fun ds S1=>(φ ds S1).bind fun d S2=>match truD S2 d with
   |some k=>.ok k S2
   |none=>.fail
  |none=>.fail
 | .blt b es,ρ,S=>(denL es ρ S).bind fun ds S1=>(bltD b ds S1).noErr.bind fun d S2=>match truD S2 d with
   |some k=>.ok k S2
   |none=>.fail
 | .lit d,ρ,S=>match truD S d with
   |some k=>.ok k S
   |none=>.fail
 |_,_,_=>.fail
def denL:List CE→Rho→Store→Res (List D)
 | [],_,S=>.ok [] S
 |e::es,ρ,S=>(den e ρ S).bind fun d S1=>(denL es ρ S1).bind fun ds S2=>.ok (d::ds) S2
def denTs:List CE→Rho→Store→Res Bool
 | [],_,S=>.ok true S
 |e::es,ρ,S=>(denT e ρ S).bind fun k S1=>if k=true then denTs es ρ S1 else .ok false S1
def denI:CE→Rho→Store→Res Its
 | .seq e,ρ,S=>(den e ρ S).bind fun d S1=>match a0u' S1 d with
  |some xs=>.ok xs S1
  |none=>.fail
 | .range es,ρ,S=>(denL es ρ S).bind fun ds S1=>match ds with
  | [.int j]=>if-(2^62)≤j∧j<2^62 then .ok (.items (a3d' 0 j.toNat)) S1 else .fail
  | [.int i,.int j]=>if-(2^62)≤i∧i<2^62∧-(2^62)≤j∧j<2^62 then .ok (.items (a3d' i (j-i).toNat)) S1 else .fail
  |_=>.fail
 | .enum _,_,_=>.fail
 | .revl es,ρ,S=>(denL es ρ S).bind fun ds S1=>match ds with
  | [.ref n]=>(match S1[n]? with
   |some xs=>.ok (.live (xs.length+1) (b4a' n xs.length)) S1
   |none=>.fail)
  |_=>.fail
 | .down es,ρ,S=>(denL es ρ S).bind fun ds S1=>match ds with
  | [.int j]=>if-(2^62)≤j∧j<2^62 then .ok (.items (downL j.toNat)) S1 else .fail
  |_=>.fail
 | .zip es,ρ,S=>(denL es ρ S).bind fun ds S2=>match ds with
  | [d,e]=>(match zipOf S2 d e with
   |some its=>.ok its S2
   |none=>.fail)
  |_=>.fail
 |_,_,_=>.fail
def denB:CE→Rho→List D→Store→Res (List D)
 | .emit e,ρ,acc,S=>(den e ρ S).bind fun y S1=>if acc.length<big then .ok (acc++[y]) S1 else .fail
 | .inner tg it ifs body,ρ,acc,S=>(denI it ρ S).bind fun its S1=>
   compI (fun x acc S2=>match a0m' tg x ρ with
    |some ρ'=>(denTs ifs ρ' S2).bind fun k S3=>if k=true then denB body ρ' acc S3 else .ok acc S3
    |none=>.fail) its acc S1
 |_,_,_,_=>.fail
end
inductive Fl where
 |next(ρ:Rho)|ret (d:D)|brk (ρ:Rho)|cont (ρ:Rho)
def forD (step:D→Rho→Store→Res Fl):List D→Rho→Store→Res Fl
 | [],ρ,S=>.ok (.next ρ) S
 |x::xs,ρ,S=>(step x ρ S).bind fun f S'=>match f with
  | .next ρ'=>forD step xs ρ' S'
  | .cont ρ'=>forD step xs ρ' S'
  | .brk ρ'=>.ok (.next ρ') S'
  | .ret d=>.ok (.ret d) S'
def forB (step:D→Rho→Store→Res Fl)(get:Store→Nat→Option (Option D)):Nat→Nat→Rho→Store→Res Fl
 |0,_,_,_=>.fail
 |f+1,i,ρ,S=>match get S i with
  |none=>.fail
  |some none=>.ok (.next ρ) S
  |some (some x)=>(step x ρ S).bind fun fl S'=>match fl with
    | .next ρ'=>forB step get f (i+1) ρ' S'
    | .cont ρ'=>forB step get f (i+1) ρ' S'
    | .brk ρ'=>.ok (.next ρ') S'
    | .ret d=>.ok (.ret d) S'
def forI (step:D→Rho→Store→Res Fl)(its:Its)(ρ:Rho)(S:Store):Res Fl:=match its with
 | .items xs=>forD step xs ρ S
 | .live f get=>forB step get f 0 ρ S
def a4K' (c:Rho→Store→Res Bool)(step:Rho→Store→Res Fl):Nat→Rho→Store→Res Fl
 |0,_,_=>.fail
 |n+1,ρ,S=>(c ρ S).bind fun k S1=>if k=true then(step ρ S1).bind fun f S'=>match f with
   | .next ρ'=>a4K' c step n ρ' S'
   | .cont ρ'=>a4K' c step n ρ' S'
   | .brk ρ'=>.ok (.next ρ') S'
   | .ret d=>.ok (.ret d) S'
  else .ok (.next ρ) S1
mutual
def denS:CS→Rho→Store→Res Fl
 | .asg i e,ρ,S=>(den Φ Γ e ρ S).bind fun d S1=>.ok (.next (ρ.set i (some d))) S1
 | .asgT t e,ρ,S=>(den Φ Γ e ρ S).bind fun d S1=>match asgCT t d ρ with
  |some ρ'=>.ok (.next ρ') S1
  |none=>.fail
 | .par _ _,_,_=>.fail
 | .set o i v,ρ,S=>(den Φ Γ v ρ S).bind fun f S1=>(den Φ Γ o ρ S1).bind fun d S2=>(den Φ Γ i ρ S2).bind fun e S3=>match setD d e f S3 with
  |some S4=>.ok (.next ρ) S4
  |none=>.fail
 | .set2 _ _ _ _ _,_,_=>.fail
 | .expr e,ρ,S=>(den Φ Γ e ρ S).bind fun _ S1=>.ok (.next ρ) S1
 | .ret e,ρ,S=>(den Φ Γ e ρ S).bind fun d S1=>.ok (.ret d) S1
 | .retN,_,S=>.ok (.ret .non) S
 | .pass,ρ,S=>.ok (.next ρ) S
 | .brk,ρ,S=>.ok (.brk ρ) S
 | .cont,ρ,S=>.ok (.cont ρ) S
 | .ite c a b,ρ,S=>(denT Φ Γ c ρ S).bind fun k S1=>if k=true then denSs a ρ S1 else denSs b ρ S1
 | .for_ t it body,ρ,S=>(denI Φ Γ it ρ S).bind fun xs S1=>forI (fun x ρ S=>match asgCT t x ρ with
   |some ρ'=>denSs body ρ' S
   |none=>.fail) xs ρ S1
 | .while_ n c body,ρ,S=>a4K' (denT Φ Γ c) (denSs body) n ρ S
 | .never,_,_=>.fail
def denSs:List CS→Rho→Store→Res Fl
 | [],ρ,S=>.ok (.next ρ) S
 |c::cs,ρ,S=>(denS c ρ S).bind fun f S1=>match f with
  | .next ρ'=>denSs cs ρ' S1
  |f=>.ok f S1
end
end
end Py
end
section
namespace Py
open PySem PySem.Spec PyProof.Rows L2
def ExcIs (mg:Str→Option Value)(x:Exc)(cls:Value)(dict:Option Addr)(H:Hp):Prop:=mg x.cls=some cls∧x.fs=[]
def exOf (mg:Str→Option Value)(E:XK)(x:Exc)(H:Hp):Prop:=∀cls dict,ExcIs mg x cls dict H→E cls dict H
def WantG {α β:Type}(K:PySem.W.Frag)(mg:GS)(E:XK)(Rel:List Addr→Hp→α→β→Prop)(μ:List Addr)(H:Hp)(Q:β→Hp→Prop):Res α→Prop
 | .ok a S'=>∀μ' H' b,Ext μ H μ' H'→SOk K mg μ' S' H'→Rel μ' H' a b→Q b H'
 | .err x S'=>∀μ' H',Ext μ H μ' H'→SOk K mg μ' S' H'→exOf mg.mg E x H'
 | .fail=>False
section
variable {K:PySem.W.Frag}{mg:GS}{E:XK}{μ μ':List Addr}{H H':Hp}
theorem a1p' {Q:VK}{r:Res D}(w:WantG K mg E (Rep K mg) μ H Q r.noErr):Want K mg μ H Q r:=by cases r<;>first|exact w|exact w.elim
theorem WantG.ext {α β:Type}{Rel:List Addr→Hp→α→β→Prop}{Q:β→Hp→Prop}{r:Res α}(x:Ext μ H μ' H')(w:WantG K mg E Rel μ H Q r):WantG K mg E Rel μ' H' Q r:=by
 cases r with
 |ok d S'=>exact fun μ2 H2 v x2 s2 r2=>w μ2 H2 v (x.trans x2) s2 r2
 |err y S'=>exact fun μ2 H2 x2 s2=>w μ2 H2 (x.trans x2) s2
 |fail=>exact w
theorem WantG.bind {α β γ δ:Type}{Rel:List Addr→Hp→α→β→Prop}{Rel':List Addr→Hp→γ→δ→Prop}{Q:δ→Hp→Prop}{r:Res α}{f:α→Store→Res γ}(w:WantG K mg E Rel' μ H Q (r.bind f)):
  WantG K mg E Rel μ H (fun b H'=>∃μ' S' a,Ext μ H μ' H'∧SOk K mg μ' S' H'∧Rel μ' H' a b∧WantG K mg E Rel' μ' H' Q (f a S')) r:=by
 cases r with
 |ok a S'=>exact fun μ2 H2 b x s r=>⟨μ2,S',a,x,s,r,WantG.ext x (show WantG K mg E Rel' μ H Q (f a S')from w)⟩
 |err y S'=>exact w
 |fail=>exact w
theorem WantG.mono {α β:Type}{Rel:List Addr→Hp→α→β→Prop}{Q Q':β→Hp→Prop}{r:Res α}(w:WantG K mg E Rel μ H Q r)(h:∀b H',Q b H'→Q' b H'):WantG K mg E Rel μ H Q' r:=by
 cases r with
 |ok a S'=>exact fun μ2 H2 b x s r=>h b H2 (w μ2 H2 b x s r)
 |err y S'=>exact w
 |fail=>exact w
def EnvR (K:PySem.W.Frag)(mg:GS)(μ:List Addr)(H:Hp)(ρ:Rho)(σ:L2.St):Prop:=
 ρ.length=σ.length∧∀(i:Nat) (d:D),ρ[i]? =some (some d)→∃v,σ[i]? =some (some v)∧Rep K mg μ H d v
theorem EnvR.mono {ρ:Rho}{σ:L2.St}(x:Ext μ H μ' H')(h:EnvR K mg μ H ρ σ):EnvR K mg μ' H' ρ σ:=
 ⟨h.1,fun i d e=>let⟨v,a,b⟩:=h.2 i d e;⟨v,a,Rep.mono x _ _ b⟩⟩
theorem EnvR.set {ρ:Rho}{σ:L2.St}{i:Nat}{d:D}{v:V}(h:EnvR K mg μ H ρ σ)(r:Rep K mg μ H d v):EnvR K mg μ H (ρ.set i (some d)) (σ.set i (some v)):=by
 refine⟨by simp[h.1],fun j e he=> ?_⟩
 by_cases hj:j=i
 ·subst hj
  have hl:j<ρ.length:=by
   have:=(List.getElem?_eq_some_iff.mp he).1
   simpa using this
  rw[List.getElem?_set_self hl]at he
  cases he
  exact⟨v,List.getElem?_set_self (by rw[←h.1];exact hl),r⟩
 ·rw[List.getElem?_set_ne (Ne.symm hj)]at he⊢
  exact h.2 j e he
end
section
variable (K:PySem.W.Frag)(mg:Str→Option Value)(E:XK)(Φ:FT)(Γ:Str→Option D)
def tE (c:CE):TE:=fun σ H Q=>∃F μ ρ S,SOk K ⟨mg,F⟩ μ S H∧EnvR K ⟨mg,F⟩ μ H ρ σ∧WantG K ⟨mg,F⟩ E (Rep K ⟨mg,F⟩) μ H Q (den Φ Γ c ρ S)
def tT (c:CE):TT:=fun σ H Q=>∃F μ ρ S,SOk K ⟨mg,F⟩ μ S H∧EnvR K ⟨mg,F⟩ μ H ρ σ∧WantG K ⟨mg,F⟩ E (fun _ _ a b=>a=b) μ H Q (denT Φ Γ c ρ S)
def tL (cs:List CE):TA:=fun σ H Q=>∃F μ ρ S,SOk K ⟨mg,F⟩ μ S H∧EnvR K ⟨mg,F⟩ μ H ρ σ∧WantG K ⟨mg,F⟩ E (RepL K ⟨mg,F⟩) μ H Q (denL Φ Γ cs ρ S)
end
theorem weakE {X:Cx}{e:Expr}{t t':TE}(h:PE X e t)(w:∀σ H Q,t' σ H Q→t σ H Q):PE X e t':=fun pins s σ H Q I q=>h pins s σ H Q I (w σ H Q q)
theorem weakT {X:Cx}{e:Expr}{t t':TT}(h:PT X e t)(w:∀σ H Q,t' σ H Q→t σ H Q):PT X e t':=fun pins s σ H Q I q=>h pins s σ H Q I (w σ H Q q)
theorem weakA {X:Cx}{e:List Expr}{t t':TA}(h:PA X e t)(w:∀σ H Q,t' σ H Q→t σ H Q):PA X e t':=fun pos pins s σ H Q I q=>h pos pins s σ H Q I (w σ H Q q)
def visB (sc:List (Str×NameKind))(x:Str):Bool:=match sc.lookup x with
 |some .local=>true|some .cell=>true|some .free=>true
 |_=>false
def gloB (sc:List (Str×NameKind))(x:Str):Bool:=sc.lookup x==some .globalImplicit&& !(x==("__debug__":Str))&& !(x==("__name__":Str))
def b1Q' (x:Str):Bool:= !(x==("__debug__":Str))&& !(x==("__classdict__":Str))
def a0J':Expr→Bool
 | .Starred _ _=>false
 |_=>true
def litIs:D→Const→Bool
 | .non,.none=>true
 | .bl b,.bool c=>b==c
 | .int i,.int j=>i==j
 | .str x,.str y=>x==y
 |_,_=>false
def a4b':Blt→Str
 | .len=>"len"| .tuple=>"tuple"| .list _=>"list"| .int=>"int"| .min=>"min"| .max=>"max"| .isinst=>"isinstance"| .all=>"all"| .any=>"any"| .sum=>"sum"| .repr=>"repr"| .abs=>"abs"| .sorted _ _=>"sorted"
def bltIs:Blt→Value
 | .len=>.builtin "len"| .tuple=>.type "tuple"| .list _=>.type "list"| .int=>.type "int"| .min=>.builtin "min"| .max=>.builtin "max"| .isinst=>.builtin "isinstance"| .all=>.builtin "all"| .any=>.builtin "any"| .sum=>.builtin "sum"| .repr=>.builtin "repr"| .abs=>.builtin "abs"| .sorted _ _=>.builtin "sorted"
theorem b4b' (b:Blt):bootBuiltins (a4b' b)=some (bltIs b):=by
 cases b with
 |list box=>show bootBuiltins (Str.ofString "list")=some (.type "list");decide+kernel
 |sorted box t=>show bootBuiltins (Str.ofString "sorted")=some (.builtin "sorted");decide+kernel
 |_=>decide+kernel
def a5b':List String:=["int","bool","str","tuple","list","dict"]
theorem ty_boot {n:String}(h:a5b'.contains n=true):bootBuiltins (Str.ofString n)=some (.type n):=by
 simp[a5b']at h
 rcases h with rfl|rfl|rfl|rfl|rfl|rfl<;>decide+kernel
end Py
end
section
namespace Py
open PySem PySem.Spec PyProof.Rows L2
abbrev Sc:=List (Str×NameKind)
def relB (names sc:Sc):Sc:=names.map fun(n,k)=>if(k== .free&&sc.lookup n==some .cell)then(n,.cell)else(n,k)
def ownB (names:Sc):Str→Bool:=fun x=>names.lookup x==some .cell
def scB (scope:Scope)(sc:Sc):Bool:=scope.kind== .function&&scope.names.all fun(n,k)=>(k !=.cell||scope.names.lookup n==some .cell)&&(k !=.local||scope.names.lookup n==some .local)&&(k !=.free||(sc.lookup n==some .cell||sc.lookup n==some .free))
def frB (names:Sc)(N' N:List Str)(fr:List (Option Nat)):Bool:=fr.length==N'.length&&(List.range N'.length).all fun i=>match fr[i]? with
 |some (some j)=>(match N'[i]? with
  |some x=>names.lookup x==some .free&&N[j]? ==some x
  |none=>false)
 |_=>true
def a8S':List Str→Bool
 | []=>true
 |x::r=> !r.contains x&&a8S' r
def a3e':Expr→Bool
 | .Slice _ _ _ _=>false
 |_=>true
theorem b4c' {b:Expr}(h:a3e' b=true):b2R' b:=by
 intro o i
 cases b<;>first|rfl|cases h
def a8f':Mth→Str
 | .append=>"append"| .extend=>"extend"| .pop=>"pop"| .count=>"count"
def isNm:Expr→Bool
 | .Name _ _=>true
 |_=>false
def isTup:Expr→Bool
 | .Tuple _ _ _=>true
 |_=>false
def b1R':Expr→Bool
 | .Set _ _ _=>false
 |_=>true
def dE:Expr:=.Name "" ⟨0,0,0,0⟩
def dG:Comprehension:=⟨dE,dE,[],0⟩
structure Nd where
 e0:Expr:=dE
 e1:Expr:=dE
 e2:Expr:=dE
 es:List Expr:=[]
 lo:Option Expr:=none
 hi:Option Expr:=none
 gs:List Comprehension:=[]
 sc:Scope:=default
 k:Nat:=0
 pos:Pos:=⟨0,0,0,0⟩
def vw:Expr→Nd
 | .BoolOp _ vs p=>{es:=vs,pos:=p}
 | .BinOp l _ r p=>{e0:=l,e1:=r,pos:=p}
 | .UnaryOp _ x p=>{e0:=x,pos:=p}
 | .IfExp t x y p=>{e0:=t,e1:=x,e2:=y,pos:=p}
 | .ListComp el gs sc p=>{e0:=el,gs:=gs,sc:=sc,pos:=p}
 | .Compare l _ rs p=>{e0:=l,es:=rs,pos:=p}
 | .Call f xs _ p=>{e0:=f,es:=xs,pos:=p}
 | .Constant _ k p=>{k:=k,pos:=p}
 | .Attribute v _ p=>{e0:=v,pos:=p}
 | .Subscript v s p=>{e0:=v,e1:=s,pos:=p}
 | .Name _ p=>{pos:=p}
 | .List es p=>{es:=es,pos:=p}
 | .Tuple es k p=>{es:=es,k:=k,pos:=p}
 | .Slice l u s p=>{lo:=l,hi:=u,e2:=s.getD dE,pos:=p}
 | .Dict _ _ p=>{pos:=p}
 |_=>{}
def b2W':D→Const
 | .bl b=>.bool b
 | .int i=>.int i
 | .str x=>.str x
 |_=>.none
def b1S':CT→Bool
 | .tup _=>true
 |_=>false
def b4d':CE→Bool
 | .band _ _=>true
 |_=>false
def isBor:CE→Bool
 | .bor _ _=>true
 |_=>false
def isCmp:CE→Bool
 | .comp .. =>true
 |_=>false
mutual
def emT:CT→List Str→Expr→Expr
 | .var i,N,e=>.Name (N.getD i "") (vw e).pos
 | .tup ts,N,e=>.Tuple (emTL ts N (vw e).es) (vw e).k (vw e).pos
def emTL:List CT→List Str→List Expr→List Expr
 | [],_,_=>[]
 |t::ts,N,es=>emT t N (es.headD dE)::emTL ts N es.tail
end
mutual
def sdT (cell:Str→Bool)(N:List Str)(sc:Sc):CT→Bool
 | .var i=>N[i]? ==some (N.getD i "")&&(sc.lookup (N.getD i "")==some .local||(cell (N.getD i "")&&sc.lookup (N.getD i "")==some .cell))
 | .tup ts=>sdTL cell N sc ts
def sdTL (cell:Str→Bool)(N:List Str)(sc:Sc):List CT→Bool
 | []=>true
 |t::ts=>sdT cell N sc t&&sdTL cell N sc ts
end
mutual
def emE:CE→List Str→Expr→Expr
 | .var i,N,e=>.Name (N.getD i "") (vw e).pos
 | .dct,_,e=>.Dict [] [] (vw e).pos
 | .rev _ _,_,e=>e
 | .lit d,_,e=>.Constant (b2W' d) (vw e).k (vw e).pos
 | .glob y,_,e=>.Name y (vw e).pos
 | .ty n,_,e=>.Name (Str.ofString n) (vw e).pos
 | .bin op a b,N,e=>.BinOp (emE a N (vw e).e0) op (emE b N (vw e).e1) (vw e).pos
 | .binB a b,N,e=>.BinOp (emE a N (vw e).e0) .Mult (emE b N (vw e).e1) (vw e).pos
 | .neg a,N,e=>.UnaryOp .USub (emE a N (vw e).e0) (vw e).pos
 | .cmp op a b,N,e=>.Compare (emE a N (vw e).e0) [op] [emE b N ((vw e).es.headD dE)] (vw e).pos
 | .chain op op' a b c,N,e=>.Compare (emE a N (vw e).e0) [op,op'] [emE b N ((vw e).es.headD dE),emE c N ((vw e).es.tail.headD dE)] (vw e).pos
 | .band a b,N,e=>.BoolOp .And (emE a N ((vw e).es.headD dE)::cond ((vw e).es.length==2) [emE b N ((vw e).es.tail.headD dE)] (vw (emE b N (.BoolOp .And (vw e).es.tail (vw e).pos))).es) (vw e).pos
 | .bor a b,N,e=>.BoolOp .Or (emE a N ((vw e).es.headD dE)::cond ((vw e).es.length==2) [emE b N ((vw e).es.tail.headD dE)] (vw (emE b N (.BoolOp .Or (vw e).es.tail (vw e).pos))).es) (vw e).pos
 | .bnot a,N,e=>.UnaryOp .Not (emE a N (vw e).e0) (vw e).pos
 | .ite c a b,N,e=>.IfExp (emE c N (vw e).e0) (emE a N (vw e).e1) (emE b N (vw e).e2) (vw e).pos
 | .tup es,N,e=>.Tuple (emL es N (vw e).es) (vw e).k (vw e).pos
 | .lst _ es,N,e=>.List (emL es N (vw e).es) (vw e).pos
 | .idx a b,N,e=>.Subscript (emE a N (vw e).e0) (emE b N (vw e).e1) (vw e).pos
 | .sl a lo hi,N,e=>.Subscript (emE a N (vw e).e0) (.Slice (emL lo N (vw (vw e).e1).lo.toList).head? (emL hi N (vw (vw e).e1).hi.toList).head? none (vw (vw e).e1).pos) (vw e).pos
 | .call f es,N,e=>.Call (.Name f (vw (vw e).e0).pos) (emL es N (vw e).es) [] (vw e).pos
 | .blt b es,N,e=>.Call (.Name (a4b' b) (vw (vw e).e0).pos) (emL es N (vw e).es) [] (vw e).pos
 | .meth m o es,N,e=>.Call (.Attribute (emE o N (vw (vw e).e0).e0) (a8f' m) (vw (vw e).e0).pos) (emL es N (vw e).es) [] (vw e).pos
 | .lenset a,N,e=>.Call (.Name "len" (vw (vw e).e0).pos) [.Call (.Name "set" (vw (vw ((vw e).es.headD dE)).e0).pos) [emE a N ((vw ((vw e).es.headD dE)).es.headD dE)] [] (vw ((vw e).es.headD dE)).pos] [] (vw e).pos
 | .rng _ _ _,_,e=>e
 | .comp _ N' _ tg it ifs body,N,e=>.ListComp (emBe body N' (vw e).e0) (⟨emT tg N' ((vw e).gs.headD dG).target,emI it N ((vw e).gs.headD dG).iter,emL ifs N' ((vw e).gs.headD dG).ifs,0⟩::emBg body N' (vw e).gs.tail) (vw e).sc (vw e).pos
 | .emit _,_,e=>e
 | .inner _ _ _ _,_,e=>e
 | .seq _,_,e=>e
 | .range _,_,e=>e
 | .zip _,_,e=>e
 | .down _,_,e=>e
 | .enum _,_,e=>e
 | .revl _,_,e=>e
def emBe:CE→List Str→Expr→Expr
 | .emit a,N,e=>emE a N e
 | .inner _ _ _ body,N,e=>emBe body N e
 |_,_,e=>e
def emBg:CE→List Str→List Comprehension→List Comprehension
 | .inner tg it ifs body,N,gs=>⟨emT tg N (gs.headD dG).target,emI it N (gs.headD dG).iter,emL ifs N (gs.headD dG).ifs,0⟩::emBg body N gs.tail
 |_,_,_=>[]
def emL:List CE→List Str→List Expr→List Expr
 | [],_,_=>[]
 |c::cs,N,es=>emE c N (es.headD dE)::emL cs N es.tail
def emI:CE→List Str→Expr→Expr
 | .seq c,N,e=>emE c N e
 | .range es,N,e=>.Call (.Name "range" (vw (vw e).e0).pos) (emL es N (vw e).es) [] (vw e).pos
 | .enum _,_,e=>e
 | .revl es,N,e=>.Call (.Name "reversed" (vw (vw e).e0).pos) (emL es N (vw e).es) [] (vw e).pos
 | .down es,N,e=>.Call (.Name "reversed" (vw (vw e).e0).pos) [.Call (.Name "range" (vw (vw ((vw e).es.headD dE)).e0).pos) (emL es N (vw ((vw e).es.headD dE)).es) [] (vw ((vw e).es.headD dE)).pos] [] (vw e).pos
 | .zip es,N,e=>.Call (.Name "zip" (vw (vw e).e0).pos) (emL es N (vw e).es) [] (vw e).pos
 |_,_,e=>e
end
mutual
def sdE:CE→List Str→Sc→Expr→Bool
 | .var i,N,sc,_=>N[i]? ==some (N.getD i "")&&(visB sc (N.getD i "")&&b1Q' (N.getD i ""))
 | .dct,_,_,_=>true
 | .rev _ _,_,_,_=>false
 | .lit d,_,_,_=>litIs d (b2W' d)
 | .glob y,_,sc,_=>gloB sc y
 | .ty n,_,sc,_=>gloB sc (Str.ofString n)&&a5b'.contains n
 | .bin _ a b,N,sc,e=>sdE a N sc (vw e).e0&&sdE b N sc (vw e).e1
 | .binB a b,N,sc,e=>sdE a N sc (vw e).e0&&sdE b N sc (vw e).e1
 | .neg a,N,sc,e=>sdE a N sc (vw e).e0
 | .cmp op a b,N,sc,e=>sdE a N sc (vw e).e0&&(sdE b N sc ((vw e).es.headD dE)&& !behindInMarks op (emE b N ((vw e).es.headD dE)))
 | .chain _ op' a b c,N,sc,e=>sdE a N sc (vw e).e0&&(sdE b N sc ((vw e).es.headD dE)&&(sdE c N sc ((vw e).es.tail.headD dE)&& !behindInMarks op' (emE c N ((vw e).es.tail.headD dE))))
 | .band a b,N,sc,e=>sdE a N sc ((vw e).es.headD dE)&&cond ((vw e).es.length==2) (sdE b N sc ((vw e).es.tail.headD dE)) (b4d' b&&sdE b N sc (.BoolOp .And (vw e).es.tail (vw e).pos))
 | .bor a b,N,sc,e=>sdE a N sc ((vw e).es.headD dE)&&cond ((vw e).es.length==2) (sdE b N sc ((vw e).es.tail.headD dE)) (isBor b&&sdE b N sc (.BoolOp .Or (vw e).es.tail (vw e).pos))
 | .bnot a,N,sc,e=>sdE a N sc (vw e).e0
 | .ite c a b,N,sc,e=>sdE c N sc (vw e).e0&&(sdE a N sc (vw e).e1&&sdE b N sc (vw e).e2)
 | .tup es,N,sc,e=>sdL es N sc (vw e).es&&decide (es.length<1000)
 | .lst _ es,N,sc,e=>sdL es N sc (vw e).es&&decide (es.length<1000)
 | .idx a b,N,sc,e=>sdE a N sc (vw e).e0&&(sdE b N sc (vw e).e1&&a3e' (emE b N (vw e).e1))
 | .sl a lo hi,N,sc,e=>sdE a N sc (vw e).e0&&(sdL lo N sc (vw (vw e).e1).lo.toList&&(sdL hi N sc (vw (vw e).e1).hi.toList&&(decide (lo.length<2)&&decide (hi.length<2))))
 | .call f es,N,sc,e=>gloB sc f&&(sdL es N sc (vw e).es&& !es.isEmpty)
 | .blt b es,N,sc,e=>gloB sc (a4b' b)&&(sdL es N sc (vw e).es&&(!es.isEmpty&&bltB b))
 | .meth m o es,N,sc,e=>isNm (emE o N (vw (vw e).e0).e0)&&((vw (vw e).e0).pos.endLine==(vw e).pos.line&&(sdE o N sc (vw (vw e).e0).e0&&(sdL es N sc (vw e).es&&decide (es.length<20))))
 | .lenset a,N,sc,e=>gloB sc "len"&&(gloB sc "set"&&(sdE a N sc ((vw ((vw e).es.headD dE)).es.headD dE)&&a0J' (emE a N ((vw ((vw e).es.headD dE)).es.headD dE))))
 | .rng _ _ _,_,_,_=>false
 | .comp _ N' fr tg it ifs body,N,sc,e=>scB (vw e).sc sc&&(frB (vw e).sc.names N' N fr&&(a8S' N'&&(sdT (ownB (vw e).sc.names) N' (relB (vw e).sc.names sc) tg&&(sdI it N sc tg ((vw e).gs.headD dG).iter&&(b1R' (emI it N ((vw e).gs.headD dG).iter)&&(sdL ifs N' (relB (vw e).sc.names sc) ((vw e).gs.headD dG).ifs&&sdB body (ownB (vw e).sc.names) N' (relB (vw e).sc.names sc) (vw e).gs.tail (vw e).e0))))))
 | .emit _,_,_,_=>false
 | .inner _ _ _ _,_,_,_=>false
 | .seq _,_,_,_=>false
 | .range _,_,_,_=>false
 | .zip _,_,_,_=>false
 | .down _,_,_,_=>false
 | .enum _,_,_,_=>false
 | .revl _,_,_,_=>false
def sdB:CE→(Str→Bool)→List Str→Sc→List Comprehension→Expr→Bool
 | .emit a,_,N,sc,_,e=>sdE a N sc e
 | .inner tg it ifs body,cell,N,sc,gs,e=>sdT cell N sc tg&&(sdI it N sc tg (gs.headD dG).iter&&(b1R' (emI it N (gs.headD dG).iter)&&(sdL ifs N sc (gs.headD dG).ifs&&sdB body cell N sc gs.tail e)))
 |_,_,_,_,_,_=>false
def sdL:List CE→List Str→Sc→List Expr→Bool
 | [],_,_,_=>true
 |c::cs,N,sc,es=>sdE c N sc (es.headD dE)&&(a0J' (emE c N (es.headD dE))&&sdL cs N sc es.tail)
def sdI:CE→List Str→Sc→CT→Expr→Bool
 | .seq c,N,sc,_,e=>sdE c N sc e
 | .range es,N,sc,_,e=>gloB sc "range"&&(sdL es N sc (vw e).es&&(es.length==1||es.length==2))
 | .enum _,_,_,_,_=>false
 | .revl es,N,sc,_,e=>gloB sc "reversed"&&(sdL es N sc (vw e).es&&es.length==1)
 | .down es,N,sc,_,e=>gloB sc "reversed"&&(gloB sc "range"&&(sdL es N sc (vw ((vw e).es.headD dE)).es&&es.length==1))
 | .zip es,N,sc,t,e=>gloB sc "zip"&&(sdL es N sc (vw e).es&&(es.length==2&&b1S' t))
 |_,_,_,_,_=>false
end
theorem andB {a b:Bool}(h:(a&&b)=true):a=true∧b=true:=Bool.and_eq_true_iff.mp h
theorem decB {p:Prop} [Decidable p] (h:decide p=true):p:=of_decide_eq_true h
theorem notB {a:Bool}(h:(!a)=true):a=false:=by cases a;rfl;cases h
end Py
end
section
namespace Py
open PySem PySem.Spec PyProof.Rows L2
def spOf (K:PySem.W.Frag)(mg:Str→Option Value)(n:Nat)(φ:List D→Store→Res D):Sp:=fun vs H Q E=>vs.length=n∧∃F μ S ds,SOk K ⟨mg,F⟩ μ S H∧RepL K ⟨mg,F⟩ μ H ds vs∧WantG K ⟨mg,F⟩ E (Rep K ⟨mg,F⟩) μ H Q (φ ds S)
structure FOk (P:Program)(w:World)(K:PySem.W.Frag)(mg:Str→Option Value)(base:Heap)(CX:CXT)(k:Nat)(f:Str)(φ:List D→Store→Res D):Prop where
 ex:∃fa fd ps,mg f=some (.ref fa)∧PySem.W.keepIn K (.ref fa)=true∧Binds K fd ps []∧FnOk P w K mg base CX k fa fd ps (spOf K mg ps.length φ)∧∀ds S,φ ds S≠.fail→ds.length=ps.length
def a1O':List Str:=["len","tuple","list","int","min","max","isinstance","all","any","sorted","bool","str","dict","range","zip","set","sum","reversed","repr","abs","enumerate"]
structure MOk (P:Program)(w:World)(K:PySem.W.Frag)(mg:Str→Option Value)(base:Heap)(CX:CXT)(Φ:FT)(Γ:Str→Option D)(k:Nat):Prop where
 fns:∀f φ,Φ f=some φ→FOk P w K mg base CX k f φ
 gl:∀x d,Γ x=some d→∃v u,mg x=some u∧RelV v u∧∀F μ H,Rep K ⟨mg,F⟩ μ H d v
 bl:∀x∈a1O',mg x=none
structure XOk (X:Cx)(cell:Str→Bool)(N:List Str)(sc:Sc)(CX:CXT)(E:XK)(Φ:FT)(Γ:Str→Option D)(k:Nat):Prop where
 n:X.N=N
 nd:N.Nodup
 sc:X.env.scope.names=sc
 kd:X.env.scope.kind=.function
 calm:X.calm=true
 room:Room k X.A
 fn:∀x,cell x=true→X.fn x=true
 mod:MOk X.prog X.w X.K X.mg X.base CX Φ Γ k
 pass:b3K' CX X E
 cx0:∀outer H s e s',CX outer H s E0 e s'→False
section
variable {X:Cx}{E:XK}{CX:CXT}{Φ:FT}{Γ:Str→Option D}{N:List Str}{sc:Sc}{k:Nat}{cell:Str→Bool}{l r e:Expr}{pos:Pos}{a b c:CE}
theorem s_bin {op:Operator}(ha:PE X l (tE X.K X.mg E Φ Γ a))(hb:PE X r (tE X.K X.mg E Φ Γ b)):PE X (.BinOp l op r pos) (tE X.K X.mg E Φ Γ (.bin op a b)):=
 weakE (pe_op (op_D op) ha hb) fun σ H Q zz=>ex43 zz fun F μ ρ S sk en w=>
  ⟨F,μ,ρ,S,sk,en,(WantG.bind w).mono fun v1 H1 zz=>ex34 zz fun μ1 S1 d1 x1 s1 r1 w1=>⟨F,μ1,ρ,S1,s1,en.mono x1,(WantG.bind w1).mono fun v2 H2 zz=>ex34 zz fun μ2 S2 d2 x2 s2 r2 w2=>⟨F,μ2,S2,d1,d2,s2,Rep.mono x2 _ _ r1,r2,a1p' w2⟩⟩⟩
theorem s_binB (ha:PE X l (tE X.K X.mg E Φ Γ a))(hb:PE X r (tE X.K X.mg E Φ Γ b)):PE X (.BinOp l .Mult r pos) (tE X.K X.mg E Φ Γ (.binB a b)):=
 weakE (pe_op op_BD ha hb) fun σ H Q zz=>ex43 zz fun F μ ρ S sk en w=>
  ⟨F,μ,ρ,S,sk,en,(WantG.bind w).mono fun v1 H1 zz=>ex34 zz fun μ1 S1 d1 x1 s1 r1 w1=>⟨F,μ1,ρ,S1,s1,en.mono x1,(WantG.bind w1).mono fun v2 H2 zz=>ex34 zz fun μ2 S2 d2 x2 s2 r2 w2=>⟨F,μ2,S2,d1,d2,s2,Rep.mono x2 _ _ r1,r2,a1p' w2⟩⟩⟩
theorem s_cmp {op:CmpOp}(hu:X.A.units+64<cLine)(ha:PE X l (tE X.K X.mg E Φ Γ a))(hb:PE X r (tE X.K X.mg E Φ Γ b))(hm:behindInMarks op r=false):PE X (.Compare l [op] [r] pos) (tE X.K X.mg E Φ Γ (.cmp op a b)):=
 weakE (pe_cmpR (cmp_D op hu) ha hb hm) fun σ H Q zz=>ex43 zz fun F μ ρ S sk en w=>
  ⟨F,μ,ρ,S,sk,en,(WantG.bind w).mono fun v1 H1 zz=>ex34 zz fun μ1 S1 d1 x1 s1 r1 w1=>⟨F,μ1,ρ,S1,s1,en.mono x1,(WantG.bind w1).mono fun v2 H2 zz=>ex34 zz fun μ2 S2 d2 x2 s2 r2 w2=>⟨F,μ2,S2,d1,d2,s2,Rep.mono x2 _ _ r1,r2,a1p' w2⟩⟩⟩
theorem a5c' {K:PySem.W.Frag}{mg:GS}{E:XK}{μ:List Addr}{H:Hp}{α β:Type}{Rel:List Addr→Hp→α→β→Prop}{Q:β→Hp→Prop}{d:D}{f:Bool→Res α}{v:V}
  (w:WantG K mg E Rel μ H Q (onBl d f)) (r:Rep K mg μ H d v):∃k,v=.bl k∧d=.bl k∧WantG K mg E Rel μ H Q (f k):=by
 cases d with
 |bl k=>exact⟨k,a6o' r,rfl,w⟩
 |_=>exact w.elim
theorem t_cmp {op:CmpOp}(hu:X.A.units+64<cLine)(ha:PE X l (tE X.K X.mg E Φ Γ a))(hb:PE X r (tE X.K X.mg E Φ Γ b))(hm:behindInMarks op r=false):PT X (.Compare l [op] [r] pos) (tT X.K X.mg E Φ Γ (.cmp op a b)):=
 weakT (pt_cmpR (cmp_D op hu) ha hb hm) fun σ H Q zz=>ex43 zz fun F μ ρ S sk en w=>
  ⟨F,μ,ρ,S,sk,en,(WantG.bind w).mono fun v1 H1 zz=>ex34 zz fun μ1 S1 d1 x1 s1 r1 w1=>⟨F,μ1,ρ,S1,s1,en.mono x1,(WantG.bind w1).mono fun v2 H2 zz=>ex34 zz fun μ2 S2 d2 x2 s2 r2 w2=>
   ⟨F,μ2,S2,d1,d2,s2,Rep.mono x2 _ _ r1,r2,a1p' ((WantG.bind w2).mono fun v3 H3 zz=>ex34 zz fun μ3 S3 d3 x3 s3 r3 w3=>by
    obtain⟨k,rfl,rfl,w4⟩:=a5c' w3 r3
    exact⟨k,rfl,w4 μ3 H3 k .refl s3 rfl⟩)⟩⟩⟩
theorem s_chain {op op':CmpOp}{r':Expr}(hu:X.A.units+64<cLine)(ha:PE X l (tE X.K X.mg E Φ Γ a))(hb:PE X r (tE X.K X.mg E Φ Γ b))(hc:PE X r' (tE X.K X.mg E Φ Γ c))(hm:behindInMarks op' r'=false):PE X (.Compare l [op,op'] [r,r'] pos) (tE X.K X.mg E Φ Γ (.chain op op' a b c)):=
 weakE (b3G' (cmp_D op hu) (cmp_D op' hu) ha hb hc hm) fun σ H Q zz=>ex43 zz fun F μ ρ S sk en w=>
  ⟨F,μ,ρ,S,sk,en,(WantG.bind w).mono fun v1 H1 zz=>ex34 zz fun μ1 S1 d1 x1 s1 r1 w1=>⟨F,μ1,ρ,S1,s1,en.mono x1,(WantG.bind w1).mono fun v2 H2 zz=>ex34 zz fun μ2 S2 d2 x2 s2 r2 w2=>
   ⟨F,μ2,S2,d1,d2,s2,Rep.mono x2 _ _ r1,r2,a1p' ((WantG.bind w2).mono fun v3 H3 zz=>ex34 zz fun μ3 S3 d3 x3 s3 r3 w3=>by
    obtain⟨k,rfl,rfl,w4⟩:=a5c' w3 r3
    refine⟨k,rfl,?_⟩
    cases k with
    |true=>
     rw[if_pos rfl]at w4⊢
     exact⟨F,μ3,ρ,S3,s3,(en.mono x1).mono (x2.trans x3),(WantG.bind w4).mono fun v4 H4 zz=>ex34 zz fun μ4 S4 d4 x4 s4 r4 w5=>⟨F,μ4,S4,d2,d4,s4,Rep.mono (x3.trans x4) _ _ r2,r4,a1p' w5⟩⟩
    |false=>
     rw[if_neg (by decide)]at w4⊢
     exact w4 μ3 H3 _ .refl s3 repBl)⟩⟩⟩
theorem t_chain {op op':CmpOp}{r':Expr}(hu:X.A.units+64<cLine)(ha:PE X l (tE X.K X.mg E Φ Γ a))(hb:PE X r (tE X.K X.mg E Φ Γ b))(hc:PE X r' (tE X.K X.mg E Φ Γ c))(hm:behindInMarks op' r'=false):PT X (.Compare l [op,op'] [r,r'] pos) (tT X.K X.mg E Φ Γ (.chain op op' a b c)):=
 weakT (b3H' (cmp_D op hu) (cmp_D op' hu) ha hb hc hm) fun σ H Q zz=>ex43 zz fun F μ ρ S sk en w=>
  ⟨F,μ,ρ,S,sk,en,(WantG.bind w).mono fun v1 H1 zz=>ex34 zz fun μ1 S1 d1 x1 s1 r1 w1=>⟨F,μ1,ρ,S1,s1,en.mono x1,(WantG.bind w1).mono fun v2 H2 zz=>ex34 zz fun μ2 S2 d2 x2 s2 r2 w2=>
   ⟨F,μ2,S2,d1,d2,s2,Rep.mono x2 _ _ r1,r2,a1p' ((WantG.bind w2).mono fun v3 H3 zz=>ex34 zz fun μ3 S3 d3 x3 s3 r3 w3=>by
    obtain⟨k,rfl,rfl,w4⟩:=a5c' w3 r3
    refine⟨k,rfl,?_⟩
    cases k with
    |true=>
     rw[if_pos rfl]at w4⊢
     exact⟨F,μ3,ρ,S3,s3,(en.mono x1).mono (x2.trans x3),(WantG.bind w4).mono fun v4 H4 zz=>ex34 zz fun μ4 S4 d4 x4 s4 r4 w5=>⟨F,μ4,S4,d2,d4,s4,Rep.mono (x3.trans x4) _ _ r2,r4,a1p' ((WantG.bind w5).mono fun v5 H5 zz=>ex34 zz fun μ5 S5 d5 x5 s5 r5 w6=>by
      obtain⟨k,rfl,rfl,w7⟩:=a5c' w6 r5
      exact⟨k,rfl,w7 μ5 H5 k .refl s5 rfl⟩)⟩⟩
    |false=>
     rw[if_neg (by decide)]at w4⊢
     exact⟨false,rfl,w4 μ3 H3 _ .refl s3 rfl⟩)⟩⟩⟩
theorem s_and {rest:List Expr}(ha:PE X l (tE X.K X.mg E Φ Γ a))(hb:PE X (.BoolOp .And (r::rest) pos) (tE X.K X.mg E Φ Γ b)):PE X (.BoolOp .And (l::r::rest) pos) (tE X.K X.mg E Φ Γ (.band a b)):=
 weakE (pe_and ha hb) fun σ H Q zz=>ex43 zz fun F μ ρ S sk en w=>
  ⟨F,μ,ρ,S,sk,en,(WantG.bind w).mono fun v1 H1 zz=>ex34 zz fun μ1 S1 d1 x1 s1 r1 w1=>by
   obtain⟨k,rfl,rfl,w2⟩:=a5c' w1 r1
   refine⟨k,rfl,?_⟩
   cases k with
   |true=>rw[if_pos rfl]at w2⊢;exact⟨F,μ1,ρ,S1,s1,en.mono x1,w2⟩
   |false=>rw[if_neg (by decide)]at w2⊢;exact w2 μ1 H1 _ .refl s1 repBl⟩
theorem s_or {rest:List Expr}(ha:PE X l (tE X.K X.mg E Φ Γ a))(hb:PE X (.BoolOp .Or (r::rest) pos) (tE X.K X.mg E Φ Γ b)):PE X (.BoolOp .Or (l::r::rest) pos) (tE X.K X.mg E Φ Γ (.bor a b)):=
 weakE (pe_or ha hb) fun σ H Q zz=>ex43 zz fun F μ ρ S sk en w=>
  ⟨F,μ,ρ,S,sk,en,(WantG.bind w).mono fun v1 H1 zz=>ex34 zz fun μ1 S1 d1 x1 s1 r1 w1=>by
   obtain⟨k,rfl,rfl,w2⟩:=a5c' w1 r1
   refine⟨k,rfl,?_⟩
   cases k with
   |true=>rw[if_pos rfl]at w2⊢;exact w2 μ1 H1 _ .refl s1 repBl
   |false=>rw[if_neg (by decide)]at w2⊢;exact⟨F,μ1,ρ,S1,s1,en.mono x1,w2⟩⟩
theorem pe_notT {ta:TE}(ha:PE X l ta):PE X (.UnaryOp .Not l pos) (fun σ H Q=>ta σ H fun x H'=>∃k,TruV X.K x H' k∧Q (.bl (!k)) H'):=by
 intro pins s σ H Q I h
 refine UnaryOp_ (thn (ha pins s σ H _ I h) fun v s1 ⟨x,H1,I1,r1,k,t1,q1⟩=> ?_)
 refine not_of (thn (tru_ok pins s1 σ H1 x v (fun k H'=>Q (.bl (!k)) H') I1 r1 ⟨k,t1,q1⟩) fun k' s2 ⟨H2,I2,q2⟩=> ?_)
 exact⟨.bl (!k'),H2,I2,rfl,q2⟩
theorem b0c' {K:PySem.W.Frag}{mg:GS}{E:XK}{μ:List Addr}{H:Hp}{α β:Type}{Rel:List Addr→Hp→α→β→Prop}{Q:β→Hp→Prop}{d:D}{S:Store}{f:Bool→Res α}
  (w:WantG K mg E Rel μ H Q (match truD S d with|some k=>f k|none=>.fail)):∃k,truD S d=some k∧WantG K mg E Rel μ H Q (f k):=by
 cases e:truD S d with
 |none=>rw[e]at w;exact w.elim
 |some k=>rw[e]at w;exact⟨k,rfl,w⟩
theorem s_not (ha:PE X l (tE X.K X.mg E Φ Γ a)):PE X (.UnaryOp .Not l pos) (tE X.K X.mg E Φ Γ (.bnot a)):=
 weakE (pe_notT ha) fun σ H Q zz=>ex43 zz fun F μ ρ S sk en w=>⟨F,μ,ρ,S,sk,en,(WantG.bind w).mono fun v1 H1 zz=>ex34 zz fun μ1 S1 d1 x1 s1 r1 w1=>by
  obtain⟨k,e,w2⟩:=b0c' w1
  exact⟨k,tru_D s1 r1 e,w2 μ1 H1 _ .refl s1 repBl⟩⟩
theorem s_neg (ha:PE X l (tE X.K X.mg E Φ Γ a)):PE X (.UnaryOp .USub l pos) (tE X.K X.mg E Φ Γ (.neg a)):=
 weakE (pe_un un_neg ha) fun σ H Q zz=>ex43 zz fun F μ ρ S sk en w=>⟨F,μ,ρ,S,sk,en,(WantG.bind w).mono fun v1 H1 zz=>ex34 zz fun μ1 S1 d1 x1 s1 r1 w1=>by
  cases d1 with
  |int i=>exact⟨i,a0c' r1,w1 μ1 H1 _ .refl s1 a0T'⟩
  |_=>exact w1.elim⟩
theorem t_and {rest:List Expr}(ha:PT X l (tT X.K X.mg E Φ Γ a))(hb:PW X (.BoolOp .And (r::rest) pos) (tT X.K X.mg E Φ Γ b)):PW X (.BoolOp .And (l::r::rest) pos) (tT X.K X.mg E Φ Γ (.band a b)):=fun wh pins s σ H Q I zz=>ex43 zz fun F μ ρ S sk en w=>
 pw_and ha hb wh pins s σ H Q I ⟨F,μ,ρ,S,sk,en,(WantG.bind w).mono fun k H1 zz=>ex34 zz fun μ1 S1 k' x1 s1 e1 w1=>by
  subst e1
  cases k' with
  |true=>rw[if_pos rfl]at w1⊢;exact⟨F,μ1,ρ,S1,s1,en.mono x1,w1⟩
  |false=>rw[if_neg (by decide)]at w1⊢;exact w1 μ1 H1 _ .refl s1 rfl⟩
theorem t_or {rest:List Expr}(ha:PT X l (tT X.K X.mg E Φ Γ a))(hb:PW X (.BoolOp .Or (r::rest) pos) (tT X.K X.mg E Φ Γ b)):PW X (.BoolOp .Or (l::r::rest) pos) (tT X.K X.mg E Φ Γ (.bor a b)):=fun wh pins s σ H Q I zz=>ex43 zz fun F μ ρ S sk en w=>
 pw_or ha hb wh pins s σ H Q I ⟨F,μ,ρ,S,sk,en,(WantG.bind w).mono fun k H1 zz=>ex34 zz fun μ1 S1 k' x1 s1 e1 w1=>by
  subst e1
  cases k' with
  |true=>rw[if_pos rfl]at w1⊢;exact w1 μ1 H1 _ .refl s1 rfl
  |false=>rw[if_neg (by decide)]at w1⊢;exact⟨F,μ1,ρ,S1,s1,en.mono x1,w1⟩⟩
theorem t_not (ha:PT X l (tT X.K X.mg E Φ Γ a)):PT X (.UnaryOp .Not l pos) (tT X.K X.mg E Φ Γ (.bnot a)):=
 weakT (pt_not ha) fun σ H Q zz=>ex43 zz fun F μ ρ S sk en w=>⟨F,μ,ρ,S,sk,en,(WantG.bind w).mono fun k H1 zz=>ex34 zz fun μ1 S1 k' x1 s1 e1 w1=>by
  subst e1
  exact w1 μ1 H1 _ .refl s1 rfl⟩
theorem s_ite {t x y:Expr}(hc:PT X t (tT X.K X.mg E Φ Γ c))(ha:PE X x (tE X.K X.mg E Φ Γ a))(hb:PE X y (tE X.K X.mg E Φ Γ b)):PE X (.IfExp t x y pos) (tE X.K X.mg E Φ Γ (.ite c a b)):=
 weakE (b3B' hc ha hb) fun σ H Q zz=>ex43 zz fun F μ ρ S sk en w=>⟨F,μ,ρ,S,sk,en,(WantG.bind w).mono fun k H1 zz=>ex34 zz fun μ1 S1 k' x1 s1 e1 w1=>by
  subst e1
  cases k' with
  |true=>rw[if_pos rfl]at w1⊢;exact⟨F,μ1,ρ,S1,s1,en.mono x1,w1⟩
  |false=>rw[if_neg (by decide)]at w1⊢;exact⟨F,μ1,ρ,S1,s1,en.mono x1,w1⟩⟩
theorem s_nil:PA X [] (tL X.K X.mg E Φ Γ []):=weakA b3J' fun σ H Q zz=>ex43 zz fun F μ ρ S sk en w=>w μ H [] .refl sk .nil
theorem a0l' {env:Env}{es:List Expr}(h:a0J' e=true):starEach (e::es) env=(false,eval e env)::starEach es env:=by
 cases e<;>first|rfl|cases h
theorem s_cons {es:List Expr}{cs:List CE}(hn:a0J' e=true)(ha:PE X e (tE X.K X.mg E Φ Γ a))(hr:PA X es (tL X.K X.mg E Φ Γ cs)):PA X (e::es) (tL X.K X.mg E Φ Γ (a::cs)):=
 weakA (a9G' ha hr (a0l' hn)) fun σ H Q zz=>ex43 zz fun F μ ρ S sk en w=>⟨F,μ,ρ,S,sk,en,(WantG.bind w).mono fun v1 H1 zz=>ex34 zz fun μ1 S1 d1 x1 s1 r1 w1=>
  ⟨F,μ1,ρ,S1,s1,en.mono x1,(WantG.bind w1).mono fun vs H2 zz=>ex34 zz fun μ2 S2 ds x2 s2 r2 w2=>w2 μ2 H2 _ .refl s2 (.cons (Rep.mono x2 _ _ r1) r2)⟩⟩
end
end Py
end
section
namespace Py
open PySem PySem.Spec PyProof.Rows L2
theorem b0d':∀{cs:List CE} {N:List Str} {es:List Expr},(emL cs N es).length=cs.length
 | [],N,es=>rfl
 |c::cs,N,es=>congrArg Nat.succ (b0d' (cs:=cs) (N:=N) (es:=es.tail))
theorem a1l':∀{cs:List CE} {N:List Str} {sc:Sc} {es:List Expr},sdL cs N sc es=true→∀e∈emL cs N es,a0J' e=true
 | [],N,sc,es,h,e,he=>absurd he List.not_mem_nil
 |c::cs,N,sc,es,h,e,he=>by
  rcases List.mem_cons.mp he with rfl|he
  ·exact(andB (andB h).2).1
  ·exact a1l' (andB (andB h).2).2 e he
theorem a3M':∀{es:List Expr} {env:Env} {pos:Pos},(∀e∈es,a0J' e=true)→(backTo pos (starEach es env)).any (·.1)=false
 | [],env,pos,h=>rfl
 |e::es,env,pos,h=>by
  rw[a0l' (h e List.mem_cons_self)]
  show(false||(backTo pos (starEach es env)).any (·.1))=false
  rw[a3M' fun e he=>h e (List.mem_cons_of_mem _ he)]
  rfl
theorem b0e':∀{es:List Expr} {env:Env} {pos:Pos},(∀e∈es,a0J' e=true)→(backTo pos (starEach es env)).all (fun x=> !x.1)=true
 | [],env,pos,h=>rfl
 |e::es,env,pos,h=>by
  rw[a0l' (h e List.mem_cons_self)]
  show(!false&&(backTo pos (starEach es env)).all (fun x=> !x.1))=true
  rw[b0e' fun e he=>h e (List.mem_cons_of_mem _ he)]
  rfl
section
variable {Φ:FT}{Γ:Str→Option D}
theorem a7w':∀{cs:List CE} {ρ:Rho} {S S':Store} {ds:List D},denL Φ Γ cs ρ S=.ok ds S'→ds.length=cs.length
 | [],ρ,S,S',ds,h=>by unfold denL at h;cases h;rfl
 |c::cs,ρ,S,S',ds,h=>by
  unfold denL at h
  cases e:den Φ Γ c ρ S with
  |ok d S1=>
   rw[e]at h
   cases e2:denL Φ Γ cs ρ S1 with
   |ok ds1 S2=>
    simp only[Res.bind,e2]at h
    cases h
    simp[a7w' e2]
   |err x S2=>simp only[Res.bind,e2]at h;cases h
   |fail=>simp only[Res.bind,e2]at h;cases h
  |err x S1=>rw[e]at h;cases h
  |fail=>rw[e]at h;cases h
end
theorem b1T' {sc:Sc}{x:Str}{s:Scope}(hs:s.names=sc)(h:visB sc x=true):Vis s x:=by
 unfold Vis
 rw[hs]
 unfold visB at h
 split at h<;>simp_all
theorem a5d' {x:Str}(h:b1Q' x=true):(x==("__debug__":Str))=false∧(x==("__classdict__":Str))=false:=by
 unfold b1Q' at h
 simp only[Bool.and_eq_true,Bool.not_eq_true']at h
 exact h
theorem a0F' {sc:Sc}{x:Str}(h:gloB sc x=true):sc.lookup x=some .globalImplicit∧(x==("__debug__":Str))=false∧x≠"__name__":=by
 unfold gloB at h
 simp only[Bool.and_eq_true,Bool.not_eq_true',beq_iff_eq]at h
 refine⟨h.1.1,h.1.2,fun z=> ?_⟩
 subst z
 exact absurd h.2 (by decide)
section
variable {X:Cx}{E:XK}{CX:CXT}{Φ:FT}{Γ:Str→Option D}{N:List Str}{sc:Sc}{k:Nat}{cell:Str→Bool}{l r e:Expr}{es:List Expr}{pos p2:Pos}{a b c:CE}{cs:List CE}{x:Str}
theorem XOk.gl (O:XOk X cell N sc CX E Φ Γ k)(h:sc.lookup x=some .globalImplicit):Gl X x:=by
 show X.env.scope.names.lookup x=_
 rw[O.sc];exact h
theorem s_var (O:XOk X cell N sc CX E Φ Γ k){i:Nat}(h1:(N[i]? ==some x)=true)(h2:visB sc x=true)(h3:b1Q' x=true):PE X (.Name x pos) (tE X.K X.mg E Φ Γ (.var i)):=by
 refine weakE (pe_var (i:=i) (by rw[O.n];simpa using h1) (b1T' O.sc h2) (a5d' h3).1 (a5d' h3).2) fun σ H Q zz=>ex43 zz fun F μ ρ S sk en w=> ?_
 simp only[den]at w
 split at w
 ·rename_i d e
  obtain⟨v,e1,r1⟩:=en.2 i d e
  exact⟨v,e1,w μ H v .refl sk r1⟩
 ·exact w.elim
theorem s_lit {d:D}{cn:Const}{j}(h:litIs d cn=true):PE X (.Constant cn j pos) (tE X.K X.mg E Φ Γ (.lit d)):=by
 unfold litIs at h
 split at h
 ·exact weakE pe_non fun σ H Q zz=>ex43 zz fun F μ ρ S sk en w=>w μ H _ .refl sk b1G'
 ·have e:=(beq_iff_eq).mp h
  subst e
  exact weakE pe_bl fun σ H Q zz=>ex43 zz fun F μ ρ S sk en w=>w μ H _ .refl sk repBl
 ·have e:=(beq_iff_eq).mp h
  subst e
  exact weakE pe_int fun σ H Q zz=>ex43 zz fun F μ ρ S sk en w=>w μ H _ .refl sk a0T'
 ·have e:=(beq_iff_eq).mp h
  subst e
  exact weakE pe_str fun σ H Q zz=>ex43 zz fun F μ ρ S sk en w=>w μ H _ .refl sk repStr
 ·cases h
theorem s_glob (O:XOk X cell N sc CX E Φ Γ k)(h:gloB sc x=true):PE X (.Name x pos) (tE X.K X.mg E Φ Γ (.glob x)):=by
 obtain⟨h1,h2,h3⟩:=a0F' h
 cases e:Γ x with
 |none=>
  intro pins s σ H Q I ⟨F,μ,ρ,S,sk,en,w⟩
  simp only[den]at w
  rw[e]at w
  exact w.elim
 |some d=>
  obtain⟨v,u,m1,m2,m3⟩:=O.mod.gl x d e
  refine weakE (pe_glob (O.gl h1) m1 m2 h2) fun σ H Q zz=>ex43 zz fun F μ ρ S sk en w=> ?_
  simp only[den]at w
  rw[e]at w
  exact w μ H v .refl sk (m3 F μ H)
theorem tyN_blt {n:String}(h:a5b'.contains n=true):(Str.ofString n)∈a1O':=by
 simp[a5b']at h
 rcases h with rfl|rfl|rfl|rfl|rfl|rfl<;>decide+kernel
theorem s_ty (O:XOk X cell N sc CX E Φ Γ k){n:String}(h:gloB sc (Str.ofString n)=true)(h2:a5b'.contains n=true):PE X (.Name (Str.ofString n) pos) (tE X.K X.mg E Φ Γ (.ty n)):=by
 obtain⟨h1,h3,h4⟩:=a0F' h
 refine weakE (pe_bltn (v:=.ty n) (O.gl h1) (O.mod.bl _ (tyN_blt h2)) (ty_boot h2) rfl h4 h3) fun σ H Q zz=>ex43 zz fun F μ ρ S sk en w=> ?_
 exact w μ H (.ty n) .refl sk (by unfold Rep;rfl)
theorem len_of {K:PySem.W.Frag}{mg:GS}{μ:List Addr}{H:Hp}{Q:List V→Hp→Prop}{ρ:Rho}{S:Store}(hl:cs.length<1000)(w:WantG K mg E (RepL K mg) μ H Q (denL Φ Γ cs ρ S)):WantG K mg E (RepL K mg) μ H (fun vs H'=>vs.length≤sizeLine∧Q vs H') (denL Φ Γ cs ρ S):=by
 cases e:denL Φ Γ cs ρ S with
 |ok ds S'=>
  rw[e]at w
  intro μ' H' vs x s r
  refine⟨?_,w μ' H' vs x s r⟩
  rw[←r.length,a7w' e]
  exact Nat.le_of_lt (Nat.lt_of_lt_of_le hl (by decide))
 |err y S'=>rw[e]at w;exact w
 |fail=>rw[e]at w;exact w
theorem s_tup {x1}(hl:cs.length<1000)(h:PA X es (tL X.K X.mg E Φ Γ cs)):PE X (.Tuple es x1 pos) (tE X.K X.mg E Φ Γ (.tup cs)):=
 weakE (pe_tup h) fun σ H Q zz=>ex43 zz fun F μ ρ S sk en w=>⟨F,μ,ρ,S,sk,en,(len_of hl (WantG.bind w)).mono fun vs H1 ⟨hz,μ1,S1,ds,x1,s1,r1,w1⟩=>⟨hz,fun p hp=>by
  exact Want.tup (show Want X.K ⟨X.mg,F⟩ μ1 H1 Q (.ok (.tup ds) S1)from w1) s1 r1 p hp⟩⟩
theorem s_lst {box:Bool}(hl:cs.length<1000)(h:PA X es (tL X.K X.mg E Φ Γ cs)):PE X (.List es pos) (tE X.K X.mg E Φ Γ (.lst box cs)):=
 weakE (pe_lst h) fun σ H Q zz=>ex43 zz fun F μ ρ S sk en w=>⟨F,μ,ρ,S,sk,en,(len_of hl (WantG.bind w)).mono fun vs H1 ⟨hz,μ1,S1,ds,x1,s1,r1,w1⟩=>⟨hz,fun p hp=>by
  cases box with
  |true=>exact Want.box (show Want X.K ⟨X.mg,F⟩ μ1 H1 Q (.ok (.ref S1.length) (S1++[ds]))from w1) s1 r1 p hp
  |false=>exact Want.lst (show Want X.K ⟨X.mg,F⟩ μ1 H1 Q (.ok (.lst ds) S1)from w1) s1 r1 p hp⟩⟩
theorem s_dct:PE X (.Dict [] [] pos) (tE X.K X.mg E Φ Γ .dct):=fun pins s σ H Q I zz=>ex43 zz fun F μ ρ S sk en w=>by
 have hlt:mainGlobals<s.heap.objs.size:=Nat.lt_of_lt_of_le I.mod.glob.lt (Nat.le_trans I.ok.bsz I.sz)
 have hp:H s.heap.objs.size=none:=I.hok.fresh (Nat.le_refl _)
 refine wpAny_Dict_empty ⟨.ref s.heap.objs.size,upd H s.heap.objs.size (.dK []),I.laid (t':=s.toks) (o:=.dK []) (fun b ob q=>Heap.get?_push_of_some _ q) (Nat.le_refl _) ?_,rfl,?_⟩
 ·refine⟨Nat.zero_le _,?_,[],.nil,_, #[],_,Heap.get?_push_size _ rfl,⟨rfl,rfl,rfl⟩,rfl,fun e he=>by simp at he,.nil,.nil⟩
  have h3:mainGlobals=3:=rfl
  have h1:sysModules=1:=rfl
  rw[beq_eq_false_iff_ne]
  intro z
  rw[z,h1,h3]at hlt
  exact absurd hlt (by decide)
 ·exact w μ _ _ (.laid hp) (sk.laid hp) (by unfold Rep;exact⟨_,rfl,a0I'⟩)
theorem s_idx (hs:a3e' r=true)(ha:PE X l (tE X.K X.mg E Φ Γ a))(hb:PE X r (tE X.K X.mg E Φ Γ b)):PE X (.Subscript l r pos) (tE X.K X.mg E Φ Γ (.idx a b)):=
 weakE (pe_ix ix_D ha hb (b4c' hs)) fun σ H Q zz=>ex43 zz fun F μ ρ S sk en w=>
  ⟨F,μ,ρ,S,sk,en,(WantG.bind w).mono fun v1 H1 zz=>ex34 zz fun μ1 S1 d1 x1 s1 r1 w1=>⟨F,μ1,ρ,S1,s1,en.mono x1,(WantG.bind w1).mono fun v2 H2 zz=>ex34 zz fun μ2 S2 d2 x2 s2 r2 w2=>⟨F,μ2,S2,d1,d2,s2,Rep.mono x2 _ _ r1,r2,a1p' w2⟩⟩⟩
def tPt (K:PySem.W.Frag)(mg:Str→Option Value)(E:XK)(Φ:FT)(Γ:Str→Option D)(cs:List CE):TO:=fun σ H Q=>∃F μ ρ S,SOk K ⟨mg,F⟩ μ S H∧EnvR K ⟨mg,F⟩ μ H ρ σ∧
 WantG K ⟨mg,F⟩ E (fun _ _ o o'=>o=o') μ H Q ((denL Φ Γ cs ρ S).bind optL)
theorem s_part0:PO X none (tPt X.K X.mg E Φ Γ []):=by
 intro pins s σ H Q I ⟨F,μ,ρ,S,sk,en,w⟩
 exact po_none pins s σ H Q I (w μ H none .refl sk rfl)
theorem s_part1 (ha:PE X e (tE X.K X.mg E Φ Γ a)):PO X (some e) (tPt X.K X.mg E Φ Γ [a]):=by
 intro pins s σ H Q I ⟨F,μ,ρ,S,sk,en,w⟩
 refine po_some ha pins s σ H Q I ⟨F,μ,ρ,S,sk,en,?_⟩
 have w':WantG X.K ⟨X.mg,F⟩ E (fun _ _ o o'=>o=o') μ H Q ((den Φ Γ a ρ S).bind fun d S1=>optL [d] S1):=by
  have e1:(denL Φ Γ [a] ρ S).bind optL=(den Φ Γ a ρ S).bind fun d S1=>optL [d] S1:=by
   rw[denL]
   cases den Φ Γ a ρ S<;>rfl
  rw[←e1];exact w
 refine(WantG.bind w').mono fun v H1 zz=>ex34 zz fun μ1 S1 d x1 s1 r1 w1=> ?_
 cases d with
 |int i=>exact⟨i,a0c' r1,w1 μ1 H1 (some i) .refl s1 rfl⟩
 |_=>exact w1.elim
theorem s_sl {lo hi:Option Expr}{cl ch:List CE}(ha:PE X l (tE X.K X.mg E Φ Γ a))(hl:PO X lo (tPt X.K X.mg E Φ Γ cl))(hh:PO X hi (tPt X.K X.mg E Φ Γ ch)):PE X (.Subscript l (.Slice lo hi none p2) pos) (tE X.K X.mg E Φ Γ (.sl a cl ch)):=
 weakE (b3M' sl_D ha hl hh) fun σ H Q zz=>ex43 zz fun F μ ρ S sk en w=>⟨F,μ,ρ,S,sk,en,(WantG.bind w).mono fun v1 H1 zz=>ex34 zz fun μ1 S1 d1 x1 s1 r1 w1=>⟨F,μ1,ρ,S1,s1,en.mono x1,
  (WantG.bind w1).mono fun o H2 zz=>ex34 zz fun μ2 S2 o' x2 s2 e2 w2=>⟨F,μ2,ρ,S2,s2,(en.mono x1).mono x2,(WantG.bind w2).mono fun o2 H3 zz=>ex34 zz fun μ3 S3 o2' x3 s3 e3 w3=>by
   subst e2;subst e3
   exact⟨F,μ3,S3,d1,s3,Rep.mono (x2.trans x3) _ _ r1,a1p' w3⟩⟩⟩⟩
theorem s_call (O:XOk X cell N sc CX E Φ Γ k){f:Str}(h:gloB sc f=true)(hst:∀x∈e::es,a0J' x=true)(ha:PA X (e::es) (tL X.K X.mg E Φ Γ cs)):PE X (.Call (.Name f p2) (e::es) [] pos) (tE X.K X.mg E Φ Γ (.call f cs)):=by
 obtain⟨h1,h2,h3⟩:=a0F' h
 cases ef:Φ f with
 |none=>
  intro pins s σ H Q I ⟨F,μ,ρ,S,sk,en,w⟩
  simp only[den]at w
  rw[ef]at w
  exact w.elim
 |some φ=>
  obtain⟨fa,fd,ps,m1,m2,m3,m4,m5⟩:=(O.mod.fns f φ ef).ex
  refine weakE (pe_call (E:=E) m4 O.room (O.gl h1) m1 m2 m3 .nil O.pass ha h2 (a0l' (hst e List.mem_cons_self)) (a3M' fun x hx=>hst x (List.mem_cons_of_mem _ hx))) fun σ H Q zz=>ex43 zz fun F μ ρ S sk en w=> ?_
  simp only[den]at w
  rw[ef]at w
  refine⟨F,μ,ρ,S,sk,en,(WantG.bind w).mono fun vs H1 zz=>ex34 zz fun μ1 S1 ds x1 s1 r1 w1=> ?_⟩
  rw[List.append_nil]
  refine⟨?_,F,μ1,S1,ds,s1,r1,w1⟩
  rw[←r1.length]
  exact m5 ds S1 fun z=>by rw[z]at w1;exact w1
theorem s_blt (O:XOk X cell N sc CX E Φ Γ k){b:Blt}(hb:CallR X (bltIs b) (rC X.K X.mg (bltD b)))(h:gloB sc (a4b' b)=true)(hst:∀x∈e::es,a0J' x=true)(ha:PA X (e::es) (tL X.K X.mg E Φ Γ cs)):PE X (.Call (.Name (a4b' b) p2) (e::es) [] pos) (tE X.K X.mg E Φ Γ (.blt b cs)):=by
 obtain⟨h1,h2,h3⟩:=a0F' h
 have hm:X.mg (a4b' b)=none:=O.mod.bl _ (by
  cases b with
  |list box=>show(Str.ofString "list")∈a1O';decide+kernel
  |sorted box t=>show(Str.ofString "sorted")∈a1O';decide+kernel
  |_=>decide+kernel)
 have key:PE X (.Call (.Name (a4b' b) p2) (e::es) [] pos) (tCB (rC X.K X.mg (bltD b)) (tL X.K X.mg E Φ Γ cs)):=by
  have s1:=a0l' (env:=X.env) (es:=es) (hst e List.mem_cons_self)
  have s2:=a3M' (env:=X.env) (pos:=pos) fun x hx=>hst x (List.mem_cons_of_mem _ hx)
  have hv:=b4b' b
  cases b with
  |tuple=>exact a3K' hb (O.gl h1) hm hv ha h3 h2 s1 s2
  |list box=>exact a3K' hb (O.gl h1) hm hv ha h3 h2 s1 s2
  |int=>exact a3K' hb (O.gl h1) hm hv ha h3 h2 s1 s2
  |_=>exact a9I' hb (O.gl h1) hm hv ha h3 h2 s1 s2
 refine weakE key fun σ H Q zz=>ex43 zz fun F μ ρ S sk en w=>⟨F,μ,ρ,S,sk,en,(WantG.bind w).mono fun vs H1 zz=>ex34 zz fun μ1 S1 ds x1 s1 r1 w1=>⟨F,μ1,S1,ds,s1,r1,a1p' w1⟩⟩
theorem b0f' {K:PySem.W.Frag}{mg:GS}{μ:List Addr}{H:Hp}{S:Store}{n:Nat}{v:V}(s:SOk K mg μ S H)(r:Rep K mg μ H (.ref n) v):tyV K "list" v H:=by
 unfold Rep at r
 obtain⟨a,rfl,h⟩:=r
 have hl:n<S.length:=by rw[←s.len];exact(List.getElem?_eq_some_iff.mp h).1
 obtain⟨vs,h1,q⟩:=s.at_ n a _ h (List.getElem?_eq_getElem hl)
 exact .inl ⟨rfl,vs,.of h1⟩
def mthId:Mth→String
 | .append=>"list.append"| .extend=>"list.extend"| .pop=>"list.pop"| .count=>"list.count"
theorem mth_ok (m:Mth):MtR X (mthId m) (rM X.K X.mg (methD m)):=by
 cases m with
 |append=>exact b3V'
 |count=>exact count_D
 |extend=>exact fun _ _ _ _ _ _ _ _ _ _ _ _ ⟨_,_,_,_,_,_,_,_,w⟩=>w.elim
 |pop=>
  intro pins s σ H x xs v us Q I rx rs h
  obtain⟨F,μ,S,d,ds,sk,rd,rds,w⟩:=h
  cases ds with
  |nil=>exact pop_D pins s σ H x xs v us Q I rx rs ⟨F,μ,S,d,[],sk,rd,rds,w⟩
  |cons e es=>exact popAt_D pins s σ H x xs v us Q I rx rs ⟨F,μ,S,d,e::es,sk,rd,rds,w⟩
theorem b0g' (m:Mth):Slot "list" (a8f' m) (mthId m):=by
 cases m with
 |append=>exact PySem.F.slot_list_append
 |count=>exact PySem.F.slot_list_count
 |extend=>exact PySem.F.slot_list_extend
 |pop=>exact PySem.F.slot_list_pop
theorem b0h' (m:Mth):typeOf (.builtin (mthId m))=pure (.type "method_descriptor"):=by
 cases m with
 |append=>exact PySem.F.type_list_append
 |count=>exact PySem.F.type_list_count
 |extend=>exact PySem.F.type_list_extend
 |pop=>exact PySem.F.type_list_pop
theorem s_meth {m:Mth}{o:Expr}{apos:Pos}(hn:isNm o=true)(hl:(apos.endLine==pos.line)=true)(hst:∀x∈es,a0J' x=true)(hz:es.length<20)(hcs:cs.length=es.length)(ho:PE X o (tE X.K X.mg E Φ Γ a))(ha:PA X es (tL X.K X.mg E Φ Γ cs)):
  PE X (.Call (.Attribute o (a8f' m) apos) es [] pos) (tE X.K X.mg E Φ Γ (.meth m a cs)):=by
 have hbase:attributeBase o (a8f' m) X.env (eval o X.env)=eval o X.env:=by cases o<;>first|rfl|cases hn
 have key:∀{F μ1 S1 H1 ρ d1 Q v1},SOk X.K ⟨X.mg,F⟩ μ1 S1 H1→Rep X.K ⟨X.mg,F⟩ μ1 H1 d1 v1→WantG X.K ⟨X.mg,F⟩ E (Rep X.K ⟨X.mg,F⟩) μ1 H1 Q (match d1 with
   | .ref n=>(denL Φ Γ cs ρ S1).bind fun ds S2=>(methD m (.ref n) ds S2).noErr
   |_=>.fail)→tyV X.K "list" v1 H1∧WantG X.K ⟨X.mg,F⟩ E (RepL X.K ⟨X.mg,F⟩) μ1 H1 (fun vs H2=>rM X.K X.mg (methD m) v1 vs H2 Q) (denL Φ Γ cs ρ S1):=by
  intro F μ1 S1 H1 ρ d1 Q v1 s1 r1 w1
  cases d1 with
  |ref n=>exact⟨b0f' s1 r1,(WantG.bind w1).mono fun vs H2 zz=>ex34 zz fun μ2 S2 ds x2 s2 r2 w2=>⟨F,μ2,S2,_,ds,s2,Rep.mono x2 _ _ r1,r2,a1p' w2⟩⟩
  |_=>exact w1.elim
 cases es with
 |nil=>
  have e:cs=[]:=List.eq_nil_of_length_eq_zero hcs
  subst e
  refine weakE (pe_bm0 PySem.F.plainAttrs_list (b0g' m) (b0h' m) (mth_ok m) ho hbase hl) fun σ H Q zz=>ex43 zz fun F μ ρ S sk en w=>⟨F,μ,ρ,S,sk,en,(WantG.bind w).mono fun v1 H1 zz=>ex34 zz fun μ1 S1 d1 x1 s1 r1 w1=> ?_⟩
  obtain⟨k1,k2⟩:=key s1 r1 w1
  exact⟨k1,k2 μ1 H1 [] .refl s1 .nil⟩
 |cons e es=>
  refine weakE (pe_bm PySem.F.plainAttrs_list (b0g' m) (b0h' m) (mth_ok m) ho ha hbase ?_ hl (a0l' (hst e List.mem_cons_self)) (a3M' fun x hx=>hst x (List.mem_cons_of_mem _ hx))) fun σ H Q zz=>ex43 zz fun F μ ρ S sk en w=>⟨F,μ,ρ,S,sk,en,(WantG.bind w).mono fun v1 H1 zz=>ex34 zz fun μ1 S1 d1 x1 s1 r1 w1=> ?_⟩
  ·rw[b0e' hst]
   have e1:(backToKw pos (keywordEach [] X.env)).all (fun x=>x.1.isSome)=true:=rfl
   rw[e1]
   simp only[Bool.true_and,decide_eq_true_eq]
   have e2:(if([]:List Keyword).isEmpty then 0 else 1)=0:=rfl
   rw[e2]
   simp only[List.length_nil]
   omega
  ·obtain⟨k1,k2⟩:=key s1 r1 w1
   exact⟨k1,F,μ1,ρ,S1,s1,en.mono x1,k2⟩
end
end Py
end
section
namespace Py
open PySem PySem.Spec PyProof.Rows L2
section
variable {prog:Program}{w:World}{A:Around}{E:Value→Shared→Prop}{s:Shared}
theorem b0i' {it t:Addr}{i:Nat}{items:Array Value}{x:Value}{Q:Value→Shared→Prop}(hit:s.heap.IsTupleIter it t i)(ht:s.heap.IsTuple t items)(hx:items[i]? =some x)
  (hQ:∀h',h'.IsTupleIter it t (i+1)→Heap.SameBut it s.heap h'→Q x {s with heap:=h'}):wpAny (model prog w) A (Builtin.SmallTypes.nextOf (.ref it)) Q E s:=by
 obtain⟨o,ho,hc,hd⟩:=id hit
 obtain⟨ol,hol,_,nl,hdl⟩:=ht
 unfold Builtin.SmallTypes.nextOf
 refine wpAny_bind (wpAny_callSpecial?_slot (name:=Str.ofString "__next__") hit.typeIs F.slot_tuple_iterator_next (wpAny_call_entry F.slot_tuple_iterator_next hit.typeIs F.entry_tuple_iterator_next ?_ (F.args_tuple_iterator_next_1 _)))
 show wpAny _ _ (field (.ref it) 0>>=_) _ _ s
 refine wpAny_bind (wpAny_field ho hd (x:=.ref t) rfl ?_)
 show wpAny _ _ (if(Value.ref t==Value.none)=true then _ else _) _ _ s
 rw[if_neg (show ¬((Value.ref t==Value.none)=true)from Bool.false_ne_true)]
 show wpAny _ _ (field (.ref it) 1>>=_) _ _ s
 refine wpAny_bind (wpAny_field ho hd (x:=.int i 0) rfl ?_)
 show wpAny _ _ (seqItems? (.ref t)>>=_) _ _ s
 refine wpAny_bind (wpAny_seqItems hol hdl ?_)
 simp only[Int.toNat_natCast,hx]
 refine wpAny_bind (wpAny_setField ho hd (by simp) (wpAny_pure ⟨x,rfl,wpAny_pure (hQ _ ?_ (Heap.SameBut.update ..))⟩))
 exact⟨_,Heap.get?_update_self _ ho (Obj.isFreed_of_fields (Obj.data_mapFields hd _)),(Obj.cls_mapFields ..).trans hc,by rw[Obj.data_mapFields hd];simp[rawInt]⟩
theorem a8g' {it t:Addr}{i:Nat}{items:Array Value}{Q:Value→Shared→Prop}(hh:A.handled=none)(hit:s.heap.IsTupleIter it t i)(ht:s.heap.IsTuple t items)(hx:items[i]? =none)
  (hE:∀h' e,Heap.ExtBut it s.heap h'→(∃o,h'.get? e=some o∧o.cls=.type "StopIteration")→E (.ref e) {s with heap:=h'}):wpAny (model prog w) A (Builtin.SmallTypes.nextOf (.ref it)) Q E s:=by
 obtain⟨o,ho,hc,hd⟩:=id hit
 obtain⟨ol,hol,_,nl,hdl⟩:=ht
 unfold Builtin.SmallTypes.nextOf
 refine wpAny_bind (wpAny_callSpecial?_slot (name:=Str.ofString "__next__") hit.typeIs F.slot_tuple_iterator_next (wpAny_call_entry F.slot_tuple_iterator_next hit.typeIs F.entry_tuple_iterator_next ?_ (F.args_tuple_iterator_next_1 _)))
 show wpAny _ _ (field (.ref it) 0>>=_) _ _ s
 refine wpAny_bind (wpAny_field ho hd (x:=.ref t) rfl ?_)
 show wpAny _ _ (if(Value.ref t==Value.none)=true then _ else _) _ _ s
 rw[if_neg (show ¬((Value.ref t==Value.none)=true)from Bool.false_ne_true)]
 show wpAny _ _ (field (.ref it) 1>>=_) _ _ s
 refine wpAny_bind (wpAny_field ho hd (x:=.int i 0) rfl ?_)
 show wpAny _ _ (seqItems? (.ref t)>>=_) _ _ s
 refine wpAny_bind (wpAny_seqItems hol hdl ?_)
 simp only[Int.toNat_natCast,hx]
 refine wpAny_bind (wpAny_rule (wpAny_bind (wpAny_setField ho hd (by simp) ?_)))
 show wpAny _ _ (newExc (.type "StopIteration") []>>=_) _ _ _
 refine wpAny_bind ?_
 simp only[newExc,newTuple]
 refine wpAny_bind (wpAny_newObj_type ?_ (by size_fits))
 refine wpAny_bind (m:=firstArgMember _ _) (wpAny_of_eq (a:=Value.none) (by first|rfl| (simp only[firstArgMember];rfl)) ?_)
 refine wpAny_newObj_type ?_ (by size_fits)
 simp only[raiseNew]
 refine wpAny_bind (wpAny_handled ?_)
 first|rw[show A.in1.handled=none from hh]|rw[hh]
 refine wpAny_bind (wpAny_pure (wpAny_throw ?_))
 exact hE _ _ (((Heap.SameBut.update ..).extBut.push _).push _) ⟨_,Heap.get?_push_size _ rfl,rfl⟩
end
def IsSq (b:Bool)(h:Heap)(l:Addr)(xs:Array Value):Prop:=match b with
 |true=>h.IsList l xs
 |false=>h.IsTuple l xs
def IsIt (b:Bool)(h:Heap)(it l:Addr)(i:Nat):Prop:=match b with
 |true=>h.IsListIter it l i
 |false=>h.IsTupleIter it l i
theorem IsSq.at {b:Bool}{h h':Heap}{l:Addr}{xs:Array Value}(q:IsSq b h l xs)(k:∀o,h.get? l=some o→h'.get? l=some o):IsSq b h' l xs:=by
 cases b with
 |true=>exact Heap.IsList.at q k
 |false=>obtain⟨o,e,r⟩:=q;exact⟨o,k o e,r⟩
theorem IsIt.at {b:Bool}{h h':Heap}{it l:Addr}{i:Nat}(q:IsIt b h it l i)(k:∀o,h.get? it=some o→h'.get? it=some o):IsIt b h' it l i:=by
 cases b with
 |true=>exact Heap.IsListIter.at q k
 |false=>exact Heap.IsTupleIter.at q k
theorem IsIt.obj {b:Bool}{h:Heap}{it l:Addr}{i:Nat}(q:IsIt b h it l i):∃o,h.get? it=some o∧∀v,o.data≠.cell v:=by
 cases b with
 |true=>obtain⟨o,e,c,d⟩:=q;exact⟨o,e,fun v z=>by rw[d]at z;cases z⟩
 |false=>obtain⟨o,e,c,d⟩:=q;exact⟨o,e,fun v z=>by rw[d]at z;cases z⟩
theorem draws {prog:Program}{w:World}{A:Around}(hh:A.handled=none)(b:Bool)(it l:Addr)(hne:l≠it)(items:Array Value):
  Draws prog w A it [it,l] items.size (fun i v=>items[i]? =some v) (fun i h=>IsIt b h it l i∧IsSq b h l items):=by
 cases b with
 |true=>exact Draws.list hh it l hne items
 |false=>exact{
   live:=fun _ _ st=>let⟨o,ho,_⟩:=st.1;⟨o,ho⟩
   frame:=fun _ _ _ st hk=>⟨st.1.at fun o e=>hk it (by simp) o e,st.2.at fun o e=>hk l (by simp) o e⟩
   item:=fun i s Q E hi st hQ=>by
    refine b0i' st.1 st.2 (x:=items[i]) (by simp[hi]) fun h' hit' hs'=> ?_
    exact hQ _ h' s.toks (by simp[hi]) ⟨hit',st.2.at fun o e=>hs'.extBut _ _ hne e⟩ hs'
   done:=fun s Q E st hE=>a8g' hh st.1 st.2 (by simp) hE}
end Py
end
section
namespace Py
open PySem PySem.Spec PyProof.Rows L2
structure ZApart (z TI TO i1 i2 l1 l2:Addr):Prop where
 TIz:TI≠z
 TOz:TO≠z
 i1z:i1≠z
 i2z:i2≠z
 TITO:TI≠TO
 TIi1:TI≠i1
 TIi2:TI≠i2
 TOi1:TO≠i1
 TOi2:TO≠i2
 i12:i1≠i2
 l1:l1≠z∧l1≠TO∧l1≠i1∧l1≠i2
 l2:l2≠z∧l2≠TO∧l2≠i1∧l2≠i2
theorem a6r' {prog:Program}{w:World}{A:Around}{E:Value→Shared→Prop}{s:Shared}{b:Bool}{it t:Addr}{i:Nat}{items:Array Value}{Q:Value→Shared→Prop}(hh:A.handled=none)(hit:IsIt b s.heap it t i)(ht:IsSq b s.heap t items)(hx:items[i]? =none)
  (hE:∀h' e,Heap.ExtBut it s.heap h'→(∃o,h'.get? e=some o∧o.cls=.type "StopIteration")→E (.ref e) {s with heap:=h'}):wpAny (model prog w) A (Builtin.SmallTypes.nextOf (.ref it)) Q E s:=by
 cases b with
 |true=>exact wpAny_nextOf_list_end hh hit ht hx hE
 |false=>exact a8g' hh hit ht hx hE
section
variable {prog:Program}{w:World}{A:Around}{E:Value→Shared→Prop}{s:Shared}{b1 b2:Bool}{z TI TO i1 i2 l1 l2:Addr}{k1 k2:Nat}{xs ys:Array Value}{a b:Value}
theorem zip_go (D:ZApart z TI TO i1 i2 l1 l2)(hh:A.handled=none){x y:Value}{Q:Value→Shared→Prop}
  (hz:IsZip s.heap z TI TO .none) (hTI:IsPair s.heap TI (.ref i1) (.ref i2)) (hTO:IsPair s.heap TO a b)
  (h1:IsIt b1 s.heap i1 l1 k1) (h2:IsIt b2 s.heap i2 l2 k2) (hl1:IsSq b1 s.heap l1 xs) (hl2:IsSq b2 s.heap l2 ys) (hx:xs[k1]? =some x) (hy:ys[k2]? =some y)
  (hQ:∀h',IsZip h' z TI TO (rawInt s.heap.objs.size)→IsPair h' TO x y→IsIt b1 h' i1 l1 (k1+1)→IsIt b2 h' i2 l2 (k2+1)→IsPair h' s.heap.objs.size x y→h'.objs.size=s.heap.objs.size+1→
   (∀c o,c≠z→c≠TO→c≠i1→c≠i2→s.heap.get? c=some o→h'.get? c=some o)→∀tk,Q (.ref s.heap.objs.size) {s with heap:=h',toks:=tk}):
  wpAny (model prog w) A (Builtin.«zip.__next__» ⟨[.ref z],[]⟩) (fun fin s'=>∃v,fin=.done (.ret v)∧Q v s') E s:=by
 have D1:=draws (prog:=prog) (w:=w) (A:=A) hh b1 i1 l1 D.l1.2.2.1 xs
 have D2:=draws (prog:=prog) (w:=w) (A:=A) hh b2 i2 l2 D.l2.2.2.2 ys
 have n1:k1<xs.size:=(Array.getElem?_eq_some_iff.mp hx).1
 have n2:k2<ys.size:=(Array.getElem?_eq_some_iff.mp hy).1
 show wpAny _ _ (field (.ref z) 2>>=_) _ _ _
 refine wpAny_bind (wpAny_field hz rfl (x:=.bool false) rfl ?_)
 show wpAny _ _ (field (.ref z) 3>>=_) _ _ _
 refine wpAny_bind (wpAny_field hz rfl (x:=.ref TI) rfl ?_)
 refine wpAny_bind (wpAny_seqItems hTI rfl ?_)
 show wpAny _ _ (Builtin.SmallTypes.ownedTupleIsFree (.ref z)>>=_) _ _ _
 refine wpAny_bind ?_
 unfold Builtin.SmallTypes.ownedTupleIsFree
 refine wpAny_bind (wpAny_field hz rfl (x:=.none) rfl (wpAny_pure ?_))
 simp only[if_true]
 refine wpAny_bind (wpAny_rule ?_)
 refine wpAny_bind (wpAny_field hz rfl (x:=.ref TO) rfl ?_)
 refine wpAny_bind (wpAny_setField_rec hz (by simp) fun h₁ hz₁ hs₁=> ?_)
 replace hz₁:IsZip h₁ z TI TO .ellipsis:=hz₁
 refine wpAny_bind ?_
 simp only[List.zipIdx_cons,List.zipIdx_nil,List.forIn_cons,List.forIn_nil]
 refine wpAny_bind (wpAny_bind (wpAny_onRaise ?_))
 show wpAny _ _ (Builtin.SmallTypes.nextOf (.ref i1)>>=_) _ _ _
 refine wpAny_bind (D1.item k1 _ _ _ n1 ⟨h1.at fun o e=>hs₁.extBut _ _ D.i1z e,hl1.at fun o e=>hs₁.extBut _ _ D.l1.1 e⟩ fun x' h₂ tk hx' st₂ hs₂=>wpAny_pure ?_)
 rw[hx]at hx'
 cases hx'
 have hTO₂:IsPair h₂ TO a b:=hs₂.extBut _ _ D.TOi1 (hs₁.extBut _ _ D.TOz hTO)
 refine wpAny_bind (wpAny_seqItems hTO₂ rfl ?_)
 refine wpAny_bind (wpAny_updateSeq_pair hTO₂ fun h₃ hTO₃ hs₃=> ?_)
 replace hTO₃:IsPair h₃ TO x b:=hTO₃
 refine wpAny_bind (wpAny_letGo (wpAny_pure ?_))
 refine wpAny_bind (wpAny_bind (wpAny_onRaise ?_))
 show wpAny _ _ (Builtin.SmallTypes.nextOf (.ref i2)>>=_) _ _ _
 refine wpAny_bind (D2.item k2 _ _ _ n2 ⟨h2.at fun o e=>hs₃.extBut _ _ D.TOi2.symm (hs₂.extBut _ _ D.i12.symm (hs₁.extBut _ _ D.i2z e)),hl2.at fun o e=>hs₃.extBut _ _ D.l2.2.1 (hs₂.extBut _ _ D.l2.2.2.1 (hs₁.extBut _ _ D.l2.1 e))⟩ fun y' h₄ tk2 hy' st₄ hs₄=>wpAny_pure ?_)
 rw[hy]at hy'
 cases hy'
 have hTO₄:IsPair h₄ TO x b:=hs₄.extBut _ _ D.TOi2 hTO₃
 refine wpAny_bind (wpAny_seqItems hTO₄ rfl ?_)
 refine wpAny_bind (wpAny_updateSeq_pair hTO₄ fun h₅ hTO₅ hs₅=> ?_)
 replace hTO₅:IsPair h₅ TO x y:=hTO₅
 refine wpAny_bind (wpAny_letGo (wpAny_pure (wpAny_pure ?_)))
 refine wpAny_bind (wpAny_seqItems hTO₅ rfl ?_)
 refine wpAny_bind (wpAny_newTuple ?_)
 have hsz:h₅.objs.size=s.heap.objs.size:=by rw[hs₅.1,hs₄.1,hs₃.1,hs₂.1,hs₁.1]
 have hz₅:IsZip h₅ z TI TO .ellipsis:=hs₅.extBut _ _ D.TOz.symm (hs₄.extBut _ _ D.i2z.symm (hs₃.extBut _ _ D.TOz.symm (hs₂.extBut _ _ D.i1z.symm hz₁)))
 have hk₅:∀c o,c≠z→c≠TO→c≠i1→c≠i2→s.heap.get? c=some o→h₅.get? c=some o:=fun c o c1 c2 c3 c4 e=>hs₅.extBut _ _ c2 (hs₄.extBut _ _ c4 (hs₃.extBut _ _ c2 (hs₂.extBut _ _ c3 (hs₁.extBut _ _ c1 e))))
 have g1:IsIt b1 h₅ i1 l1 (k1+1):=st₂.1.at fun o e=>hs₅.extBut _ _ D.TOi1.symm (hs₄.extBut _ _ D.i12 (hs₃.extBut _ _ D.TOi1.symm e))
 have g2:IsIt b2 h₅ i2 l2 (k2+1):=st₄.1.at fun o e=>hs₅.extBut _ _ D.TOi2.symm e
 have hzlt:z<h₅.objs.size:=Heap.lt_size hz₅
 show wpAny _ _ (Builtin.SmallTypes.ownedTupleHandOut (.ref z) (.ref h₅.objs.size)>>=_) _ _ _
 refine wpAny_bind ?_
 unfold Builtin.SmallTypes.ownedTupleHandOut
 have hz₆:IsZip (h₅.push {cls:=.type "tuple",data:=.seq #[x,y]}) z TI TO .ellipsis:=Heap.get?_push_of_some _ hz₅
 refine wpAny_bind (wpAny_setField_rec hz₆ (by simp) fun h₇ hz₇ hs₇=> ?_)
 replace hz₇:IsZip h₇ z TI TO (rawInt h₅.objs.size):=hz₇
 refine wpAny_setField_rec hz₇ (by simp) fun h₈ hz₈ hs₈=> ?_
 replace hz₈:IsZip h₈ z TI TO (rawInt h₅.objs.size):=hz₈
 have up:∀c o,c≠z→h₅.get? c=some o→h₈.get? c=some o:=fun c o c1 e=>hs₈.extBut _ _ c1 (hs₇.extBut _ _ c1 (Heap.get?_push_of_some _ e))
 have hT₈:IsPair h₈ h₅.objs.size x y:=hs₈.extBut _ _ (Nat.ne_of_gt hzlt) (hs₇.extBut _ _ (Nat.ne_of_gt hzlt) (Heap.get?_push_size _ rfl))
 have hz8:h₈.objs.size=h₅.objs.size+1:=by rw[hs₈.1,hs₇.1,Heap.size_push]
 rw[hsz]at hz₈ hT₈ hz8
 refine wpAny_pure ⟨_,rfl,?_⟩
 show Q (.ref h₅.objs.size) _
 rw[hsz]
 exact hQ h₈ hz₈ (up _ _ D.TOz hTO₅) (g1.at fun o e=>up _ o D.i1z e) (g2.at fun o e=>up _ o D.i2z e) hT₈ hz8 (fun c o c1 c2 c3 c4 e=>up c o c1 (hk₅ c o c1 c2 c3 c4 e)) _
theorem b4e' (D:ZApart z TI TO i1 i2 l1 l2)(hh:A.handled=none){Q:Fin→Shared→Prop}
  (hz:IsZip s.heap z TI TO .none) (hTI:IsPair s.heap TI (.ref i1) (.ref i2)) (hTO:IsPair s.heap TO a b)
  (h1:IsIt b1 s.heap i1 l1 k1) (h2:IsIt b2 s.heap i2 l2 k2) (hl1:IsSq b1 s.heap l1 xs) (hl2:IsSq b2 s.heap l2 ys) (hend:xs[k1]? =none∨ys[k2]? =none)
  (hE:∀h' e tk,(∀c o,c≠z→c≠TO→c≠i1→c≠i2→s.heap.get? c=some o→h'.get? c=some o)→(∃o,h'.get? e=some o∧o.cls=.type "StopIteration")→E (.ref e) {s with heap:=h',toks:=tk}):
  wpAny (model prog w) A (Builtin.«zip.__next__» ⟨[.ref z],[]⟩) Q E s:=by
 have D1:=draws (prog:=prog) (w:=w) (A:=A) hh b1 i1 l1 D.l1.2.2.1 xs
 have D2:=draws (prog:=prog) (w:=w) (A:=A) hh b2 i2 l2 D.l2.2.2.2 ys
 show wpAny _ _ (field (.ref z) 2>>=_) _ _ _
 refine wpAny_bind (wpAny_field hz rfl (x:=.bool false) rfl ?_)
 show wpAny _ _ (field (.ref z) 3>>=_) _ _ _
 refine wpAny_bind (wpAny_field hz rfl (x:=.ref TI) rfl ?_)
 refine wpAny_bind (wpAny_seqItems hTI rfl ?_)
 show wpAny _ _ (Builtin.SmallTypes.ownedTupleIsFree (.ref z)>>=_) _ _ _
 refine wpAny_bind ?_
 unfold Builtin.SmallTypes.ownedTupleIsFree
 refine wpAny_bind (wpAny_field hz rfl (x:=.none) rfl (wpAny_pure ?_))
 simp only[if_true]
 refine wpAny_bind (wpAny_rule ?_)
 refine wpAny_bind (wpAny_field hz rfl (x:=.ref TO) rfl ?_)
 refine wpAny_bind (wpAny_setField_rec hz (by simp) fun h₁ hz₁ hs₁=> ?_)
 replace hz₁:IsZip h₁ z TI TO .ellipsis:=hz₁
 refine wpAny_bind ?_
 simp only[List.zipIdx_cons,List.zipIdx_nil,List.forIn_cons,List.forIn_nil]
 refine wpAny_bind (wpAny_bind (wpAny_onRaise ?_))
 show wpAny _ _ (Builtin.SmallTypes.nextOf (.ref i1)>>=_) _ _ _
 by_cases n1:k1<xs.size
 ·have hy:ys[k2]? =none:=hend.resolve_left (by simp[n1])
  refine wpAny_bind (D1.item k1 _ _ _ n1 ⟨h1.at fun o e=>hs₁.extBut _ _ D.i1z e,hl1.at fun o e=>hs₁.extBut _ _ D.l1.1 e⟩ fun x h₂ tk hx st₂ hs₂=>wpAny_pure ?_)
  have hTO₂:IsPair h₂ TO a b:=hs₂.extBut _ _ D.TOi1 (hs₁.extBut _ _ D.TOz hTO)
  refine wpAny_bind (wpAny_seqItems hTO₂ rfl ?_)
  refine wpAny_bind (wpAny_updateSeq_pair hTO₂ fun h₃ hTO₃ hs₃=> ?_)
  refine wpAny_bind (wpAny_letGo (wpAny_pure ?_))
  refine wpAny_bind (wpAny_bind (wpAny_onRaise ?_))
  show wpAny _ _ (Builtin.SmallTypes.nextOf (.ref i2)>>=_) _ _ _
  refine wpAny_bind (a6r' hh (h2.at fun o e=>hs₃.extBut _ _ D.TOi2.symm (hs₂.extBut _ _ D.i12.symm (hs₁.extBut _ _ D.i2z e))) (hl2.at fun o e=>hs₃.extBut _ _ D.l2.2.1 (hs₂.extBut _ _ D.l2.2.2.1 (hs₁.extBut _ _ D.l2.1 e))) hy fun h₄ e hs₄ he=> ?_)
  obtain⟨oe,hoe,hce⟩:=he
  have hz₄:IsZip h₄ z TI TO .ellipsis:=hs₄ _ _ D.i2z.symm (hs₃.extBut _ _ D.TOz.symm (hs₂.extBut _ _ D.i1z.symm hz₁))
  have hez:e≠z:=fun x=>by subst x;rw[hz₄]at hoe;cases hoe;simp at hce
  exact wpAny_setField_rec hz₄ (by simp) fun h₅ _ hs₅=>hE h₅ e _ (fun c o c1 c2 c3 c4 x=>hs₅.extBut _ _ c1 (hs₄ _ _ c4 (hs₃.extBut _ _ c2 (hs₂.extBut _ _ c3 (hs₁.extBut _ _ c1 x))))) ⟨oe,hs₅.extBut _ _ hez hoe,hce⟩
 ·have hx:xs[k1]? =none:=by simp;omega
  refine wpAny_bind (a6r' hh (h1.at fun o e=>hs₁.extBut _ _ D.i1z e) (hl1.at fun o e=>hs₁.extBut _ _ D.l1.1 e) hx fun h₂ e hs₂ he=> ?_)
  obtain⟨oe,hoe,hce⟩:=he
  have hz₂:IsZip h₂ z TI TO .ellipsis:=hs₂ _ _ D.i1z.symm hz₁
  have hez:e≠z:=fun x=>by subst x;rw[hz₂]at hoe;cases hoe;simp at hce
  exact wpAny_setField_rec hz₂ (by simp) fun h₃ _ hs₃=>hE h₃ e _ (fun c o c1 _ c3 _ x=>hs₃.extBut _ _ c1 (hs₂ _ _ c3 (hs₁.extBut _ _ c1 x))) ⟨oe,hs₃.extBut _ _ hez hoe,hce⟩
theorem a8T' (D:ZApart z TI TO i1 i2 l1 l2)(hh:A.handled=none){x y:Value}{Q:Option Value→Shared→Prop}
  (hz:IsZip s.heap z TI TO .none) (hTI:IsPair s.heap TI (.ref i1) (.ref i2)) (hTO:IsPair s.heap TO a b)
  (h1:IsIt b1 s.heap i1 l1 k1) (h2:IsIt b2 s.heap i2 l2 k2) (hl1:IsSq b1 s.heap l1 xs) (hl2:IsSq b2 s.heap l2 ys) (hx:xs[k1]? =some x) (hy:ys[k2]? =some y)
  (hQ:∀h',IsZip h' z TI TO (rawInt s.heap.objs.size)→IsPair h' TO x y→IsIt b1 h' i1 l1 (k1+1)→IsIt b2 h' i2 l2 (k2+1)→IsPair h' s.heap.objs.size x y→h'.objs.size=s.heap.objs.size+1→
   (∀c o,c≠z→c≠TO→c≠i1→c≠i2→s.heap.get? c=some o→h'.get? c=some o)→∀tk,Q (some (.ref s.heap.objs.size)) {s with heap:=h',toks:=tk}):
  wpAny (model prog w) A (pyNext (.ref z)) Q E s:=by
 have hT:s.TypeIs (.ref z) "zip":=⟨_,hz,rfl⟩
 unfold pyNext
 exact wpAny_bind (wpAny_attempt (wpAny_callSpecial?_slot (name:=Str.ofString "__next__") hT F.slot_zip_next
  (wpAny_call_entry F.slot_zip_next hT F.entry_zip_next (zip_go D (show A.in1.handled=none from hh) hz hTI hTO h1 h2 hl1 hl2 hx hy fun h' a1 a2 a3 a4 a5 a6 a7 tk=>wpAny_pure (hQ h' a1 a2 a3 a4 a5 a6 a7 tk)) (F.args_zip_next_1 _))))
theorem a6s' (D:ZApart z TI TO i1 i2 l1 l2)(hh:A.handled=none){Q:Option Value→Shared→Prop}
  (hz:IsZip s.heap z TI TO .none) (hTI:IsPair s.heap TI (.ref i1) (.ref i2)) (hTO:IsPair s.heap TO a b)
  (h1:IsIt b1 s.heap i1 l1 k1) (h2:IsIt b2 s.heap i2 l2 k2) (hl1:IsSq b1 s.heap l1 xs) (hl2:IsSq b2 s.heap l2 ys) (hend:xs[k1]? =none∨ys[k2]? =none)
  (hQ:∀h' tk,(∀c o,c≠z→c≠TO→c≠i1→c≠i2→s.heap.get? c=some o→h'.get? c=some o)→Q none {s with heap:=h',toks:=tk}):wpAny (model prog w) A (pyNext (.ref z)) Q E s:=by
 have hT:s.TypeIs (.ref z) "zip":=⟨_,hz,rfl⟩
 unfold pyNext
 refine wpAny_bind (wpAny_attempt (wpAny_callSpecial?_slot (name:=Str.ofString "__next__") hT F.slot_zip_next
  (wpAny_call_entry F.slot_zip_next hT F.entry_zip_next (b4e' D (show A.in1.handled=none from hh) hz hTI hTO h1 h2 hl1 hl2 hend fun h' e tk hk he=> ?_) (F.args_zip_next_1 _))))
 obtain⟨o,ho,hc⟩:=he
 refine wpAny_bind (wpAny_isInstance (T:="StopIteration") (b:=true) ⟨o,ho,hc⟩ isSubtype_stop ?_)
 exact wpAny_pure (hQ _ tk hk)
end
end Py
end
section
namespace Py
open PySem PySem.Spec PyProof.Rows L2
def itObj (b:Bool)(l:Addr):Obj:={cls:=.type (match b with|true=>"list_iterator"|false=>"tuple_iterator"),data:=.fields #[.ref l,.int 0 0]}
def zH1 (h:Heap)(b1:Bool)(l1:Addr):Heap:=h.push (itObj b1 l1)
def zH2 (h:Heap)(b1 b2:Bool)(l1 l2:Addr):Heap:=(zH1 h b1 l1).push (itObj b2 l2)
def zH3 (h:Heap)(b1 b2:Bool)(l1 l2:Addr):Heap:=(zH2 h b1 b2 l1 l2).push {cls:=.type "tuple",data:=.seq #[.ref h.objs.size,.ref (zH1 h b1 l1).objs.size]}
def zH4 (h:Heap)(b1 b2:Bool)(l1 l2:Addr):Heap:=(zH3 h b1 b2 l1 l2).push {cls:=.type "tuple",data:=.seq #[.none,.none]}
def zH5 (h:Heap)(b1 b2:Bool)(l1 l2:Addr):Heap:=(zH4 h b1 b2 l1 l2).push {cls:=.type "zip",data:=.fields #[.none,.bool false,.bool false,.ref (zH2 h b1 b2 l1 l2).objs.size,.ref (zH3 h b1 b2 l1 l2).objs.size]}
theorem zip_new (b1 b2:Bool)(l1 l2:Addr)(xs ys:Array Value):
  Meets (Builtin.«zip.__new__» ⟨[.type "zip",.ref l1,.ref l2],[]⟩) (fun _ R s=>IsSq b1 s.heap l1 xs∧IsSq b2 s.heap l2 ys∧R (.ok (.ret (.ref (zH4 s.heap b1 b2 l1 l2).objs.size))) {s with heap:=zH5 s.heap b1 b2 l1 l2}):=
 .of_wp fun prog w A R s h=>by
  obtain⟨hp,g,d,tk,os⟩:=s;obtain⟨hl1,hl2,h⟩:=h
  have hsub:=sub_zip
  have hL2:IsSq b2 (zH1 hp b1 l1) l2 ys:=hl2.at fun o e=>Heap.get?_push_of_some _ e
  cases b1 with
  |true=>
   have hL1:Heap.IsList (Shared.heap ⟨hp,g,d,tk,os⟩) l1 xs:=hl1
   cases b2 with
   |true=>
    have hL2:Heap.IsList (Shared.heap ⟨hp.push {cls:=.type "list_iterator",data:=.fields #[.ref l1,.int 0 0]},g,d,tk,os⟩) l2 ys:=hL2
    wp_walk using wpAny_pyIter_list hL1,wpAny_pyIter_list hL2
    exact⟨_,rfl,h⟩
   |false=>
    have hL2:Heap.IsTuple (Shared.heap ⟨hp.push {cls:=.type "list_iterator",data:=.fields #[.ref l1,.int 0 0]},g,d,tk,os⟩) l2 ys:=hL2
    wp_walk using wpAny_pyIter_list hL1,wpAny_pyIter_tuple hL2
    exact⟨_,rfl,h⟩
  |false=>
   have hL1:Heap.IsTuple (Shared.heap ⟨hp,g,d,tk,os⟩) l1 xs:=hl1
   cases b2 with
   |true=>
    have hL2:Heap.IsList (Shared.heap ⟨hp.push {cls:=.type "tuple_iterator",data:=.fields #[.ref l1,.int 0 0]},g,d,tk,os⟩) l2 ys:=hL2
    wp_walk using wpAny_pyIter_tuple hL1,wpAny_pyIter_list hL2
    exact⟨_,rfl,h⟩
   |false=>
    have hL2:Heap.IsTuple (Shared.heap ⟨hp.push {cls:=.type "tuple_iterator",data:=.fields #[.ref l1,.int 0 0]},g,d,tk,os⟩) l2 ys:=hL2
    wp_walk using wpAny_pyIter_tuple hL1,wpAny_pyIter_tuple hL2
    exact⟨_,rfl,h⟩
theorem b0j' {b:Bool}{h:Heap}{it l:Addr}(e:h.get? it=some (itObj b l)):IsIt b h it l 0:=by
 cases b with
 |true=>exact⟨_,e,rfl,rfl⟩
 |false=>exact⟨_,e,rfl,rfl⟩
section
variable {prog:Program}{w:World}{A:Around}{E:Value→Shared→Prop}{s:Shared}
theorem b4f' {b1 b2:Bool}{l1 l2:Addr}{xs ys:Array Value}{Q:Value→Shared→Prop}(hl1:IsSq b1 s.heap l1 xs)(hl2:IsSq b2 s.heap l2 ys)
  (h:∀h',IsZip h' (s.heap.objs.size+4) (s.heap.objs.size+2) (s.heap.objs.size+3) .none→IsPair h' (s.heap.objs.size+2) (.ref s.heap.objs.size) (.ref (s.heap.objs.size+1))→
   IsPair h' (s.heap.objs.size+3) .none .none→IsIt b1 h' s.heap.objs.size l1 0→IsIt b2 h' (s.heap.objs.size+1) l2 0→h'.objs.size=s.heap.objs.size+5→
   (∀c o,s.heap.get? c=some o→h'.get? c=some o)→Q (.ref (s.heap.objs.size+4)) {s with heap:=h'}):
  wpAny (model prog w) A (call (.type "zip") [.ref l1,.ref l2]) Q E s:=by
 refine callType_new F.called_zip (by decide) (F.typeCall_zip_2 _ _) (F.newCall_zip_2 _ _) (fun obj=>F.args_object_init_3 obj _ _) F.entry_zip_new (zip_new b1 b2 l1 l2 xs ys) ⟨hl1,hl2,?_⟩
 have z1:(zH1 s.heap b1 l1).objs.size=s.heap.objs.size+1:=Heap.size_push ..
 have z2:(zH2 s.heap b1 b2 l1 l2).objs.size=s.heap.objs.size+2:=by unfold zH2;rw[Heap.size_push,z1]
 have z3:(zH3 s.heap b1 b2 l1 l2).objs.size=s.heap.objs.size+3:=by unfold zH3;rw[Heap.size_push,z2]
 have z4:(zH4 s.heap b1 b2 l1 l2).objs.size=s.heap.objs.size+4:=by unfold zH4;rw[Heap.size_push,z3]
 have z5:(zH5 s.heap b1 b2 l1 l2).objs.size=s.heap.objs.size+5:=by unfold zH5;rw[Heap.size_push,z4]
 have g5:(zH5 s.heap b1 b2 l1 l2).get? (zH4 s.heap b1 b2 l1 l2).objs.size=some _:=Heap.get?_push_size _ rfl
 have g4:(zH5 s.heap b1 b2 l1 l2).get? (zH3 s.heap b1 b2 l1 l2).objs.size=some _:=Heap.get?_push_of_some _ (Heap.get?_push_size _ rfl)
 have g3:(zH5 s.heap b1 b2 l1 l2).get? (zH2 s.heap b1 b2 l1 l2).objs.size=some _:=Heap.get?_push_of_some _ (Heap.get?_push_of_some _ (Heap.get?_push_size _ rfl))
 have g2:(zH5 s.heap b1 b2 l1 l2).get? (zH1 s.heap b1 l1).objs.size=some (itObj b2 l2):=Heap.get?_push_of_some _ (Heap.get?_push_of_some _ (Heap.get?_push_of_some _ (Heap.get?_push_size _ (by cases b2<;>rfl))))
 have g1:(zH5 s.heap b1 b2 l1 l2).get? s.heap.objs.size=some (itObj b1 l1):=Heap.get?_push_of_some _ (Heap.get?_push_of_some _ (Heap.get?_push_of_some _ (Heap.get?_push_of_some _ (Heap.get?_push_size _ (by cases b1<;>rfl)))))
 show _∧_
 rw[z2,z3,z4]at g5
 rw[z1,z2]at g3
 rw[z3]at g4
 rw[z1]at g2
 rw[z4]
 exact⟨⟨_,g5,rfl⟩,h _ g5 g3 g4 (b0j' g1) (b0j' g2) z5 fun c o x=>
  Heap.get?_push_of_some _ (Heap.get?_push_of_some _ (Heap.get?_push_of_some _ (Heap.get?_push_of_some _ (Heap.get?_push_of_some _ x))))⟩
end
def SqB (b:Bool)(K:PySem.W.Frag)(H:Hp)(l:Addr)(xs:List V):Prop:=match b with
 |true=>SqL K H l xs
 |false=>SqT K H l xs
def Itz (K:PySem.W.Frag)(b1 b2:Bool)(l1 l2:Addr):It:=
 ⟨fun i H=>∃xs ys x y,SqB b1 K H l1 xs∧SqB b2 K H l2 ys∧xs[i]? =some x∧ys[i]? =some y,
  fun i H v H'=>∃T x y,v=.ref T∧H T=none∧H'=upd H T (.tup [x,y])∧(∀xs,SqB b1 K H l1 xs→xs[i]? =some x)∧(∀ys,SqB b2 K H l2 ys→ys[i]? =some y),
  fun i H=>∃xs ys,SqB b1 K H l1 xs∧SqB b2 K H l2 ys∧(xs.length≤i∨ys.length≤i)⟩
section
variable {X:Cx}{pins:List (Addr×Obj)}{σ:L2.St}{H:Hp}{s:Shared}
theorem a8U' {b:Bool}{l:Addr}{xs:List V}(I:Inv X pins σ H s)(h:SqB b X.K H l xs):∃its,Vals xs its∧IsSq b s.heap l its.toArray:=by
 cases b with
 |true=>obtain⟨its,r,p,_⟩:=I.list h;exact⟨its,r,p.isList⟩
 |false=>obtain⟨its,r,p,_⟩:=I.tuple h;exact⟨its,r,p⟩
theorem b2X' {b:Bool}{l:Addr}{xs ys:List V}(I:Inv X pins σ H s)(h:SqB b X.K H l xs)(h':SqB b X.K H l ys):xs=ys:=by
 cases b with
 |true=>exact I.list_inj h h'
 |false=>exact I.tuple_inj h h'
theorem a2r' {b:Bool}{l c:Addr}{xs:List V}(I:Inv X pins σ H s)(h:SqB b X.K H l xs)(hf:FpOk X pins H c):l≠c:=by
 have kl:∀{o:Obj},X.K.lookup l=some o→l≠c:=fun{o} e=>by
  have e1:X.base.get? l=some o:=I.mod.kin l o e
  rintro rfl
  rcases hf.2.2.2.1 with z|z
  ·exact I.ok.noex l o e1 z
  ·exact absurd (Nat.lt_of_lt_of_le (Heap.lt_size e1) (Nat.le_trans I.ok.bsz z)) (Nat.lt_irrefl _)
 have hl:∀{o:HO},H l=some o→l≠c:=fun{o} e=>by
  rintro rfl
  rw[hf.1]at e;cases e
 cases b with
 |true=>
  rcases h with(h| ⟨o,h⟩)| ⟨o,its,n,h,_⟩
  ·exact hl h
  ·exact hl h
  ·exact kl h
 |false=>
  rcases h with(h| ⟨o,h⟩)| ⟨o,its,n,h,_⟩
  ·exact hl h
  ·exact hl h
  ·exact kl h
end
theorem b0k' {X:Cx}{pins:List (Addr×Obj)}{σ:L2.St}{H:Hp}{s:Shared}{h':Heap}{t':Nat}{ch:List Addr}(I:Inv X pins σ H s)(k:∀b o,b∉ch→s.heap.get? b=some o→h'.get? b=some o)(hf:∀b∈ch,FpOk X pins H b):Inv X pins σ H {s with heap:=h',toks:=t'}:=by
 have nit:∀b u,H b=some u→b∉ch:=fun b u e z=>by rw[(hf b z).1]at e;cases e
 refine I.step (g':=s.gens) (d':=s.drawn) (ch:=ch) (fun b hb=> ?_) (fun b o _ _ hc e _=>k b o hc e) (fun b o _ _ hc e _=>⟨o.slots,k b o hc e⟩) (fun _ _ _ _ n=>n)
  (fun b o hc e=>⟨o,k b o hc e⟩) (fun _ _ e=>e) (fun _ _ _ e=>e) (fun b ps e=>⟨#[],by rw[e];simp⟩) (fun m hm=> ?_) (fun b u e=> ?_) I.bare
 ·obtain⟨_,f1,_,f3,f4,f5⟩:=hf b hb
  exact⟨f3,f1,f4,f5⟩
 ·obtain⟨o,es,ep,ho,r⟩:=hm
  exact⟨o,es,ep,k _ o (fun z=>(hf _ z).2.1 rfl) ho,r⟩
 ·refine(I.hok b u e).stay (fun c v hc q=>k c v ?_ q) (fun _ q=>q) fun _ _ q=>q
  rcases hc with z|z
  ·rw[z];exact nit b u e
  ·exact nit c _ z
def ztn (b b':Bool)(z TI TO i1 i2 l1 l2:Addr)(i:Nat)(h:Heap):Prop:=IsZip h z TI TO .none∧IsPair h TI (.ref i1) (.ref i2)∧(∃a b,IsPair h TO a b)∧IsIt b h i1 l1 i∧IsIt b' h i2 l2 i
theorem b4g' {P:Program}{w:World}{K:PySem.W.Frag}{es:List Expr}{x1}{pos:Pos}(b b':Bool)(z TI TO i1 i2 l1 l2:Addr)(n1:TI≠z)(n2:TO≠z)(n3:i1≠z)(n4:i2≠z)(n5:TI≠TO)(n6:TI≠i1)(n7:TI≠i2)(n8:TO≠i1)(n9:TO≠i2)(n10:i1≠i2):
  Turn P w K (.Tuple es x1 pos) (Itz K b b' l1 l2) [z,TI,TO,i1,i2] z (ztn b b' z TI TO i1 i2 l1 l2) where
 mem:=by simp
 obj:=fun i h ⟨hz,hTI,⟨a,c,hTO⟩,h1,h2⟩ d hd=>by
  simp only[List.mem_cons,List.not_mem_nil,or_false]at hd
  rcases hd with rfl|rfl|rfl|rfl|rfl
  ·exact⟨_,hz,fun v q=>by have q':Data.fields _=Data.cell v:=q;cases q'⟩
  ·exact⟨_,hTI,fun v q=>by have q':Data.seq _ _=Data.cell v:=q;cases q'⟩
  ·exact⟨_,hTO,fun v q=>by have q':Data.seq _ _=Data.cell v:=q;cases q'⟩
  ·exact h1.obj
  ·exact h2.obj
 keep:=fun i h h' ⟨hz,hTI,⟨a,c,hTO⟩,h1,h2⟩ k=>⟨k z (by simp) _ hz,k TI (by simp) _ hTI,⟨a,c,k TO (by simp) _ hTO⟩,h1.at fun o e=>k i1 (by simp) o e,h2.at fun o e=>k i2 (by simp) o e⟩
 item:=by
  intro X hP hw hK hc i pins s σ H E I hf st hg
  subst hP hw hK
  obtain⟨hz,hTI,⟨a,c,hTO⟩,h1,h2⟩:=st
  obtain⟨xs,ys,x,y,q1,q2,ex,ey⟩:=hg
  obtain⟨us,r1,s1⟩:=a8U' I q1
  obtain⟨ws,r2,s2⟩:=a8U' I q2
  obtain⟨u,eu,ru⟩:=r1.get ex
  obtain⟨v,ev,rv⟩:=r2.get ey
  have Dp:ZApart z TI TO i1 i2 l1 l2:=⟨n1,n2,n3,n4,n5,n6,n7,n8,n9,n10,⟨a2r' I q1 (hf z (by simp)),a2r' I q1 (hf TO (by simp)),a2r' I q1 (hf i1 (by simp)),a2r' I q1 (hf i2 (by simp))⟩,
   ⟨a2r' I q2 (hf z (by simp)),a2r' I q2 (hf TO (by simp)),a2r' I q2 (hf i1 (by simp)),a2r' I q2 (hf i2 (by simp))⟩⟩
  refine a8T' Dp (I.ok.hd hc) hz hTI hTO h1 h2 s1 s2 (x:=u) (y:=v) (by simpa using eu) (by simpa using ev) fun h' a1 a2 a3 a4 a5 a6 kk tk=> ?_
  refine⟨_,rfl,?_⟩
  refine wpAny_letOwnedTupleGo_zip (s:={s with heap:=h',toks:=tk}) a1 fun h2' b1 sb=> ?_
  have hTn:H s.heap.objs.size=none:=I.hok.fresh (Nat.le_refl _)
  have kk2:∀c o,c∉[z,TI,TO,i1,i2]→s.heap.get? c=some o→h2'.get? c=some o:=fun c o hc e=>by
   simp only[List.mem_cons,List.not_mem_nil,or_false,not_or]at hc
   exact(sb.2 c hc.1).trans (kk c o hc.1 hc.2.2.1 hc.2.2.2.1 hc.2.2.2.2 e)
  have I1:Inv X pins σ H {s with heap:=h2',toks:=tk}:=b0k' I kk2 hf
  have hTz:∀c∈[z,TI,TO,i1,i2],s.heap.objs.size≠c:=fun c hc e=>by
   obtain⟨o,q,_⟩:∃o,s.heap.get? c=some o∧True:=by
    simp only[List.mem_cons,List.not_mem_nil,or_false]at hc
    rcases hc with rfl|rfl|rfl|rfl|rfl
    ·exact⟨_,hz,trivial⟩
    ·exact⟨_,hTI,trivial⟩
    ·exact⟨_,hTO,trivial⟩
    ·exact⟨_,h1.obj.choose_spec.1,trivial⟩
    ·exact⟨_,h2.obj.choose_spec.1,trivial⟩
   exact absurd (Heap.lt_size q) (by rw[e];exact Nat.lt_irrefl _)
  have hT2:IsPair h2' s.heap.objs.size u v:=(sb.2 _ (hTz z (by simp))).trans a5
  have I2:Inv X pins σ (upd H s.heap.objs.size (.tup [x,y])) {s with heap:=h2',toks:=tk}:=by
   have Im:Inv X pins σ (upd H s.heap.objs.size (.tup [x,y])) {s with heap:=s.heap.push {cls:=.type "tuple",data:=.seq #[u,v]},toks:=s.toks}:=
    I.laid (fun b o e=>Heap.get?_push_of_some _ e) (Nat.le_refl _) ⟨by show 2≤sizeLine;decide,[u,v],.cons ru (.cons rv .nil),⟨_,Heap.get?_push_size _ rfl,rfl,_,rfl⟩⟩
   refine b0k' (s:={s with heap:=s.heap.push {cls:=.type "tuple",data:=.seq #[u,v]},toks:=s.toks}) Im (ch:=[z,TI,TO,i1,i2]) (fun b o hb e=> ?_) fun b hb=> ?_
   ·rcases Heap.get?_push_cases e with⟨rfl,rfl⟩|e'
    ·exact hT2
    ·exact kk2 b o hb e'
   ·obtain⟨f0,f1⟩:=hf b hb
    exact⟨by rw[a0t' (fun e=>hTz b hb e.symm)];exact f0,f1⟩
  refine⟨.ref s.heap.objs.size,upd H s.heap.objs.size (.tup [x,y]),I2,rfl,⟨s.heap.objs.size,x,y,rfl,hTn,rfl,fun zs hq=>by rw[b2X' I hq q1];exact ex,fun zs hq=>by rw[b2X' I hq q2];exact ey⟩,
   ⟨b1,(sb.2 TI n1).trans (kk TI _ n1 n5 n6 n7 hTI),⟨u,v,(sb.2 TO n2).trans a2⟩,a3.at fun o e=>(sb.2 i1 n3).trans e,a4.at fun o e=>(sb.2 i2 n4).trans e⟩,fun c hc=> ?_⟩
  rw[a0t' (fun e=>hTz c hc e.symm)]
  exact(hf c hc).1
 done:=by
  intro X hP hw hK hc i pins s σ H E I hf st hg
  subst hP hw hK
  obtain⟨hz,hTI,⟨a,c,hTO⟩,h1,h2⟩:=st
  obtain⟨xs,ys,q1,q2,en⟩:=hg
  obtain⟨us,r1,s1⟩:=a8U' I q1
  obtain⟨ws,r2,s2⟩:=a8U' I q2
  have hl1:=r1.length
  have hl2:=r2.length
  have Dp:ZApart z TI TO i1 i2 l1 l2:=⟨n1,n2,n3,n4,n5,n6,n7,n8,n9,n10,⟨a2r' I q1 (hf z (by simp)),a2r' I q1 (hf TO (by simp)),a2r' I q1 (hf i1 (by simp)),a2r' I q1 (hf i2 (by simp))⟩,
   ⟨a2r' I q2 (hf z (by simp)),a2r' I q2 (hf TO (by simp)),a2r' I q2 (hf i1 (by simp)),a2r' I q2 (hf i2 (by simp))⟩⟩
  refine a6s' Dp (I.ok.hd hc) hz hTI hTO h1 h2 s1 s2 (en.elim (fun en=>.inl (by simp;omega)) fun en=>.inr (by simp;omega)) fun h' tk kk=> ?_
  refine⟨rfl,b0k' I (ch:=[z,TI,TO,i1,i2]) (fun c o hc e=> ?_) hf⟩
  simp only[List.mem_cons,List.not_mem_nil,or_false,not_or]at hc
  exact kk c o hc.1 hc.2.2.1 hc.2.2.2.1 hc.2.2.2.2 e
 self:=fun _ _ _ _ _ st h=>wpAny_pyIter_zip st.1 h
end Py
end
section
namespace Py
open PySem PySem.Spec PyProof.Rows L2
def b0l' (b:Int):Bool:=Builtin.Range.rangeFitsLong 0&&Builtin.Range.rangeFitsLong b&&Builtin.Range.rangeFitsLong 1&&Builtin.Range.rangeFitsLong (-1)&&Builtin.Range.rangeFitsLong (0-1)&&Builtin.Range.rangeFitsLong (Builtin.Range.rangeSize 0 b 1)
theorem b1U' (r:Addr)(b:Int)(t u v:Tok)(hc0:¬(!b0l' b)=true):
  Meets (Builtin.«range.__reversed__» ⟨[.ref r],[]⟩) (fun _ R s=>s.heap.get? r=some {cls:=.type "range",dict:=none,data:=.fields #[.int 0 t,.int b u,.int 1 v],slots:= #[]}∧
   R (.ok (.ret (Value.ref s.heap.objs.size))) {s with heap:=s.heap.push {cls:=Value.type (if b0l' b=true then "range_iterator" else "longrange_iterator"),data:=Data.fields #[rawInt (0+(Builtin.Range.rangeSize 0 b 1-1)*1),rawInt (Builtin.Range.rangeSize 0 b 1),rawInt (-1)]},toks:=s.toks}):=
 .of_wp fun prog w A R s h=>by
  obtain⟨hp,g,d,tk,os⟩:=s;obtain⟨hl,h⟩:=h
  unfold b0l' at hc0 h
  wp_walk
  rw[if_neg hc0]
  wp_walk
  exact⟨_,rfl,h⟩
theorem b1V' {b:Int}(h1: -(2^62)≤b)(h2:b<2^62):b0l' b=true:=by
 unfold b0l'
 rw[rangeSize_one]
 unfold Builtin.Range.rangeFitsLong
 simp only[Bool.and_eq_true,decide_eq_true_eq]
 split<;>omega
theorem a4L':isSubtype (.type "range_iterator") (.type "reversed")=pure false:=by rw[isSubtype_type];kernel_rfl
section
variable {prog:Program}{w:World}{A:Around}{E:Value→Shared→Prop}{s:Shared}
def rrObj (n:Nat):Obj:={cls:=.type "range_iterator",data:=.fields #[rawInt ((n:Int)-1),rawInt (n:Int),rawInt (-1)]}
theorem a5L' {r:Addr}{b:Int}{t u v:Tok}{Q:Value→Shared→Prop}(hr:IsRange s.heap r 0 b 1 t u v)(h1: -(2^62)≤b)(h2:b<2^62)
  (h:Q (.ref s.heap.objs.size) {s with heap:=s.heap.push (rrObj b.toNat)}):wpAny (model prog w) A (call (.builtin "range.__reversed__") [.ref r]) Q E s:=by
 have hT:s.TypeIs (.ref r) "range":=⟨_,hr,rfl⟩
 have hs:=b1V' h1 h2
 refine call_meets F.slot_range_reversed hT F.entry_range_reversed (F.args_range_reversed_1 _) (b1U' r b t u v (by rw[hs];decide)) ⟨hr,?_⟩
 rw[hs,if_pos rfl]
 have e:Builtin.Range.rangeSize 0 b 1=(b.toNat:Int):=by rw[rangeSize_one];split<;>omega
 rw[e]
 have e2:(0+((b.toNat:Int)-1)*1)=(b.toNat:Int)-1:=by omega
 rw[e2]
 exact h
theorem a8V' {r:Addr}{b:Int}{t u v:Tok}{Q₁:Value→Shared→Prop}(hr:IsRange s.heap r 0 b 1 t u v)(h1: -(2^62)≤b)(h2:b<2^62)
  (h:Q₁ (.ref s.heap.objs.size) {s with heap:=s.heap.push (rrObj b.toNat)}):
  codeAny (model prog w) A (.call (.builtin "reversed.__new__") ⟨[.type "reversed",.ref r],[]⟩) (wants Q₁ E) s:=by
 have hT:s.TypeIs (.ref r) "range":=⟨_,hr,rfl⟩
 refine codeAny_of_tree ?_
 show wpAny _ A.in1 (do checkBuiltinCall "reversed.__new__" ⟨[.type "reversed",.ref r],[]⟩;again (.builtin "reversed.__new__" ⟨[.type "reversed",.ref r],[]⟩)) _ _ s
 refine wpAny_bind (wpAny_of_eq (F.newCall_reversed_1 _) (wpAny_pure ⟨plainId_quiet F.plain_reversed_new _,codeAny_builtin F.entry_reversed_new ?_⟩))
 rw[Around.under_plainId F.plain_reversed_new _]
 unfold Builtin.«reversed.__new__»
 refine wpAny_bind (wpAny_of_eq (newClass_reversed _) ?_)
 try dsimp only
 refine wpAny_bind (wpAny_of_eq (a:=()) (by first|rfl|kernel_rfl) ?_)
 refine wpAny_bind (wpAny_of_eq (a:=()) (by first|rfl|kernel_rfl) ?_)
 try dsimp only
 refine wpAny_bind (wpAny_specialOf hT F.slot_range_reversed.lookup ?_)
 try dsimp only
 refine wpAny_bind (wpAny_of_eq (F.slot_range_reversed.bind _) ?_)
 try dsimp only
 first
 |rw[if_neg (show ¬((Value.builtin "range.__reversed__"==Value.none)=true)from Bool.false_ne_true)]
 | (show wpAny _ _ (if(Value.builtin "range.__reversed__"==Value.none)=true then _ else _) _ _ _;rw[if_neg (show ¬((Value.builtin "range.__reversed__"==Value.none)=true)from Bool.false_ne_true)])
 refine wpAny_bind (wpAny_rule ?_)
 refine wpAny_bind (m:=runValue (.call (.builtin "range.__reversed__") ⟨[.ref r],[]⟩)) (show wpAny _ _ (call (.builtin "range.__reversed__") [.ref r]) _ _ _ from a5L' hr h1 h2 ?_)
 first
 |exact wpAny_pure h
 |exact wpAny_bind (wpAny_pure (wpAny_pure h))
theorem a8W' {r:Addr}{b:Int}{t u v:Tok}{Q:Value→Shared→Prop}(hr:IsRange s.heap r 0 b 1 t u v)(h1: -(2^62)≤b)(h2:b<2^62)
  (h:Q (.ref s.heap.objs.size) {s with heap:=s.heap.push (rrObj b.toNat)}):wpAny (model prog w) A (call (.type "reversed") [.ref r]) Q E s:=by
 refine callType_other (U:="range_iterator") (Q₁:=fun obj s₁=>obj=.ref s.heap.objs.size∧s₁={s with heap:=s.heap.push (rrObj b.toNat)}) (by decide+kernel) F.create_reversed ⟨_,_,F.mro_reversed⟩ F.made_reversed a4L' (F.typeCall_reversed_1 _) (a8V' hr h1 h2 ⟨rfl,rfl⟩) ?_
 rintro obj s₁ ⟨rfl,rfl⟩
 exact⟨⟨_,Heap.get?_push_size _ rfl,rfl⟩,h⟩
end
def Itd (n:Nat):It:=⟨fun i _=>i<n,fun i H x H'=>H'=H∧x=.int ((n:Int)-1-i),fun i _=>n≤i⟩
theorem b1W' {P:Program}{w:World}{K:PySem.W.Frag}{tg:Expr}(it:Addr)(n:Nat):Turn P w K tg (Itd n) [it] it (fun i h=>IsRangeIter h it (((n:Int)-1)+(i:Nat)*(-1)) ((n:Int)-(i:Nat)) (-1)) where
 mem:=by simp
 obj:=fun i h st b hb=>by
  have e:b=it:=by simpa using hb
  subst e
  exact⟨_,st,fun v z=>by
   have z':Data.fields _=Data.cell v:=z
   cases z'⟩
 keep:=fun i h h' st k=>k it (by simp) _ st
 item:=by
  intro X hP hw hK hc i pins s σ H E I hf st hg
  subst hP hw hK
  obtain⟨f0,f1,f2,f3,f4,f5⟩:=hf it (by simp)
  have W:=Walks.range (prog:=X.prog) (w:=X.w) (I.ok.hd hc) it ((n:Int)-1) (-1) n
  refine W.item i s _ _ hg st fun v h' tk hv st' kk=> ?_
  obtain⟨t,rfl⟩:=hv
  have I1:Inv X pins σ H {s with heap:=h',toks:=tk}:=I.turned (fun b o hb e=>kk b o (by simpa using hb) e) f0 f1 f3 f4 f5
  refine⟨_,rfl,go_of (s:={s with heap:=h',toks:=tk}) (n:="range_iterator") st' rfl rfl (by decide) ⟨.int ((n:Int)-1-i),H,I1,⟨t,?_⟩,⟨rfl,rfl⟩,st',fun b hb=>(hf b hb).1⟩⟩
  congr 1
  omega
 done:=by
  intro X hP hw hK hc i pins s σ H E I hf st hg
  subst hP hw hK
  obtain⟨f0,f1,f2,f3,f4,f5⟩:=hf it (by simp)
  exact wpAny_pyNext_range_end (I.ok.hd hc) st (by have:n≤i:=hg;omega) fun h' eb=>⟨rfl,I.turned (t':=s.toks) (fun b o hb e=>eb b o hb e) f0 f1 f3 f4 f5⟩
 self:=fun _ _ _ _ _ st h=>wpAny_pyIter_rangeiter st h
section
variable {X:Cx}{tg:Expr}
theorem a3u':bootBuiltins (Str.ofString "reversed")=some (.type "reversed"):=by decide+kernel
def iDown (ta:TA):TI:=fun σ H R=>ta σ H fun vs H1=>∃j:Int,vs=[.int j]∧-(2^62)≤j∧j<2^62∧R (Itd j.toNat) H1
theorem pi_down {a:Expr}{ta:TA}{p1 p2 p3 p4:Pos}(hg1:Gl X "reversed")(hm1:X.mg "reversed"=none)(hg:Gl X "range")(hm:X.mg "range"=none)(ha:PA X [a] ta)(hs:starEach [a] X.env=[(false,eval a X.env)]:=by rfl):
  PI X tg (.Call (.Name "reversed" p1) [.Call (.Name "range" p2) [a] [] p3] [] p4) (iDown ta):=by
 intro pins s σ H R I h
 refine Call_ (a5C' I hg1 hm1 a3u' (PyProof.Rows.callWith_type1 ?_ rfl rfl))
 show wpAny _ _ (spliced ((false,eval (.Call (.Name "range" p2) [a] [] p3) X.env)::backTo p4 (starEach [] X.env))) _ _ s
 refine Calls.spliced_cons ?_
 refine Call_ (a5C' I hg hm boot_range (PyProof.Rows.callWith_type1 (thn (ha p3 pins s σ H _ I h) fun us s1 ⟨vs,H1,I1,r1,q1⟩=> ?_) hs rfl))
 obtain⟨j,e,q1,q2,q⟩:=q1
 subst e
 cases r1 with
 |cons r rr=>
  cases rr
  obtain⟨t,rfl⟩:=r
  refine call_range_1 ?_
  have I2:Inv X pins σ H1 {s1 with heap:=s1.heap.push {cls:=.type "range",data:=.fields #[.int 0 s1.toks,.int j t,.int 1 (s1.toks+1)]},toks:=s1.toks+1+1}:=I1.kept fun b o e=>Heap.get?_push_of_some _ e
  refine Calls.spliced_nil ?_
  generalize e0:s1.heap.push {cls:=.type "range",data:=.fields #[.int 0 s1.toks,.int j t,.int 1 (s1.toks+1)]}=h0 at I2⊢
  have hr:IsRange h0 s1.heap.objs.size 0 j 1 s1.toks t (s1.toks+1):=by rw[←e0];exact IsRange.new ..
  have I3:Inv X pins σ H1 {s1 with heap:=h0,toks:=s1.toks+1+1}:=I2
  refine a8W' (s:={s1 with heap:=h0,toks:=s1.toks+1+1}) hr q1 q2 ?_
  have g:(h0.push (rrObj j.toNat)).get? h0.objs.size=some (rrObj j.toNat):=Heap.get?_push_size _ rfl
  refine wpAny_pyIter_rangeiter (x:=(j.toNat:Int)-1) (left:=(j.toNat:Int)) (step:= -1) g ?_
  refine⟨h0.objs.size,[h0.objs.size],_,_,H1,rfl,I3.kept (t':=s1.toks+1+1) fun b o e=>Heap.get?_push_of_some _ e,b1W' _ j.toNat,?_,fun b hb=> ?_,q⟩
  ·have e1:((j.toNat:Int)-1)+((0:Nat):Int)*(-1)=(j.toNat:Int)-1:=by omega
   have e2:(j.toNat:Int)-((0:Nat):Int)=(j.toNat:Int):=by omega
   show IsRangeIter _ _ (((j.toNat:Int)-1)+((0:Nat):Int)*(-1)) ((j.toNat:Int)-((0:Nat):Int)) (-1)
   rw[e1,e2]
   exact g
  ·have e:b=h0.objs.size:=by simpa using hb
   subst e
   exact I3.fpOk (Nat.le_refl _) (I3.hok.fresh (Nat.le_refl _))
end
end Py
end
section
namespace Py
open PySem PySem.Spec PyProof.Rows L2
section
variable {prog:Program}{w:World}{A:Around}{E:Value→Shared→Prop}{s:Shared}
end
end Py
end
section
namespace Py
open PySem PySem.Spec PyProof.Rows L2
def Itv (K:PySem.W.Frag)(a:Addr)(L:Nat):It:=
 ⟨fun i H=>∃xs x,SqL K H a xs∧xs.length=L∧i<L∧xs[L-1-i]? =some x,fun i H x H'=>H'=H∧∀xs,SqL K H a xs→xs[L-1-i]? =some x,fun i _=>L≤i⟩
theorem b4h' {P:Program}{w:World}{K:PySem.W.Frag}{tg:Expr}(a it:Addr)(L:Nat):Turn P w K tg (Itv K a L) [it] it (fun i h=>i≤L∧h.IsRevIter it a ((L:Int)-1-(i:Int))) where
 mem:=by simp
 obj:=fun i h st b hb=>by
  have e:b=it:=by simpa using hb
  subst e
  obtain⟨o,e,c,d⟩:=st.2
  exact⟨o,e,fun v z=>by rw[d]at z;cases z⟩
 keep:=fun i h h' st k=>⟨st.1,st.2.at fun o e=>k it (by simp) o e⟩
 item:=by
  intro X hP hw hK hc i pins s σ H E I hf st hg
  subst hP hw hK
  obtain⟨xs,x,hq,hL,hi,hx⟩:=hg
  obtain⟨its,rv,p,hz⟩:=I.list hq
  obtain⟨u,hu,ru⟩:=rv.get hx
  obtain⟨f0,f1,f2,f3,f4,f5⟩:=hf it (by simp)
  have e:(L:Int)-1-(i:Int)=((L-1-i:Nat):Int):=by omega
  have st2:=st.2
  rw[e]at st2
  refine wpAny_pyNext_rev_item st2 p.isList (x:=u) (by simpa using hu) fun h' st' sb=> ?_
  have I1:Inv X pins σ H {s with heap:=h'}:=I.turned (t':=s.toks) (fun b o hb e=>(sb.2 b hb).trans e) f0 f1 f3 f4 f5
  obtain⟨o,e1,c,d⟩:=id st'
  have e2:((L-1-i:Nat):Int)-1=(L:Int)-1-((i+1:Nat):Int):=by omega
  rw[e2]at st'
  exact⟨u,rfl,go_of (s:={s with heap:=h'}) e1 c d (by decide) ⟨x,H,I1,ru,⟨rfl,fun ys hy=>by rw[I.list_inj hy hq];exact hx⟩,⟨hi,st'⟩,fun b hb=>(hf b hb).1⟩⟩
 done:=by
  intro X hP hw hK hc i pins s σ H E I hf st hg
  subst hP hw hK
  obtain⟨f0,f1,f2,f3,f4,f5⟩:=hf it (by simp)
  have hL:L≤i:=hg
  have e:(L:Int)-1-(i:Int)= -1:=by have:=st.1;omega
  have st2:=st.2
  rw[e]at st2
  exact wpAny_pyNext_rev_end (I.ok.hd hc) st2 fun h' eb=>⟨rfl,I.turned (t':=s.toks) (fun b o hb e=>eb b o hb e) f0 f1 f3 f4 f5⟩
 self:=fun _ _ _ _ _ st h=>wpAny_pyIter_revIter st.2 h
end Py
end
section
namespace Py
open PySem PySem.Spec PyProof.Rows L2
structure Chg (K:PySem.W.Frag)(F:List Addr)(μ:List Addr)(H:Hp)(F':List Addr)(μ':List Addr)(H':Hp):Prop where
 tup:∀a vs,SqT K H a vs→SqT K H' a vs
 lst:∀a vs,H a=some (.lst vs)→a∉μ→a∉F→H' a=some (.lst vs)∧a∉μ'∧a∉F'
 frz:∀a vs,Frz K H a vs→Frz K H' a vs
 box:∀(n:Nat) a,μ[n]? =some a→μ'[n]? =some a
 dct:∀a,H a=some (.dK [])→H' a=some (.dK [])
section
variable {K:PySem.W.Frag}{mg:Str→Option Value}{F F' μ μ':List Addr}{H H':Hp}
mutual
theorem Rep.chg (x:Chg K F μ H F' μ' H'):∀(d:D) (v:V),Rep K ⟨mg,F⟩ μ H d v→Rep K ⟨mg,F'⟩ μ' H' d v
 | .non,_,h=>h
 | .bl _,_,h=>h
 | .int _,_,h=>h
 | .str _,_,h=>h
 | .tup ds,v,h=>by
  unfold Rep at h⊢
  obtain⟨a,vs,e,q,r⟩:=h
  exact⟨a,vs,e,x.tup a vs q,RepL.chg x ds vs r⟩
 | .lst ds,v,h=>by
  unfold Rep at h⊢
  obtain⟨a,vs,e,q,n,r⟩:=h
  obtain⟨h1,h2,h3⟩:=x.lst a vs q n.1 n.2
  exact⟨a,vs,e,h1,⟨h2,h3⟩,RepL.chg x ds vs r⟩
 | .scr ds,v,h=>by
  unfold Rep at h⊢
  obtain⟨a,vs,e,q,r⟩:=h
  exact⟨a,vs,e,x.frz a vs q,RepL.chg x ds vs r⟩
 | .ref n,v,h=>by
  unfold Rep at h⊢
  obtain⟨a,e,q⟩:=h
  exact⟨a,e,x.box n a q⟩
 | .fn y,v,h=>h
 | .ty y,v,h=>h
 | .dct,v,h=>by
  unfold Rep at h⊢
  obtain⟨a,e,q⟩:=h
  exact⟨a,e,x.dct a q⟩
theorem RepL.chg (x:Chg K F μ H F' μ' H'):∀(ds:List D) (vs:List V),RepL K ⟨mg,F⟩ μ H ds vs→RepL K ⟨mg,F'⟩ μ' H' ds vs
 | [],vs,h=>h
 |d::ds,vs,h=>by
  unfold RepL at h⊢
  obtain⟨w,ws,e,r,q⟩:=h
  exact⟨w,ws,e,Rep.chg x d w r,RepL.chg x ds ws q⟩
end
theorem EnvR.chg {ρ:Rho}{σ:L2.St}(x:Chg K F μ H F' μ' H')(h:EnvR K ⟨mg,F⟩ μ H ρ σ):EnvR K ⟨mg,F'⟩ μ' H' ρ σ:=
 ⟨h.1,fun i d e=>let⟨v,a,b⟩:=h.2 i d e;⟨v,a,Rep.chg x _ _ b⟩⟩
theorem Chg.start {acc:Addr}{o:HO}(h:H acc=none):Chg K F μ H (acc::F) μ (upd H acc o):=by
 have x:Ext μ H μ (upd H acc o):=.laid h
 refine⟨fun a vs q=>x.sqT q,fun a vs q h1 h2=>⟨(x.lst q h1).1,h1,fun z=> ?_⟩,fun a vs q=>x.frz q,fun n a q=>q,fun a q=>x.keep _ _ q (.inl fun _ z=>by cases z)⟩
 rcases List.mem_cons.mp z with rfl|z
 ·rw[h]at q;cases q
 ·exact h2 z
theorem Chg.more {acc:Addr}{xs ys:List V}(ha:acc∈F)(h:H acc=some (.lst xs)):Chg K F μ H F μ (upd H acc (.lst ys)):=by
 have ne:∀{a:Addr} {o:HO},H a=some o→(∀zs,o≠.lst zs)→a≠acc:=fun e n z=>by subst z;rw[h]at e;cases e;exact n _ rfl
 refine⟨fun a vs q=> ?_,fun a vs q h1 h2=>⟨?_,h1,h2⟩,fun a vs q=> ?_,fun n a q=>q,fun a q=> ?_⟩
 ·rcases q with(q| ⟨o,q⟩)|q
  ·exact .inl (.inl (by rw[a0t' (ne q fun _ z=>by cases z)];exact q))
  ·exact .inl (.inr ⟨o,by rw[a0t' (ne q fun _ z=>by cases z)];exact q⟩)
  ·exact .inr q
 ·have:a≠acc:=fun z=>by subst z;exact h2 ha
  rw[a0t' this];exact q
 ·rcases q with⟨o,q⟩|q
  ·exact .inl ⟨o,by rw[a0t' (ne q fun _ z=>by cases z)];exact q⟩
  ·exact .inr q
 ·rw[a0t' (ne q fun _ z=>by cases z)];exact q
theorem Chg.out {acc:Addr}:Chg K (acc::F) μ H F μ H:=
 ⟨fun _ _ q=>q,fun a vs q h1 h2=>⟨q,h1,fun z=>h2 (List.mem_cons_of_mem _ z)⟩,fun _ _ q=>q,fun _ _ q=>q,fun _ q=>q⟩
theorem Chg.outBox {acc:Addr}:Chg K (acc::F) μ H F (μ++[acc]) H:=by
 refine⟨fun _ _ q=>q,fun a vs q h1 h2=>⟨q,fun z=> ?_,fun z=>h2 (List.mem_cons_of_mem _ z)⟩,fun _ _ q=>q,fun n a q=> ?_,fun _ q=>q⟩
 ·rcases List.mem_append.mp z with z|z
  ·exact h1 z
  ·have:a=acc:=by simpa using z
   subst this;exact h2 List.mem_cons_self
 ·rw[List.getElem?_append_left (List.getElem?_eq_some_iff.mp q).1];exact q
theorem SOk.start {S:Store}{acc:Addr}{o:HO}(s:SOk K ⟨mg,F⟩ μ S H)(h:H acc=none):SOk K ⟨mg,acc::F⟩ μ S (upd H acc o):=by
 have x:Ext μ H μ (upd H acc o):=.laid h
 refine⟨fun a ha=> ?_,s.len,s.nd,fun n a ds h1 h2=> ?_⟩
 ·rcases List.mem_cons.mp ha with rfl|ha
  ·exact⟨o,a0I'⟩
  ·obtain⟨o',q⟩:=s.live a ha;exact x.there a o' q
 ·obtain⟨vs,q,r⟩:=s.at_ n a ds h1 h2
  exact⟨vs,by rw[a0t' (a0i' q h)];exact q,RepL.chg (.start h) _ _ r⟩
theorem SOk.more {S:Store}{acc:Addr}{xs ys:List V}(s:SOk K ⟨mg,F⟩ μ S H)(ha:acc∈F)(hm:acc∉μ)(h:H acc=some (.lst xs)):SOk K ⟨mg,F⟩ μ S (upd H acc (.lst ys)):=by
 refine⟨fun a hb=> ?_,s.len,s.nd,fun n a ds h1 h2=> ?_⟩
 ·by_cases e:a=acc
  ·subst e;exact⟨_,a0I'⟩
  ·obtain⟨o',q⟩:=s.live a hb;exact⟨o',by rw[a0t' e];exact q⟩
 ·obtain⟨vs,q,r⟩:=s.at_ n a ds h1 h2
  have:a≠acc:=fun z=>by subst z;exact hm (List.mem_of_getElem? h1)
  exact⟨vs,by rw[a0t' this];exact q,RepL.chg (.more ha h) _ _ r⟩
theorem SOk.out {S:Store}{acc:Addr}(s:SOk K ⟨mg,acc::F⟩ μ S H):SOk K ⟨mg,F⟩ μ S H:=
 ⟨fun a ha=>s.live a (List.mem_cons_of_mem _ ha),s.len,s.nd,fun n a ds h1 h2=>by obtain⟨vs,q,r⟩:=s.at_ n a ds h1 h2;exact⟨vs,q,RepL.chg .out _ _ r⟩⟩
theorem SOk.outBox {S:Store}{acc:Addr}{ys:List D}{vs:List V}(s:SOk K ⟨mg,acc::F⟩ μ S H)(hm:acc∉μ)(h:H acc=some (.lst vs))(r:RepL K ⟨mg,acc::F⟩ μ H ys vs):SOk K ⟨mg,F⟩ (μ++[acc]) (S++[ys]) H:=by
 refine⟨fun a ha=>s.live a (List.mem_cons_of_mem _ ha),by simp[s.len],?_,fun n a es h1 h2=> ?_⟩
 ·rw[List.nodup_append]
  exact⟨s.nd,by simp,fun a ha b hb=>by
   have:b=acc:=by simpa using hb
   subst this;intro z;subst z;exact hm ha⟩
 ·have hl:=s.len
  by_cases hn:n<μ.length
  ·rw[List.getElem?_append_left hn]at h1
   rw[List.getElem?_append_left (by omega)]at h2
   obtain⟨ws,q,r'⟩:=s.at_ n a es h1 h2
   exact⟨ws,q,RepL.chg .outBox _ _ r'⟩
  ·have e1:n=μ.length:=by
    have:=(List.getElem?_eq_some_iff.mp h1).1
    simp at this;omega
   subst e1
   rw[List.getElem?_append_right (Nat.le_refl _)]at h1
   rw[List.getElem?_append_right (by omega)]at h2
   simp[hl]at h1 h2
   subst h1;subst h2
   exact⟨vs,h,RepL.chg .outBox _ _ r⟩
theorem Ext.more {μ1:List Addr}{H1:Hp}{acc:Addr}{o:HO}(x:Ext μ H μ1 H1)(h:H acc=none):Ext μ H μ1 (upd H1 acc o):=
 ⟨x.pre,fun a u e c=>by rw[a0t' (a0i' e h)];exact x.keep a u e c,fun a u e=>by rw[a0t' (a0i' e h)];exact x.there a u e,x.fresh⟩
theorem Ext.outBox {μ1:List Addr}{H1:Hp}{acc:Addr}(x:Ext μ H μ1 H1)(h:H acc=none):Ext μ H (μ1++[acc]) H1:=by
 obtain⟨r,e⟩:=x.pre
 refine⟨⟨r++[acc],by rw[e,List.append_assoc]⟩,x.keep,x.there,fun a ha=> ?_⟩
 rcases List.mem_append.mp ha with ha|ha
 ·exact x.fresh a ha
 ·have:a=acc:=by simpa using ha
  subst this;exact .inr h
end
def getOf:Its→Store→Nat→Option (Option D)
 | .items xs=>fun _ i=>some xs[i]?
 | .live _ get=>get
def ItOk (K:PySem.W.Frag)(mg:GS)(J:It)(get:Store→Nat→Option (Option D))(μ:List Addr)(H:Hp):Prop:=
 ∀(i:Nat) μ' S' H' F',Chg K mg.F μ H F' μ' H'→SOk K ⟨mg.mg,F'⟩ μ' S' H'→
  (∀x,get S' i=some (some x)→J.go i H'∧∀y H'',J.yld i H' y H''→Ext μ' H' μ' H''∧SOk K ⟨mg.mg,F'⟩ μ' S' H''∧Rep K ⟨mg.mg,F'⟩ μ' H'' x y)∧(get S' i=some none→J.stop i H')
def tI (K:PySem.W.Frag)(mg:Str→Option Value)(E:XK)(Φ:FT)(Γ:Str→Option D)(c:CE):TI:=fun σ H R=>∃F μ ρ S,SOk K ⟨mg,F⟩ μ S H∧EnvR K ⟨mg,F⟩ μ H ρ σ∧WantG K ⟨mg,F⟩ E (fun μ' H' its J=>ItOk K ⟨mg,F⟩ J (getOf its) μ' H') μ H R (denI Φ Γ c ρ S)
theorem Chg.refl {K:PySem.W.Frag}{F μ:List Addr}{H:Hp}:Chg K F μ H F μ H:=⟨fun _ _ q=>q,fun _ _ q h1 h2=>⟨q,h1,h2⟩,fun _ _ q=>q,fun _ _ q=>q,fun _ q=>q⟩
theorem Chg.trans {K:PySem.W.Frag}{F μ F1 μ1 F2 μ2:List Addr}{H H1 H2:Hp}(a:Chg K F μ H F1 μ1 H1)(b:Chg K F1 μ1 H1 F2 μ2 H2):Chg K F μ H F2 μ2 H2:=
 ⟨fun x vs q=>b.tup x vs (a.tup x vs q),fun x vs q h1 h2=>by obtain⟨p1,p2,p3⟩:=a.lst x vs q h1 h2;exact b.lst x vs p1 p2 p3,fun x vs q=>b.frz x vs (a.frz x vs q),fun n x q=>b.box n x (a.box n x q),fun x q=>b.dct x (a.dct x q)⟩
theorem Chg.of_ext {K:PySem.W.Frag}{F F' μ μ':List Addr}{H H':Hp}(x:Ext μ H μ' H')(hF:∀a∈F',a∈F∨H a=none):Chg K F μ H F' μ' H':=by
 refine⟨fun a vs q=>x.sqT q,fun a vs q h1 h2=>⟨(x.lst q h1).1,(x.lst q h1).2,fun z=> ?_⟩,fun a vs q=>x.frz q,fun n a q=>x.get q,fun a q=>x.keep _ _ q (.inl fun _ z=>by cases z)⟩
 rcases hF a z with z|z
 ·exact h2 z
 ·rw[q]at z;cases z
section
variable {X:Cx}{E:XK}{CX:CXT}{Φ:FT}{Γ:Str→Option D}{tg l:Expr}{pos:Pos}{c:CE}
theorem a5M' {pins:List (Addr×Obj)}{σ:L2.St}{H:Hp}{s:Shared}{R:It→Hp→Prop}{E':Value→Shared→Prop}{a:Addr}{xs:List V}(I:Inv X pins σ H s)(hq:SqL X.K H a xs)(q:R (Itl X.K a) H):wpAny (model X.prog X.w) X.A (pyIter (.ref a)) (PIE X pins σ tg R) E' s:=by
 obtain⟨its,rv,p,hz⟩:=I.list hq
 refine wpAny_pyIter_list p.isList ?_
 refine⟨s.heap.objs.size,[s.heap.objs.size],_,_,H,rfl,I.kept (t':=s.toks) fun b o e=>Heap.get?_push_of_some _ e,b1x' a _,⟨_,Heap.get?_push_size _ rfl,rfl,rfl⟩,fun b hb=> ?_,q⟩
 have e:b=s.heap.objs.size:=by simpa using hb
 subst e
 exact I.fpOk (Nat.le_refl _) (I.hok.fresh (Nat.le_refl _))
theorem b4i' {pins:List (Addr×Obj)}{σ:L2.St}{H:Hp}{s:Shared}{R:It→Hp→Prop}{E':Value→Shared→Prop}{a:Addr}{xs:List V}(I:Inv X pins σ H s)(hq:SqT X.K H a xs)(q:R (Itt X.K a) H):wpAny (model X.prog X.w) X.A (pyIter (.ref a)) (PIE X pins σ tg R) E' s:=by
 obtain⟨its,rv,p,hz⟩:=I.tuple hq
 refine wpAny_pyIter_tuple (show s.heap.IsTuple a its.toArray from p) ?_
 refine⟨s.heap.objs.size,[s.heap.objs.size],_,_,H,rfl,I.kept (t':=s.toks) fun b o e=>Heap.get?_push_of_some _ e,a9A' a _,⟨_,Heap.get?_push_size _ rfl,rfl,rfl⟩,fun b hb=> ?_,q⟩
 have e:b=s.heap.objs.size:=by simpa using hb
 subst e
 exact I.fpOk (Nat.le_refl _) (I.hok.fresh (Nat.le_refl _))
theorem a8h' {K:PySem.W.Frag}{mg:GS}{μ:List Addr}{H:Hp}{ds:List D}{vs:List V}{S:Store}{i:Nat}(r:RepL K mg μ H ds vs)(h:getOf (.items ds) S i=some none):vs.length≤i:=by
 have h1:ds[i]? =none:=by simpa[getOf]using h
 have h2:=List.getElem?_eq_none_iff.mp h1
 have hl:=r.length
 omega
theorem a8i' {K:PySem.W.Frag}{mg:GS}{μ:List Addr}{H:Hp}{a:Addr}{ds:List D}{vs:List V}(hq:∀F' μ' H',Chg K mg.F μ H F' μ' H'→SqL K H' a vs)(r:RepL K mg μ H ds vs):ItOk K mg (Itl K a) (getOf (.items ds)) μ H:=by
 intro i μ' S' H' F' ch sk
 have hl:=r.length
 refine⟨fun y hy=> ?_,fun hi=>⟨vs,hq _ _ _ ch,a8h' r hi⟩⟩
 have hy:ds[i]? =some y:=by simpa[getOf]using hy
 obtain⟨v,h1,h2⟩:=r.get hy
 refine⟨⟨vs,v,hq _ _ _ ch,h1⟩,fun z H'' hz=> ?_⟩
 obtain⟨rfl,hz⟩:=hz
 have e:=hz vs (hq _ _ _ ch)
 rw[h1]at e;cases e
 exact⟨.refl,sk,Rep.chg ch _ _ h2⟩
theorem b4j' {K:PySem.W.Frag}{mg:GS}{μ:List Addr}{H:Hp}{a:Addr}{ds:List D}{vs:List V}(hq:SqT K H a vs)(r:RepL K mg μ H ds vs):ItOk K mg (Itt K a) (getOf (.items ds)) μ H:=by
 intro i μ' S' H' F' ch sk
 have hl:=r.length
 refine⟨fun y hy=> ?_,fun hi=>⟨vs,ch.tup _ _ hq,a8h' r hi⟩⟩
 have hy:ds[i]? =some y:=by simpa[getOf]using hy
 obtain⟨v,h1,h2⟩:=r.get hy
 refine⟨⟨vs,v,ch.tup _ _ hq,h1⟩,fun z H'' hz=> ?_⟩
 obtain⟨rfl,hz⟩:=hz
 have e:=hz vs (ch.tup _ _ hq)
 rw[h1]at e;cases e
 exact⟨.refl,sk,Rep.chg ch _ _ h2⟩
theorem b4k' {K:PySem.W.Frag}{mg:GS}{μ:List Addr}{H:Hp}{a:Addr}{n:Nat}(hn:μ[n]? =some a):ItOk K mg (Itl K a) (a1k' n) μ H:=by
 intro i μ' S' H' F' ch sk
 have hl:n<S'.length:=by rw[←sk.len];exact(List.getElem?_eq_some_iff.mp (ch.box _ _ hn)).1
 have hy:S'[n]? =some S'[n]:=List.getElem?_eq_getElem hl
 obtain⟨vs,h1,r⟩:=sk.at_ n a _ (ch.box _ _ hn) hy
 have hl:=r.length
 refine⟨fun y hy'=> ?_,fun hi=>⟨vs,.of h1,?_⟩⟩
 ·unfold a1k' at hy'
  rw[hy]at hy'
  simp only[Option.map_some,Option.some.injEq]at hy'
  obtain⟨v,h2,h3⟩:=r.get hy'
  refine⟨⟨vs,v,.of h1,h2⟩,fun z H'' hz=> ?_⟩
  obtain⟨rfl,hz⟩:=hz
  have e:=hz vs (.of h1)
  rw[h2]at e;cases e
  exact⟨.refl,sk,h3⟩
 ·unfold a1k' at hi
  rw[hy]at hi
  simp only[Option.map_some,Option.some.injEq]at hi
  have:=List.getElem?_eq_none_iff.mp hi
  omega
theorem i_seq (ha:PE X l (tE X.K X.mg E Φ Γ c)):PI X tg l (tI X.K X.mg E Φ Γ (.seq c)):=by
 intro pins s σ H R I h
 obtain⟨F,μ,ρ,S,sk,en,w⟩:=h
 refine thn (ha pins s σ H _ I ⟨F,μ,ρ,S,sk,en,WantG.bind w⟩) fun u s1 ⟨v,H1,I1,rv,μ1,S1,d,x1,s1k,rd,w1⟩=> ?_
 cases d with
 |tup ds=>
  obtain⟨a,vs,rfl,hq,r⟩:=a0s' rd
  cases rv
  exact b4i' I1 hq (w1 μ1 H1 _ .refl s1k (b4j' hq r))
 |lst ds=>
  unfold Rep at rd
  obtain⟨a,vs,rfl,hq,hn,r⟩:=rd
  cases rv
  exact a5M' I1 (.of hq) (w1 μ1 H1 _ .refl s1k (a8i' (fun F' μ' H' ch=>.of (ch.lst a vs hq hn.1 hn.2).1) r))
 |scr ds=>
  unfold Rep at rd
  obtain⟨a,vs,rfl,hq,r⟩:=rd
  cases rv
  exact a5M' I1 hq.sq (w1 μ1 H1 _ .refl s1k (a8i' (fun F' μ' H' ch=>(ch.frz a vs hq).sq) r))
 |ref n=>
  have rd':=rd
  unfold Rep at rd
  obtain⟨a,rfl,hn⟩:=rd
  cases rv
  have hl:n<S1.length:=by rw[←s1k.len];exact(List.getElem?_eq_some_iff.mp hn).1
  obtain⟨vs,h1,r⟩:=s1k.at_ n a _ hn (List.getElem?_eq_getElem hl)
  exact a5M' I1 (.of h1) (w1 μ1 H1 _ .refl s1k (b4k' hn))
 |_=>exact w1.elim
theorem a3v' (lo:Int)(n:Nat):(a3d' lo n).length=n:=by
 induction n generalizing lo with
 |zero=>rfl
 |succ n ih=>unfold a3d';rw[List.length_cons,ih]
theorem b0m' (lo:Int)(n i:Nat)(h:i<n):(a3d' lo n)[i]? =some (.int (lo+i)):=by
 induction n generalizing lo i with
 |zero=>omega
 |succ n ih=>
  unfold a3d'
  cases i with
  |zero=>simp
  |succ i=>
   rw[List.getElem?_cons_succ,ih (lo+1) i (by omega)]
   congr 2
   omega
theorem a6t' {K:PySem.W.Frag}{mg:GS}{μ:List Addr}{H:Hp}(lo:Int)(n:Nat):ItOk K mg (Itr lo n) (getOf (.items (a3d' lo n))) μ H:=by
 intro i μ' S' H' F' ch sk
 refine⟨fun y hy=> ?_,fun hi=> ?_⟩
 ·have hy:(a3d' lo n)[i]? =some y:=by simpa[getOf]using hy
  have hi:i<n:=by have:=(List.getElem?_eq_some_iff.mp hy).1;rwa [a3v']at this
  rw[b0m' lo n i hi]at hy
  cases hy
  refine⟨hi,fun z H'' hz=> ?_⟩
  obtain⟨rfl,rfl⟩:=hz
  exact⟨.refl,sk,a0T'⟩
 ·have:(a3d' lo n)[i]? =none:=by simpa[getOf]using hi
  have:=List.getElem?_eq_none_iff.mp this
  rw[a3v']at this
  exact this
variable {N:List Str}{sc:Sc}{k:Nat}{cell:Str→Bool}{p2:Pos}{es:List Expr}{cs:List CE}{a b:CE}{r:Expr}
theorem len_is {K:PySem.W.Frag}{mg:GS}{μ:List Addr}{H:Hp}{Q:List V→Hp→Prop}{ρ:Rho}{S:Store}(w:WantG K mg E (RepL K mg) μ H Q (denL Φ Γ cs ρ S)):WantG K mg E (RepL K mg) μ H (fun vs H'=>vs.length=cs.length∧Q vs H') (denL Φ Γ cs ρ S):=by
 cases e:denL Φ Γ cs ρ S with
 |ok ds S'=>
  rw[e]at w
  intro μ' H' vs x s r
  refine⟨?_,w μ' H' vs x s r⟩
  rw[←r.length,a7w' e]
 |err y S'=>rw[e]at w;exact w
 |fail=>rw[e]at w;exact w
theorem b4l' (O:XOk X cell N sc CX E Φ Γ k)(h:gloB sc "range"=true)(hn:a0J' l=true)(hcs:cs.length=1)(ha:PA X [l] (tL X.K X.mg E Φ Γ cs)):PI X tg (.Call (.Name "range" p2) [l] [] pos) (tI X.K X.mg E Φ Γ (.range cs)):=by
 obtain⟨h1,_,_⟩:=a0F' h
 intro pins s σ H R I ⟨F,μ,ρ,S,sk,en,w⟩
 refine b1y' (O.gl h1) (O.mod.bl _ (by decide+kernel)) ha (by rw[a0l' hn];rfl) pins s σ H R I ⟨F,μ,ρ,S,sk,en,(len_is (WantG.bind w)).mono fun vs H1 ⟨hl,μ1,S1,ds,x1,s1,r1,w1⟩=> ?_⟩
 have hl2:=r1.length
 split at w1
 ·rename_i j
  split at w1
  ·rename_i hj
   obtain⟨v,rfl,rv⟩:=r1.one
   cases a0c' rv
   exact⟨j,rfl,hj.1,hj.2,w1 μ1 H1 _ .refl s1 (a6t' 0 j.toNat)⟩
  ·exact w1.elim
 ·simp only[List.length_cons,List.length_nil]at hl2;omega
 ·exact w1.elim
theorem b4m' (O:XOk X cell N sc CX E Φ Γ k)(h:gloB sc "range"=true)(hn:a0J' l=true)(hn2:a0J' r=true)(hcs:cs.length=2)(ha:PA X [l,r] (tL X.K X.mg E Φ Γ cs)):PI X tg (.Call (.Name "range" p2) [l,r] [] pos) (tI X.K X.mg E Φ Γ (.range cs)):=by
 obtain⟨h1,_,_⟩:=a0F' h
 intro pins s σ H R I ⟨F,μ,ρ,S,sk,en,w⟩
 refine b1z' (O.gl h1) (O.mod.bl _ (by decide+kernel)) ha (by rw[a0l' hn,a0l' hn2];rfl) (by rw[a0l' hn2];rfl) pins s σ H R I ⟨F,μ,ρ,S,sk,en,(len_is (WantG.bind w)).mono fun vs H1 ⟨hl,μ1,S1,ds,x1,s1,r1,w1⟩=> ?_⟩
 have hl2:=r1.length
 split at w1
 ·simp only[List.length_cons,List.length_nil]at hl2;omega
 ·rename_i i j
  split at w1
  ·rename_i hj
   obtain⟨v,v',rfl,rv,rv'⟩:=r1.two
   cases a0c' rv
   cases a0c' rv'
   exact⟨i,j,rfl,hj,w1 μ1 H1 _ .refl s1 (a6t' i (j-i).toNat)⟩
  ·exact w1.elim
 ·exact w1.elim
theorem a4c' (n:Nat):(downL n).length=n:=by
 induction n with
 |zero=>rfl
 |succ n ih=>unfold downL;rw[List.length_cons,ih]
theorem b1X' (n i:Nat)(h:i<n):(downL n)[i]? =some (.int ((n:Int)-1-i)):=by
 induction n generalizing i with
 |zero=>omega
 |succ n ih=>
  unfold downL
  cases i with
  |zero=>rw[List.getElem?_cons_zero];congr 2;omega
  |succ i=>
   rw[List.getElem?_cons_succ,ih i (by omega)]
   congr 2
   omega
theorem b1Y' {K:PySem.W.Frag}{mg:GS}{μ:List Addr}{H:Hp}(n:Nat):ItOk K mg (Itd n) (getOf (.items (downL n))) μ H:=by
 intro i μ' S' H' F' ch sk
 refine⟨fun y hy=> ?_,fun hi=> ?_⟩
 ·have hy:(downL n)[i]? =some y:=by simpa[getOf]using hy
  have hi:i<n:=by have:=(List.getElem?_eq_some_iff.mp hy).1;rwa [a4c']at this
  rw[b1X' n i hi]at hy
  cases hy
  refine⟨hi,fun z H'' hz=> ?_⟩
  obtain⟨rfl,rfl⟩:=hz
  exact⟨.refl,sk,a0T'⟩
 ·have:(downL n)[i]? =none:=by simpa[getOf]using hi
  have:=List.getElem?_eq_none_iff.mp this
  rw[a4c']at this
  exact this
theorem i_down (O:XOk X cell N sc CX E Φ Γ k){p1 p3:Pos}(h:gloB sc "reversed"=true)(h':gloB sc "range"=true)(hn:a0J' l=true)(ha:PA X [l] (tL X.K X.mg E Φ Γ cs)):PI X tg (.Call (.Name "reversed" p1) [.Call (.Name "range" p2) [l] [] p3] [] pos) (tI X.K X.mg E Φ Γ (.down cs)):=by
 obtain⟨h1,_,_⟩:=a0F' h
 obtain⟨h2,_,_⟩:=a0F' h'
 intro pins s σ H R I ⟨F,μ,ρ,S,sk,en,w⟩
 refine pi_down (O.gl h1) (O.mod.bl _ (by decide+kernel)) (O.gl h2) (O.mod.bl _ (by decide+kernel)) ha (by rw[a0l' hn];rfl) pins s σ H R I ⟨F,μ,ρ,S,sk,en,(WantG.bind w).mono fun vs H1 ⟨μ1,S1,ds,x1,s1,r1,w1⟩=> ?_⟩
 split at w1
 ·rename_i j
  split at w1
  ·rename_i hj
   obtain⟨v,rfl,rv⟩:=r1.one
   cases a0c' rv
   exact⟨j,rfl,hj.1,hj.2,w1 μ1 H1 _ .refl s1 (b1Y' j.toNat)⟩
  ·exact w1.elim
 ·exact w1.elim
theorem b0n' {K:PySem.W.Frag}{mg:GS}{S:Store}{μ:List Addr}{H:Hp}{d:D}{v:V}{xs:List D}(s:SOk K mg μ S H)(r:Rep K mg μ H d v)(e:seqOf S d=some xs):∃a,v=.ref a∧
  ∀μ' S' H' F',Chg K mg.F μ H F' μ' H'→SOk K ⟨mg.mg,F'⟩ μ' S' H'→∃ys vs,seqOf S' d=some ys∧SqB (isLst d) K H' a vs∧RepL K ⟨mg.mg,F'⟩ μ' H' ys vs:=by
 cases d with
 |tup ds=>
  obtain⟨a,vs,rfl,hq,q⟩:=a0s' r
  exact⟨a,rfl,fun μ' S' H' F' ch sk=>⟨ds,vs,rfl,ch.tup _ _ hq,RepL.chg ch _ _ q⟩⟩
 |lst ds=>
  unfold Rep at r
  obtain⟨a,vs,rfl,hq,hn,q⟩:=r
  exact⟨a,rfl,fun μ' S' H' F' ch sk=>⟨ds,vs,rfl,SqL.of (ch.lst a vs hq hn.1 hn.2).1,RepL.chg ch _ _ q⟩⟩
 |scr ds=>
  unfold Rep at r
  obtain⟨a,vs,rfl,hq,q⟩:=r
  exact⟨a,rfl,fun μ' S' H' F' ch sk=>⟨ds,vs,rfl,(ch.frz a vs hq).sq,RepL.chg ch _ _ q⟩⟩
 |ref n=>
  unfold Rep at r
  obtain⟨a,rfl,hn⟩:=r
  refine⟨a,rfl,fun μ' S' H' F' ch sk=> ?_⟩
  have hl:n<S'.length:=by rw[←sk.len];exact(List.getElem?_eq_some_iff.mp (ch.box _ _ hn)).1
  obtain⟨vs,h1,q⟩:=sk.at_ n a _ (ch.box _ _ hn) (List.getElem?_eq_getElem hl)
  exact⟨_,vs,List.getElem?_eq_getElem hl,SqL.of h1,q⟩
 |_=>unfold seqOf at e;cases e
theorem a2L' {d:D}{xs:List D}(h:b1O' d=some xs)(S:Store):seqOf S d=some xs:=by
 unfold b1O' at h
 split at h<;>first|exact h|cases h
theorem b1Z' {S:Store}{d e:D}{its:Its}(h:zipOf S d e=some its):(∃xs ys,seqOf S d=some xs∧seqOf S e=some ys)∧∀S' i,(∃xs ys,seqOf S' d=some xs∧seqOf S' e=some ys)→getOf its S' i=b1P' d e S' i:=by
 unfold zipOf at h
 split at h
 ·rename_i xs ys e1 e2
  cases h
  refine⟨⟨xs,ys,a2L' e1 S,a2L' e2 S⟩,fun S' i _=> ?_⟩
  show some (List.zipWith (fun x y=>D.tup [x,y]) xs ys)[i]? =_
  unfold b1P'
  rw[a2L' e1 S',a2L' e2 S',List.getElem?_zipWith]
  show some _=some (match xs[i]?,ys[i]? with
   |some x,some y=>some (D.tup [x,y])
   |_,_=>none)
  cases xs[i]? <;>cases ys[i]? <;>rfl
 ·split at h
  ·rename_i xs ys e1 e2
   cases h
   exact⟨⟨xs,ys,e1,e2⟩,fun S' i _=>rfl⟩
  ·cases h
theorem b4n' {K:PySem.W.Frag}{mg:GS}{μ:List Addr}{H:Hp}{S:Store}{d e:D}{v u:V}{its:Its}(sk:SOk K mg μ S H)(rd:Rep K mg μ H d v)(re:Rep K mg μ H e u)(h:zipOf S d e=some its):
  ∃a b,v=.ref a∧u=.ref b∧(∃vs,SqB (isLst d) K H a vs)∧(∃vs,SqB (isLst e) K H b vs)∧ItOk K mg (Itz K (isLst d) (isLst e) a b) (getOf its) μ H:=by
 obtain⟨⟨xs,ys,e1,e2⟩,hg⟩:=b1Z' h
 obtain⟨a,rfl,ka⟩:=b0n' sk rd e1
 obtain⟨b,rfl,kb⟩:=b0n' sk re e2
 obtain⟨_,va,_,qa,_⟩:=ka μ S H mg.F .refl sk
 obtain⟨_,vb,_,qb,_⟩:=kb μ S H mg.F .refl sk
 refine⟨a,b,rfl,rfl,⟨va,qa⟩,⟨vb,qb⟩,fun i μ' S' H' F' ch sk'=> ?_⟩
 obtain⟨xs',vs,f1,q1,r1⟩:=ka μ' S' H' F' ch sk'
 obtain⟨ys',ws,f2,q2,r2⟩:=kb μ' S' H' F' ch sk'
 rw[hg S' i ⟨xs',ys',f1,f2⟩]
 unfold b1P'
 rw[f1,f2]
 have l1:=r1.length
 have l2:=r2.length
 refine⟨fun y hy=> ?_,fun hy=>⟨vs,ws,q1,q2,?_⟩⟩
 ·have hy:=Option.some.inj hy
  cases g1:xs'[i]? with
  |none=>rw[g1]at hy;cases hy
  |some p=>
   cases g2:ys'[i]? with
   |none=>rw[g1,g2]at hy;cases hy
   |some q=>
    rw[g1,g2]at hy
    cases hy
    obtain⟨v1,k1,rp⟩:=r1.get g1
    obtain⟨v2,k2,rq⟩:=r2.get g2
    refine⟨⟨vs,ws,v1,v2,q1,q2,k1,k2⟩,fun z H'' hz=> ?_⟩
    obtain⟨T,x',y',rfl,hT,rfl,z1,z2⟩:=hz
    have e3:=z1 vs q1
    rw[k1]at e3;cases e3
    have e4:=z2 ws q2
    rw[k2]at e4;cases e4
    refine⟨.laid hT,sk'.laid hT,?_⟩
    unfold Rep
    exact⟨T,[v1,v2],rfl,SqT.of a0I',.cons (Rep.mono (.laid hT) _ _ rp) (.cons (Rep.mono (.laid hT) _ _ rq) .nil)⟩
 ·have hy:=Option.some.inj hy
  cases g1:xs'[i]? with
  |none=>exact .inl (by have:=List.getElem?_eq_none_iff.mp g1;omega)
  |some p=>
   cases g2:ys'[i]? with
   |none=>exact .inr (by have:=List.getElem?_eq_none_iff.mp g2;omega)
   |some q=>rw[g1,g2]at hy;cases hy
theorem ne5 {n i j:Nat}(h:i≠j):n+i≠n+j:=fun e=>h (Nat.add_left_cancel e)
theorem ne5' {n j:Nat}(h:0≠j):n≠n+j:=fun e=>h (Nat.add_left_cancel (n:=n) (by rw[Nat.add_zero];exact e))
theorem ne5'' {n j:Nat}(h:0≠j):n+j≠n:=fun e=>ne5' h e.symm
theorem b4o':bootBuiltins "zip"=some (.type "zip"):=by decide+kernel
theorem i_zip (O:XOk X cell N sc CX E Φ Γ k)(h:gloB sc "zip"=true)(ht:isTup tg=true)(hn:a0J' l=true)(hn2:a0J' r=true)(ha:PA X [l,r] (tL X.K X.mg E Φ Γ cs)):PI X tg (.Call (.Name "zip" p2) [l,r] [] pos) (tI X.K X.mg E Φ Γ (.zip cs)):=by
 obtain⟨h1,_,_⟩:=a0F' h
 intro pins s σ H R I ⟨F,μ,ρ,S,sk,en,w⟩
 refine Call_ (a5C' I (O.gl h1) (O.mod.bl _ (by decide+kernel)) b4o' (PyProof.Rows.callWith_type1 (thn (ha pos pins s σ H _ I ⟨F,μ,ρ,S,sk,en,WantG.bind w⟩) fun us s1 ⟨vs,H1,I1,rv,μ1,S1,ds,x1,s1k,r1,w1⟩=> ?_) (a0l' hn) (by rw[a0l' hn2];rfl)))
 split at w1
 ·rename_i d e
  obtain⟨v,u,rfl,rd,re⟩:=r1.two
  cases ez:zipOf S1 d e with
  |none=>rw[ez]at w1;exact w1.elim
  |some its=>
   rw[ez]at w1
   obtain⟨a,b,rfl,rfl,⟨va,qa⟩,⟨vb,qb⟩,ok⟩:=b4n' s1k rd re ez
   cases rv with
   |cons p q=>
    cases q with
    |cons p' q'=>
     cases q'
     cases p
     cases p'
     obtain⟨as,ra,sa⟩:=a8U' I1 qa
     obtain⟨bs,rb,sb⟩:=a8U' I1 qb
     refine b4f' sa sb fun h' z1 z2 z3 z4 z5 z6 kk=> ?_
     refine wpAny_pyIter_zip z1 ?_
     have I2:Inv X pins σ H1 {s1 with heap:=h'}:=I1.kept (t':=s1.toks) kk
     cases tg with
     |Tuple ts x1 tp=>
      refine⟨s1.heap.objs.size+4,[s1.heap.objs.size+4,s1.heap.objs.size+2,s1.heap.objs.size+3,s1.heap.objs.size,s1.heap.objs.size+1],_,_,H1,rfl,I2,
       b4g' (isLst d) (isLst e) (s1.heap.objs.size+4) (s1.heap.objs.size+2) (s1.heap.objs.size+3) s1.heap.objs.size (s1.heap.objs.size+1) a b (ne5 (by decide)) (ne5 (by decide)) (ne5' (by decide)) (ne5 (by decide)) (ne5 (by decide)) (ne5'' (by decide)) (ne5 (by decide)) (ne5'' (by decide)) (ne5 (by decide)) (ne5' (by decide)),⟨z1,z2,⟨_,_,z3⟩,z4,z5⟩,fun c hc=> ?_,w1 μ1 H1 _ .refl s1k ok⟩
      have hc':s1.heap.objs.size≤c:=by
       simp only[List.mem_cons,List.not_mem_nil,or_false]at hc
       rcases hc with rfl|rfl|rfl|rfl|rfl
       ·exact Nat.le_add_right _ _
       ·exact Nat.le_add_right _ _
       ·exact Nat.le_add_right _ _
       ·exact Nat.le_refl _
       ·exact Nat.le_add_right _ _
      exact I1.fpOk hc' (I1.hok.fresh hc')
     |_=>cases ht
 ·exact w1.elim
theorem b4p' {K:PySem.W.Frag}{mg:GS}{μ:List Addr}{H:Hp}{a:Addr}{n L:Nat}(hn:μ[n]? =some a):ItOk K mg (Itv K a L) (b4a' n L) μ H:=by
 intro i μ' S' H' F' ch sk
 have hl:n<S'.length:=by rw[←sk.len];exact(List.getElem?_eq_some_iff.mp (ch.box _ _ hn)).1
 have hy:S'[n]? =some S'[n]:=List.getElem?_eq_getElem hl
 obtain⟨vs,h1,r⟩:=sk.at_ n a _ (ch.box _ _ hn) hy
 have hl:=r.length
 unfold b4a'
 rw[hy]
 show(∀y,(if S'[n].length=L then some (S'[n].reverse[i]?)else none)=some (some y)→_)∧((if S'[n].length=L then some (S'[n].reverse[i]?)else none)=some none→_)
 split
 ·rename_i hL
  refine⟨fun y hy'=> ?_,fun hi=> ?_⟩
  ·have hy':=Option.some.inj hy'
   have hi:i<L:=by have:=(List.getElem?_eq_some_iff.mp hy').1;rw[List.length_reverse]at this;omega
   rw[List.getElem?_reverse (by omega),hL]at hy'
   obtain⟨v,h2,h3⟩:=r.get hy'
   refine⟨⟨vs,v,.of h1,by omega,hi,h2⟩,fun z H'' hz=> ?_⟩
   obtain⟨rfl,hz⟩:=hz
   have e:=hz vs (.of h1)
   rw[h2]at e;cases e
   exact⟨.refl,sk,h3⟩
  ·have hi:=Option.some.inj hi
   have:=List.getElem?_eq_none_iff.mp hi
   rw[List.length_reverse]at this
   show L≤i
   omega
 ·exact⟨fun y z=>(by cases z),fun z=>(by cases z)⟩
theorem i_revl (O:XOk X cell N sc CX E Φ Γ k)(h:gloB sc "reversed"=true)(hn:a0J' l=true)(ha:PA X [l] (tL X.K X.mg E Φ Γ cs)):PI X tg (.Call (.Name "reversed" p2) [l] [] pos) (tI X.K X.mg E Φ Γ (.revl cs)):=by
 obtain⟨h1,_,_⟩:=a0F' h
 intro pins s σ H R I ⟨F,μ,ρ,S,sk,en,w⟩
 refine Call_ (a5C' I (O.gl h1) (O.mod.bl _ (by decide+kernel)) a3u' (PyProof.Rows.callWith_type1 (thn (ha pos pins s σ H _ I ⟨F,μ,ρ,S,sk,en,WantG.bind w⟩) fun us s1 ⟨vs,H1,I1,rv,μ1,S1,ds,x1,s1k,r1,w1⟩=> ?_) (a0l' hn) rfl))
 split at w1
 ·rename_i n
  split at w1
  ·rename_i xs e
   obtain⟨v,rfl,rd⟩:=r1.one
   obtain⟨a,vs,rfl,hm,hq,r⟩:=a4Z' s1k rd e
   have hl:=r.length
   cases rv with
   |cons p q=>
    cases q
    cases p
    obtain⟨its,rv',pl,hz⟩:=I1.list (.of hq)
    have hl2:=rv'.length
    refine call_reversed_list pl.isList ?_
    have g:(s1.heap.push (revObj a ((its.toArray.size:Int)-1))).IsRevIter s1.heap.objs.size a ((xs.length:Int)-1-((0:Nat):Int)):=⟨_,Heap.get?_push_size _ rfl,rfl,by
     show Data.fields #[.ref a,rawInt ((its.toArray.size:Int)-1)]=_
     rw[List.size_toArray,←hl2,←hl]
     simp⟩
    refine wpAny_pyIter_revIter g ?_
    refine⟨s1.heap.objs.size,[s1.heap.objs.size],_,_,H1,rfl,I1.kept (t':=s1.toks) fun b o e=>Heap.get?_push_of_some _ e,b4h' a _ xs.length,⟨Nat.zero_le _,g⟩,fun b hb=> ?_,w1 μ1 H1 _ .refl s1k (b4p' hm)⟩
    have e:b=s1.heap.objs.size:=by simpa using hb
    subst e
    exact I1.fpOk (Nat.le_refl _) (I1.hok.fresh (Nat.le_refl _))
  ·exact w1.elim
 ·exact w1.elim
end
end Py
end
section
namespace Py
open PySem PySem.Spec PyProof.Rows L2
def a6u' (ifs:List Expr)(env:Env):Sem Bool:=forIn ifs true (fun c r=>if r=true then do let ok ←isTrue c env (eval c env);pure (ForInStep.yield ok)else pure (ForInStep.yield r))
def cRest (elt:Expr)(gens:List Comprehension)(scope:Scope)(pos:Pos)(d:Nat)(acc:Value)(env:Env):Sem Unit:=match gens[d+1]? with
 |some g'=>do
   let x ←eval g'.iter env
   standAt g'.iter.pos
   let x ←if g'.is_async !=0 then foldedIterable g'.iter x else foldedSetIterable g'.iter env x
   let _ ←runOwn (.compStart (.ListComp elt gens scope pos) (d+1) (←holding [x] (if g'.is_async !=0 then asyncIter x else pyIter x)) acc env) env
 |none=>do let _ ←call (.builtin "list.append") [acc,←eval elt env]
theorem a3f' {elt:Expr}{gens:List Comprehension}{scope:Scope}{pos:Pos}{d:Nat}{it acc:Value}{env:Env}{t i:Expr}{fs:List Expr}(h:gens[d]? =some ⟨t,i,fs,0⟩):
  compTurn (.ListComp elt gens scope pos) d it acc env=(standAt i.pos>>=fun _=>pyNext it>>=fun r=>match r with
   |none=>pure (.done .next)
   |some v=>letOwnedTupleGo t it v>>=fun _=>assign t env v>>=fun _=>(a6u' fs env>>=fun ok=>if ok=true then cRest elt gens scope pos d acc env else pure ())>>=fun _=>
    again (.compLoop (.ListComp elt gens scope pos) d it acc env)):=by
 unfold compTurn
 simp only[h]
 show(standAt i.pos>>=fun _=>pyNext it>>=_)=_
 congr 1;funext _
 congr 1;funext r
 cases r with
 |none=>rfl
 |some v=>
  show(letOwnedTupleGo t it v>>=fun _=>assign t env v>>=fun _=>_>>=fun ok=>_)=_
  congr 1;funext _
  congr 1;funext _
  conv=>rhs;rw[bind_assoc]
  unfold a6u'
  refine congrArg (fun k=>_>>=k) (funext fun ok=> ?_)
  cases ok with
  |true=>
   simp only[if_true]
   unfold cRest
   cases gens[d+1]? with
   |none=>rfl
   |some g'=>
    by_cases hb:(g'.is_async !=0)=true
    ·simp only[if_pos hb,bind_assoc,pure_bind]
    ·simp only[if_neg hb,bind_assoc,pure_bind]
  |false=>
   simp only[Bool.false_eq_true,if_false,pure_bind]
theorem a7x' {prog:Program}{w:World}{A:Around}{R:Result→Shared→Prop}{s:Shared}{elt:Expr}{gens:List Comprehension}{scope:Scope}{pos:Pos}{d:Nat}{it acc:Value}{env:Env}{t i:Expr}{fs:List Expr}(hg:gens[d]? =some ⟨t,i,fs,0⟩)
  (h0:codeAny (model prog w) A (.compLoop (.ListComp elt gens scope pos) d it acc env) R s)
  (h:wpAny (model prog w) A (pyIter it) (fun it' s'=>codeAny (model prog w) A (.compLoop (.ListComp elt gens scope pos) d it' acc env) R s') (notedBy (model prog w) A env fun x s'=>R (.error x) s') s):
  codeAny (model prog w) A (.compStart (.ListComp elt gens scope pos) d it acc env) R s:=by
 refine codeAny_of_tree ?_
 show wpAny _ _ ((compStart (.ListComp elt gens scope pos) d it acc env).onRaise (fun x=>do noteFrame x env;standAt theWindowsPlace)) _ _ s
 refine wpAny_notedAt ?_
 unfold compStart
 have e1:(clausesOf (.ListComp elt gens scope pos))[d]? =some ⟨t,i,fs,0⟩:=hg
 rw[e1]
 show wpAny _ _ (ask>>=_) _ _ s
 refine wpAny_bind (wpAny_askSetting (wpAny_ite ?_))
 split
 ·first
   |exact wpAny_bind (wpAny_pure (wpAny_pure (And.intro rfl h0)))
   |exact wpAny_pure (And.intro rfl h0)
 ·first
   |exact wpAny_bind (wpAny_rule (wpAny_bind (wpAny_standAt (wpAny_bind (wpAny_mono h (fun it' s' h'=>wpAny_pure (And.intro rfl h')) fun _ _ x=>x)))))
   | (refine wpAny_bind (wpAny_rule ?_);show wpAny _ _ (standAt i.pos>>=_) _ _ s;exact wpAny_bind (wpAny_standAt (wpAny_bind (wpAny_mono h (fun it' s' h'=>wpAny_pure (And.intro rfl h')) fun _ _ x=>x))))
section
variable {X:Cx}{elt:Expr}{gens:List Comprehension}{scope:Scope}{pos:Pos}{d:Nat}{acc:Addr}
theorem pb_when {fs:List Expr}{ts:List TT}{tu:TU}(ht:PTs X fs ts)(hb:PB X (cRest elt gens scope pos d (.ref acc) X.env) tu):
  PB X (a6u' fs X.env>>=fun ok=>if ok=true then cRest elt gens scope pos d (.ref acc) X.env else pure ()) (tWhen ts tu):=by
 intro pins s σ H Q I h
 refine wpAny_bind (thn (a9Y' fs ts ht pins s σ H _ I h) fun b s1 ⟨H1,I1,q1⟩=> ?_)
 cases b with
 |false=>
  rw[if_neg (by decide)]at q1
  rw[if_neg (by decide)]
  exact wpAny_pure ⟨σ,H1,I1,q1⟩
 |true=>
  rw[if_pos rfl]at q1
  rw[if_pos rfl]
  exact hb pins s1 σ H1 Q I1 q1
theorem pb_last {te:TE}(hg:gens[d+1]? =none)(he:PE X elt te):PB X (cRest elt gens scope pos d (.ref acc) X.env) (tEmit acc te):=by
 intro pins s σ H Q I h
 unfold cRest
 rw[hg]
 show wpAny _ _ (eval elt X.env>>=fun x=>call (.builtin "list.append") [.ref acc,x]>>=fun _=>pure ()) _ _ s
 refine wpAny_bind (thn (he pins s σ H _ I h) fun u s2 ⟨v,H2,I2,r2,ys,ha,hz,q2⟩=> ?_)
 refine wpAny_bind (thn (a7Z' pins s2 σ H2 (.ref acc) [v] (.ref acc) [u] (fun _ H'=>Q σ H') I2 rfl (.cons r2 .nil) ⟨acc,ys,v,rfl,rfl,ha,hz,q2⟩) fun _ s3 ⟨_,H3,I3,_,q3⟩=> ?_)
 exact wpAny_pure ⟨σ,H3,I3,q3⟩
theorem b4q' {t i:Expr}{fs:List Expr}{wi:TI}{g:TG}{tb:TU}(hx:X.xe=fun _ _=>False)(hc:X.calm=true)(hg:gens[d+1]? =some ⟨t,i,fs,0⟩)(hi:PI X t i wi)(hs:∀x,foldedSetIterable i X.env x=pure x)(hgt:PG X t g)
  (hb:PB X (a6u' fs X.env>>=fun ok=>if ok=true then cRest elt gens scope pos (d+1) (.ref acc) X.env else pure ()) tb):PB X (cRest elt gens scope pos d (.ref acc) X.env) (tInner wi g tb):=by
 intro pins s σ H Q I h
 unfold cRest
 rw[hg]
 show wpAny _ _ (eval i X.env>>=fun x=>standAt i.pos>>=fun _=>foldedSetIterable i X.env x>>=fun x=>holding [x] (pyIter x)>>=fun it=>runOwn (.compStart (.ListComp elt gens scope pos) (d+1) it (.ref acc) X.env) X.env>>=fun _=>pure ()) _ _ s
 refine wpAny_bind (thn (hi pins s σ H _ I h) fun v s1 h1=>wpAny_bind (wpAny_standAt (wpAny_bind ?_)))
 rw[hs]
 refine wpAny_pure (wpAny_bind (wpAny_holding (thn h1 fun itv s2 h2=>wpAny_bind ?_)))
 obtain⟨it,fp,tn,J,H2,e,I2,T,st2,f2,W⟩:=h2
 subst e
 have loop:codeAny (model X.prog X.w) X.A (.compLoop (.ListComp elt gens scope pos) (d+1) (.ref it) (.ref acc) X.env) (fun r s'=>match r with
   | .ok f=>∃σ' H',Inv X pins σ' H' s'∧Q σ' H'
   | .error e=>cameBackBy (model X.prog X.w) X.A X.env X.xe e s') s2:=
  a8b' (Fin:=Q) hx hc (a3f' hg) T hgt hb I2 st2 f2 W fun s' σ' H' I' _ q=>⟨σ',H',I',q⟩
 refine wpAny_runOwn (h:=none) ?_
 refine codeAny_mono (R:=fun r s'=>match r with
   | .ok f=>∃σ' H',Inv X pins σ' H' s'∧Q σ' H'
   | .error e=>cameBackBy (model X.prog X.w) X.A X.env X.xe e s') (a7x' hg loop (T.self _ 0 _ _ _ st2 loop)) fun r s' q=> ?_
 cases r with
 |ok f=>exact wpAny_pure q
 |error e=>exact q
end
end Py
end
section
namespace Py
open PySem PySem.Spec PyProof.Rows L2
def gVs:List CT→TGs
 | []=>gNil
 |t::ts=>match t with
  | .var i=>gCons (gName i) (gVs ts)
  | .tup _=>fun _ _ _ _=>False
def gCT (K:PySem.W.Frag):CT→TG
 | .var i=>gName i
 | .tup ts=>gTup K ts.length (gVs ts)
section
variable {X:Cx}{E:XK}{CX:CXT}{Φ:FT}{Γ:Str→Option D}{N:List Str}{sc:Sc}{k:Nat}{cell:Str→Bool}
theorem nm_ok (O:XOk X cell N sc CX E Φ Γ k){i:Nat}{p:Pos}(h:sdT cell N sc (.var i)=true):PG X (.Name (N.getD i "") p) (gName i):=by
 have h1:=(andB h).1
 have h2:=(andB h).2
 generalize N.getD i ""=x at h1 h2
 simp only[Bool.and_eq_true,Bool.or_eq_true,beq_iff_eq]at h1 h2
 have hl:L2.Loc X.env.scope x:=by
  unfold L2.Loc
  rw[O.sc]
  rcases h2 with z|z
  ·exact .inl z
  ·exact .inr z.2
 refine pg_name (by rw[O.n];exact O.nd) (by rw[O.n];exact h1) hl ?_
 rcases h2 with z|z
 ·exact .inr (by rw[O.sc];exact z)
 ·exact .inl (O.fn x z.1)
theorem a5N' {env:Env}:∀{ts:List CT} {es:List Expr},((assignEach (emTL ts N es) env).length=ts.length∧(assignEach (emTL ts N es) env).findIdx? (·.1)=none)
 | [],_=>⟨rfl,rfl⟩
 |t::ts,es=>by
  have ih:=a5N' (env:=env) (ts:=ts) (es:=es.tail)
  have e:assignEach (emTL (t::ts) N es) env=(false,assign (emT t N (es.headD dE)) env)::assignEach (emTL ts N es.tail) env:=by cases t<;>rfl
  rw[e]
  exact⟨by rw[List.length_cons,ih.1,List.length_cons],by rw[List.findIdx?_cons,ih.2];rfl⟩
theorem gs_pg (O:XOk X cell N sc CX E Φ Γ k):∀{ts:List CT} {es:List Expr},sdTL cell N sc ts=true→PGs X (emTL ts N es) (gVs ts)
 | [],es,h=>pgs_nil
 |t::ts,es,h=>by
  cases t with
  |tup _=>exact fun _ _ _ _ _ _ _ _ _ z=>z.elim
  |var i=>exact b3E' (nm_ok O (andB h).1) (gs_pg O (andB h).2)
theorem g_pg (O:XOk X cell N sc CX E Φ Γ k){t:CT}{e:Expr}(h:sdT cell N sc t=true):PG X (emT t N e) (gCT X.K t):=by
 cases t with
 |var i=>exact nm_ok O h
 |tup ts=>exact pg_tup O.calm (gs_pg O h) a5N'.1 a5N'.2
mutual
theorem sdT_no:∀{t:CT},sdT (fun _=>false) N sc t=true→sdT cell N sc t=true
 | .var i,h=>by
  have h1:=(andB h).1
  have h2:=(andB h).2
  simp only[Bool.or_eq_true,Bool.false_and]at h2
  show(_&&_)=true
  rw[h1]
  rcases h2 with z|z
  ·show(_||_)=true
   rw[z];rfl
  ·cases z
 | .tup ts,h=>b2Y' (ts:=ts) h
theorem b2Y':∀{ts:List CT},sdTL (fun _=>false) N sc ts=true→sdTL cell N sc ts=true
 | [],h=>h
 |t::ts,h=>by
  show(_&&_)=true
  rw[sdT_no (andB h).1,b2Y' (andB h).2]
  rfl
end
theorem gs_do {F μ:List Addr}{H:Hp}{K:PySem.W.Frag}{mg:Str→Option Value}{ρ':Rho}{Q:L2.St→Hp→Prop}:∀{ts:List CT} {ds:List D} {vs:List V} {ρ:Rho} {σ:L2.St},asgVs ts ds ρ=some ρ'→RepL K ⟨mg,F⟩ μ H ds vs→EnvR K ⟨mg,F⟩ μ H ρ σ→(∀σ',EnvR K ⟨mg,F⟩ μ H ρ' σ'→Q σ' H)→gVs ts vs σ H Q
 | [],ds,vs,ρ,σ,h,r,en,q=>by
  cases ds with
  |nil=>
   cases h
   unfold RepL at r
   exact⟨r,q σ en⟩
  |cons _ _=>cases h
 |t::ts,ds,vs,ρ,σ,h,r,en,q=>by
  cases t with
  |tup _=>cases h
  |var i=>
   cases ds with
   |nil=>cases h
   |cons d ds=>
    obtain⟨v,w,rfl,r1,rl⟩:=r.uncons
    exact⟨v,w,rfl,gs_do (ts:=ts) h rl (en.set r1) q⟩
theorem a5O' {ρ':Rho}:∀{ts:List CT} {ds:List D} {ρ:Rho},asgVs ts ds ρ=some ρ'→ts.length=ds.length∧ρ'.length=ρ.length
 | [],ds,ρ,h=>by
  cases ds with
  |nil=>cases h;exact⟨rfl,rfl⟩
  |cons _ _=>cases h
 |t::ts,ds,ρ,h=>by
  cases t with
  |tup _=>cases h
  |var i=>
   cases ds with
   |nil=>cases h
   |cons d ds=>
    have:=a5O' (ts:=ts) h
    exact⟨congrArg Nat.succ this.1,by rw[this.2,List.length_set]⟩
theorem a8j' {ρ':Rho}{j:Nat}:∀{ts:List CT} {ds:List D} {ρ:Rho},asgVs ts ds ρ=some ρ'→(∀i∈a2J' ts,i≠j)→ρ'[j]? =ρ[j]?
 | [],ds,ρ,h,hj=>by
  cases ds with
  |nil=>cases h;rfl
  |cons _ _=>cases h
 |t::ts,ds,ρ,h,hj=>by
  cases t with
  |tup _=>cases h
  |var i=>
   cases ds with
   |nil=>cases h
   |cons d ds=>
    rw[a8j' (ts:=ts) h fun k hk=>hj k (List.mem_cons_of_mem _ hk),List.getElem?_set_ne (hj i List.mem_cons_self)]
theorem g_do {F μ:List Addr}{H:Hp}{d:D}{v:V}{ρ ρ':Rho}{σ:L2.St}{Q:L2.St→Hp→Prop}{t:CT}{K:PySem.W.Frag}{mg:Str→Option Value}(h:asgCT t d ρ=some ρ')(r:Rep K ⟨mg,F⟩ μ H d v)(en:EnvR K ⟨mg,F⟩ μ H ρ σ)
  (q:∀σ',EnvR K ⟨mg,F⟩ μ H ρ' σ'→Q σ' H):gCT K t v σ H Q:=by
 cases t with
 |var i=>
  cases h
  exact q _ (en.set r)
 |tup ts=>
  cases d with
  |tup ds=>
   obtain⟨a,vs,rfl,hq,rl⟩:=a0s' r
   exact⟨a,vs,rfl,hq,by rw[←rl.length];exact(a5O' (ts:=ts) h).1.symm,gs_do (ts:=ts) h rl en q⟩
  |_=>cases h
end
theorem b2a' {ρ:Rho}{l:List Nat}{i:Nat}(h:isNew ρ l=true)(hi:i∈l):ρ[i]? =some none:=by
 unfold isNew at h
 have:=List.all_eq_true.mp h i hi
 split at this
 ·assumption
 ·cases this
theorem asg_get {t:CT}{d:D}{ρ ρ':Rho}(h:asgCT t d ρ=some ρ'):ρ'.length=ρ.length∧∀j,(∀i∈slots t,i≠j)→ρ'[j]? =ρ[j]? :=by
 cases t with
 |var i=>
  cases h
  exact⟨List.length_set,fun j hj=>List.getElem?_set_ne (hj i List.mem_cons_self)⟩
 |tup ts=>
  cases d with
  |tup ds=>exact⟨(a5O' (ts:=ts) h).2,fun j hj=>a8j' (ts:=ts) h hj⟩
  |_=>cases h
theorem b4r' {K:PySem.W.Frag}{mg:GS}{μ:List Addr}{H:Hp}{ρ ρ':Rho}{σ:L2.St}{t:CT}{d:D}(h:a0m' t d ρ=some ρ')(en:EnvR K mg μ H ρ' σ):EnvR K mg μ H ρ σ:=by
 unfold a0m' at h
 by_cases hn:isNew ρ (slots t)=true
 ·rw[if_pos hn]at h
  have g:=asg_get h
  refine⟨by rw[←en.1,g.1],fun j d' e=>en.2 j d' ?_⟩
  rw[g.2 j fun i hi z=>by subst z;rw[b2a' hn hi]at e;cases e]
  exact e
 ·rw[if_neg hn]at h;cases h
theorem b0o' {t:CT}{d:D}{ρ ρ':Rho}(h:a0m' t d ρ=some ρ'):asgCT t d ρ=some ρ':=by
 unfold a0m' at h
 split at h
 ·exact h
 ·cases h
structure CSt (K:PySem.W.Frag)(mg:Str→Option Value)(F:List Addr)(acc:Addr)(B:List Addr→Hp→Prop)(μ0:List Addr)(H0:Hp)(μ:List Addr)(S:Store)(H:Hp)(ρ:Rho)(σ:L2.St)(ds:List D)(vs:List V):Prop where
 n0:H0 acc=none
 ext:Ext μ0 H0 μ H
 sok:SOk K ⟨mg,acc::F⟩ μ S H
 nin:acc∉μ
 env:EnvR K ⟨mg,acc::F⟩ μ H ρ σ
 at_:H acc=some (.lst vs)
 rep:RepL K ⟨mg,acc::F⟩ μ H ds vs
 b:B μ H
def Keep (K:PySem.W.Frag)(F:List Addr)(B:List Addr→Hp→Prop):Prop:=∀μ H μ1 H1,B μ H→Chg K F μ H F μ1 H1→B μ1 H1
def WantB (K:PySem.W.Frag)(mg:Str→Option Value)(F:List Addr)(acc:Addr)(B:List Addr→Hp→Prop)(μ0:List Addr)(H0:Hp)(ρ:Rho)(Q:L2.St→Hp→Prop):Res (List D)→Prop
 | .ok ds' S'=>∀μ' H' σ' vs',CSt K mg F acc B μ0 H0 μ' S' H' ρ σ' ds' vs'→Q σ' H'
 |_=>False
def tB (K:PySem.W.Frag)(mg:Str→Option Value)(Φ:FT)(Γ:Str→Option D)(c:CE)(acc:Addr):TU:=fun σ H Q=>∃F B μ0 H0 μ ρ S ds vs,Keep K (acc::F) B∧CSt K mg F acc B μ0 H0 μ S H ρ σ ds vs∧WantB K mg F acc B μ0 H0 ρ Q (denB Φ Γ c ρ ds S)
def stepC (Φ:FT)(Γ:Str→Option D)(ifs:List CE)(body:CE)(ρ:Rho)(ds:List D)(S:Store):Res (List D):=(denTs Φ Γ ifs ρ S).bind fun k S3=>if k=true then denB Φ Γ body ρ ds S3 else .ok ds S3
def tC (K:PySem.W.Frag)(mg:Str→Option Value)(Φ:FT)(Γ:Str→Option D)(ifs:List CE)(c:CE)(acc:Addr):TU:=fun σ H Q=>∃F B μ0 H0 μ ρ S ds vs,Keep K (acc::F) B∧CSt K mg F acc B μ0 H0 μ S H ρ σ ds vs∧WantB K mg F acc B μ0 H0 ρ Q (stepC Φ Γ ifs c ρ ds S)
section
variable {K:PySem.W.Frag}{mg:Str→Option Value}{F:List Addr}{acc:Addr}{B:List Addr→Hp→Prop}{μ0 μ μ1:List Addr}{H0 H H1:Hp}{S S1:Store}{ρ:Rho}{σ:L2.St}{ds:List D}{vs:List V}{Φ:FT}{Γ:Str→Option D}
theorem CSt.next (hB:Keep K (acc::F) B)(c:CSt K mg F acc B μ0 H0 μ S H ρ σ ds vs)(x:Ext μ H μ1 H1)(s:SOk K ⟨mg,acc::F⟩ μ1 S1 H1):CSt K mg F acc B μ0 H0 μ1 S1 H1 ρ σ ds vs where
 n0:=c.n0
 ext:=c.ext.trans x
 sok:=s
 nin:=fun z=>by
  rcases x.fresh acc z with z|z
  ·exact c.nin z
  ·rw[c.at_]at z;cases z
 env:=c.env.mono x
 at_:=x.keep acc _ c.at_ (.inr c.nin)
 rep:=RepL.mono x _ _ c.rep
 b:=hB μ H μ1 H1 c.b (.of_ext x fun _ z=>.inl z)
theorem CSt.put {d:D}{v:V}(hB:Keep K (acc::F) B)(c:CSt K mg F acc B μ0 H0 μ S H ρ σ ds vs)(r:Rep K ⟨mg,acc::F⟩ μ H d v):CSt K mg F acc B μ0 H0 μ S (upd H acc (.lst (vs++[v]))) ρ σ (ds++[d]) (vs++[v]):=by
 have ch:Chg K (acc::F) μ H (acc::F) μ (upd H acc (.lst (vs++[v]))):=.more List.mem_cons_self c.at_
 exact{
  n0:=c.n0
  ext:=c.ext.more c.n0
  sok:=c.sok.more List.mem_cons_self c.nin c.at_
  nin:=c.nin
  env:=c.env.chg ch
  at_:=a0I'
  rep:=RepL.append (RepL.chg ch _ _ c.rep) (.cons (Rep.chg ch _ _ r) .nil)
  b:=hB _ _ _ _ c.b ch}
theorem b2b' {X:Cx}{E:XK}{F μ:List Addr}{H:Hp}{S:Store}:∀{cs:List CE} {σ:L2.St} {Q:Bool→Hp→Prop},SOk X.K ⟨X.mg,F⟩ μ S H→EnvR X.K ⟨X.mg,F⟩ μ H ρ σ→WantG X.K ⟨X.mg,F⟩ E (fun _ _ a b=>a=b) μ H Q (denTs Φ Γ cs ρ S)→b1L' (cs.map (tT X.K X.mg E Φ Γ)) σ H Q:=by
 intro cs
 induction cs generalizing μ H S with
 |nil=>exact fun sk en w=>w μ H true .refl sk rfl
 |cons c cs ih=>
  intro σ Q sk en w
  unfold denTs at w
  refine⟨F,μ,ρ,S,sk,en,(WantG.bind w).mono fun k H1 zz=>ex34 zz fun μ1 S1 k' x1 s1 e1 w1=> ?_⟩
  subst e1
  cases k' with
  |true=>rw[if_pos rfl]at w1⊢;exact ih s1 (en.mono x1) w1
  |false=>rw[if_neg (by decide)]at w1⊢;exact w1 μ1 H1 _ .refl s1 rfl
end
section
variable {X:Cx}{E:XK}{CX:CXT}{Φ:FT}{Γ:Str→Option D}
theorem PB.weak {body:Sem Unit}{t t':TU}(h:PB X body t)(w:∀σ H Q,t' σ H Q→t σ H Q):PB X body t':=fun pins s σ H Q I q=>h pins s σ H Q I (w σ H Q q)
theorem a8X' {K:PySem.W.Frag}{mg:Str→Option Value}{F:List Addr}{acc:Addr}{B:List Addr→Hp→Prop}{μ0 μ:List Addr}{H0 H:Hp}{S:Store}{ρ:Rho}{σ:L2.St}{ds:List D}{vs:List V}{ifs:List CE}{c:CE}{Q:L2.St→Hp→Prop}
  (hB:Keep K (acc::F) B) (st:CSt K mg F acc B μ0 H0 μ S H ρ σ ds vs) (w:WantB K mg F acc B μ0 H0 ρ Q (stepC Φ Γ ifs c ρ ds S)):
  WantG K ⟨mg,acc::F⟩ E (fun _ _ a b=>a=b) μ H (fun b H1=>if b=true then tB K mg Φ Γ c acc σ H1 Q else Q σ H1) (denTs Φ Γ ifs ρ S):=by
 unfold stepC at w
 cases e:denTs Φ Γ ifs ρ S with
 |ok k S3=>
  rw[e]at w
  intro μ1 H1 b x s eb
  subst eb
  have st1:=st.next hB x s
  cases k with
  |true=>exact⟨F,B,μ0,H0,μ1,ρ,S3,ds,vs,hB,st1,w⟩
  |false=>exact w μ1 H1 σ vs st1
 |err y S3=>rw[e]at w;exact w.elim
 |fail=>rw[e]at w;exact w.elim
theorem b4s' {elt:Expr}{gens:List Comprehension}{scope:Scope}{pos:Pos}{d:Nat}{acc:Addr}{fs:List Expr}{ifs:List CE}{c:CE}(ht:PTs X fs (ifs.map (tT X.K X.mg E Φ Γ)))(hb:PB X (cRest elt gens scope pos d (.ref acc) X.env) (tB X.K X.mg Φ Γ c acc)):
  PB X (a6u' fs X.env>>=fun ok=>if ok=true then cRest elt gens scope pos d (.ref acc) X.env else pure ()) (tC X.K X.mg Φ Γ ifs c acc):=
 PB.weak (pb_when ht hb) fun σ H Q zz=>ex93 zz fun F B μ0 H0 μ ρ S ds vs hB st w=>b2b' st.sok st.env (a8X' hB st w)
theorem c_emit {elt:Expr}{gens:List Comprehension}{scope:Scope}{pos:Pos}{d:Nat}{acc:Addr}{c:CE}(hg:gens[d+1]? =none)(he:PE X elt (tE X.K X.mg E Φ Γ c)):PB X (cRest elt gens scope pos d (.ref acc) X.env) (tB X.K X.mg Φ Γ (.emit c) acc):=
 PB.weak (pb_last hg he) fun σ H Q zz=>ex93 zz fun F B μ0 H0 μ ρ S ds vs hB st w=>by
  refine⟨acc::F,μ,ρ,S,st.sok,st.env,?_⟩
  simp only[denB]at w
  cases e:den Φ Γ c ρ S with
  |ok y S1=>
   rw[e]at w
   intro μ1 H1 v x s r
   have st1:=st.next hB x s
   have w':WantB X.K X.mg F acc B μ0 H0 ρ Q (if ds.length<big then .ok (ds++[y]) S1 else .fail):=w
   by_cases hl:ds.length<big
   ·rw[if_pos hl]at w'
    refine⟨vs,st1.at_,by rw[a8R',←st1.rep.length];exact hl,w' μ1 _ σ _ (st1.put hB r)⟩
   ·rw[if_neg hl]at w';exact w'.elim
  |err y S1=>rw[e]at w;exact w.elim
  |fail=>rw[e]at w;exact w.elim
end
def b0p':Its→Nat
 | .items xs=>xs.length+1
 | .live f _=>f
theorem a5e' (step:D→List D→Store→Res (List D))(xs:List D):∀(n i:Nat) (acc:List D) (S:Store),i+n=xs.length→compB step (fun _ i=>some xs[i]?) (n+1) i acc S=compD step (xs.drop i) acc S
 |0,i,acc,S,h=>by
  rw[List.drop_eq_nil_of_le (by omega)]
  unfold compB
  have:xs[i]? =none:=List.getElem?_eq_none_iff.mpr (by omega)
  rw[this]
  rfl
 |n+1,i,acc,S,h=>by
  have hi:i<xs.length:=by omega
  rw[List.drop_eq_getElem_cons hi]
  unfold compB
  rw[List.getElem?_eq_getElem hi]
  show(step xs[i] acc S).bind _=(step xs[i] acc S).bind _
  congr 1
  funext acc' S'
  exact a5e' step xs n (i+1) acc' S' (by omega)
theorem b0q' (step:D→List D→Store→Res (List D))(its:Its)(acc:List D)(S:Store):compI step its acc S=compB step (getOf its) (b0p' its) 0 acc S:=by
 cases its with
 |items xs=>exact(a5e' step xs xs.length 0 acc S (by omega)).symm
 |live f get=>rfl
def stepN (Φ:FT)(Γ:Str→Option D)(tg:CT)(ifs:List CE)(body:CE)(ρ:Rho):D→List D→Store→Res (List D):=fun x acc S2=>match a0m' tg x ρ with
 |some ρ'=>stepC Φ Γ ifs body ρ' acc S2
 |none=>.fail
section
variable {K:PySem.W.Frag}{mg:Str→Option Value}{Φ:FT}{Γ:Str→Option D}
theorem CSt.back {F:List Addr}{acc:Addr}{B B':List Addr→Hp→Prop}{μ0 μ:List Addr}{H0 H:Hp}{S:Store}{ρ ρ':Rho}{σ σ':L2.St}{ds:List D}{vs:List V}(c:CSt K mg F acc B μ0 H0 μ S H ρ σ ds vs)(b:B' μ H)(e:EnvR K ⟨mg,acc::F⟩ μ H ρ' σ'):CSt K mg F acc B' μ0 H0 μ S H ρ' σ' ds vs:=
 ⟨c.n0,c.ext,c.sok,c.nin,e,c.at_,c.rep,b⟩
theorem b0r' {tg:CT}{ifs:List CE}{body:CE}{ρ ρ':Rho}{x:D}{ds:List D}{S:Store}(h:a0m' tg x ρ=some ρ'):stepN Φ Γ tg ifs body ρ x ds S=stepC Φ Γ ifs body ρ' ds S:=by
 unfold stepN;rw[h]
theorem b0s' {tg:CT}{ifs:List CE}{body:CE}{ρ:Rho}{x:D}{ds:List D}{S:Store}(h:a0m' tg x ρ=none):stepN Φ Γ tg ifs body ρ x ds S=.fail:=by
 unfold stepN;rw[h]
theorem b2Z' {Fi F:List Addr}{acc:Addr}{B:List Addr→Hp→Prop}{μi μ0:List Addr}{Hi H0:Hp}{J:It}{get:Store→Nat→Option (Option D)}{ρ:Rho}{tg:CT}{ifs:List CE}{body:CE}{Q:L2.St→Hp→Prop}(hB:Keep K (acc::F) B)(ok:ItOk K ⟨mg,Fi⟩ J get μi Hi)
  {n:Nat} {μ:List Addr} {S:Store} {H:Hp} {σ:L2.St} {ds:List D} {vs:List V} (ch:Chg K Fi μi Hi (acc::F) μ H) (st:CSt K mg F acc B μ0 H0 μ S H ρ σ ds vs) (w:WantB K mg F acc B μ0 H0 ρ Q (compB (stepN Φ Γ tg ifs body ρ) get n 0 ds S)):
  ∃W:Nat→Nat→L2.St→Hp→Prop,(∃m,W 0 m σ H)∧∀i m σ H,W i m σ H→
   (J.stop i H∧Q σ H)∨(J.go i H∧∃Nx:L2.St→Hp→Prop,(∀σ' H',Nx σ' H'→∃m',m'<m∧W (i+1) m' σ' H')∧∀x H',J.yld i H x H'→gCT K tg x σ H' fun σ2 H2=>tC K mg Φ Γ ifs body acc σ2 H2 Nx):=by
 refine⟨fun i m σ H=>∃μ S ds vs,Chg K Fi μi Hi (acc::F) μ H∧CSt K mg F acc B μ0 H0 μ S H ρ σ ds vs∧WantB K mg F acc B μ0 H0 ρ Q (compB (stepN Φ Γ tg ifs body ρ) get m i ds S),⟨n,μ,S,ds,vs,ch,st,w⟩,?_⟩
 rintro i m σ H ⟨μ,S,ds,vs,ch,st,w⟩
 cases m with
 |zero=>exact w.elim
 |succ m=>
  unfold compB at w
  obtain⟨k1,k2⟩:=ok i μ S H (acc::F) ch st.sok
  cases e:get S i with
  |none=>rw[e]at w;exact w.elim
  |some o=>
   cases o with
   |none=>rw[e]at w;exact .inl ⟨k2 e,w μ H σ vs st⟩
   |some x=>
    rw[e]at w
    obtain⟨go,yld⟩:=k1 x e
    refine .inr ⟨go,fun σ' H'=>∃μ S ds vs,Chg K Fi μi Hi (acc::F) μ H'∧CSt K mg F acc B μ0 H0 μ S H' ρ σ' ds vs∧WantB K mg F acc B μ0 H0 ρ Q (compB (stepN Φ Γ tg ifs body ρ) get m (i+1) ds S),fun σ' H' q=>⟨m,Nat.lt_succ_self m,q⟩,fun y H' hy=> ?_⟩
    obtain⟨x1,s1,r1⟩:=yld y H' hy
    have st1:=st.next hB x1 s1
    have ch1:Chg K Fi μi Hi (acc::F) μ H':=ch.trans (.of_ext x1 fun _ z=>.inl z)
    have w':WantB K mg F acc B μ0 H0 ρ Q ((stepN Φ Γ tg ifs body ρ x ds S).bind fun acc' S'=>compB (stepN Φ Γ tg ifs body ρ) get m (i+1) acc' S'):=w
    cases ea:a0m' tg x ρ with
    |none=>rw[b0s' ea]at w';exact w'.elim
    |some ρ'=>
     rw[b0r' ea]at w'
     refine g_do (b0o' ea) r1 st1.env fun σ2 en2=> ?_
     refine⟨F,fun μ H=>B μ H∧Chg K Fi μi Hi (acc::F) μ H,μ0,H0,μ,ρ',S,ds,vs,fun μa Ha μb Hb q c=>⟨hB _ _ _ _ q.1 c,q.2.trans c⟩,st1.back (B':=fun μ H=>B μ H∧Chg K Fi μi Hi (acc::F) μ H) ⟨st1.b,ch1⟩ en2,?_⟩
     cases es:stepC Φ Γ ifs body ρ' ds S with
     |ok ds' S'=>
      rw[es]at w'
      intro μ' H2 σ' vs' st'
      exact⟨μ',S',ds',vs',st'.b.2,st'.back st'.b.1 (b4r' ea st'.env),w'⟩
     |err z S'=>rw[es]at w';exact w'.elim
     |fail=>rw[es]at w';exact w'.elim
end
section
variable {X:Cx}{E:XK}{CX:CXT}{Φ:FT}{Γ:Str→Option D}
theorem c_inner {elt:Expr}{gens:List Comprehension}{scope:Scope}{pos:Pos}{d:Nat}{acc:Addr}{t i:Expr}{fs:List Expr}{tg:CT}{it:CE}{ifs:List CE}{body:CE}(hx:X.xe=fun _ _=>False)(hc:X.calm=true)(hg:gens[d+1]? =some ⟨t,i,fs,0⟩)
  (hi:PI X t i (tI X.K X.mg E Φ Γ it)) (hs:∀x,foldedSetIterable i X.env x=pure x) (hgt:PG X t (gCT X.K tg))
  (hb:PB X (a6u' fs X.env>>=fun ok=>if ok=true then cRest elt gens scope pos (d+1) (.ref acc) X.env else pure ()) (tC X.K X.mg Φ Γ ifs body acc)):PB X (cRest elt gens scope pos d (.ref acc) X.env) (tB X.K X.mg Φ Γ (.inner tg it ifs body) acc):=
 PB.weak (b4q' hx hc hg hi hs hgt hb) fun σ H Q zz=>ex93 zz fun F B μ0 H0 μ ρ S ds vs hB st w=>by
  refine⟨acc::F,μ,ρ,S,st.sok,st.env,?_⟩
  simp only[denB]at w
  cases e:denI Φ Γ it ρ S with
  |ok its S1=>
   rw[e]at w
   intro μ1 H1 J x s ok
   have st1:=st.next hB x s
   have w':WantB X.K X.mg F acc B μ0 H0 ρ Q (compI (stepN Φ Γ tg ifs body ρ) its ds S1):=w
   rw[b0q']at w'
   exact b2Z' hB ok .refl st1 w'
  |err y S1=>rw[e]at w;exact w.elim
  |fail=>rw[e]at w;exact w.elim
def csOf (fr:List (Option Nat)):L2.St→L2.St:=fun σ=>fr.map fun j=>j.bind fun j=>(σ[j]?).join
theorem env_cs {K:PySem.W.Frag}{mg:GS}{μ:List Addr}{H:Hp}{ρ:Rho}{σ:L2.St}{fr:List (Option Nat)}(en:EnvR K mg μ H ρ σ):EnvR K mg μ H (fr.map fun j=>j.bind fun j=>(ρ[j]?).join) (csOf fr σ):=by
 refine⟨by simp[csOf],fun i d e=> ?_⟩
 rw[List.getElem?_map]at e
 cases e1:fr[i]? with
 |none=>rw[e1]at e;cases e
 |some o=>
  rw[e1]at e
  have e:=Option.some.inj e
  cases o with
  |none=>cases e
  |some j=>
   have e2:(ρ[j]?).join=some d:=e
   cases e3:ρ[j]? with
   |none=>rw[e3]at e2;cases e2
   |some o=>
    rw[e3]at e2
    have e4:o=some d:=e2
    subst e4
    obtain⟨v,k1,k2⟩:=en.2 j d e3
    exact⟨v,by unfold csOf;rw[List.getElem?_map,e1];show some ((σ[j]?).join)=_;rw[k1];rfl,k2⟩
theorem c_comp {tg0:Expr}{box:Bool}{N':List Str}{fr:List (Option Nat)}{tg:CT}{it:CE}{ifs:List CE}{body:CE}{σ:L2.St}{H:Hp}{Q:VK}(h:tE X.K X.mg E Φ Γ (.comp box N' fr tg it ifs body) σ H Q):
  tComp (csOf fr) (tI X.K X.mg E Φ Γ it) (gCT X.K tg) (tC X.K X.mg Φ Γ ifs body) σ H Q:=by
 obtain⟨F,μ,ρ,S,sk,en,w⟩:=h
 refine⟨F,μ,ρ,S,sk,en,?_⟩
 simp only[den]at w
 refine WantG.mono (Rel:=fun μ' H' its J=>ItOk X.K ⟨X.mg,F⟩ J (getOf its) μ' H') (WantG.bind w) fun J H1 h acc hacc=> ?_
 obtain⟨μ1,S1,its,x1,s1,ok,w1⟩:=h
 have st:CSt X.K X.mg F acc (fun μ H=>Chg X.K F μ1 H1 (acc::F) μ H) μ1 H1 μ1 S1 (upd H1 acc (.lst [])) (fr.map fun j=>j.bind fun j=>(ρ[j]?).join) (csOf fr σ) [] []:={
  n0:=hacc
  ext:=.laid hacc
  sok:=s1.start hacc
  nin:=s1.notin hacc
  env:=(env_cs (en.mono x1)).chg (.start hacc)
  at_:=a0I'
  rep:=.nil
  b:=.start hacc}
 refine b2Z' (Q:=fun _ H=>Q (.ref acc) H) (B:=fun μ H=>Chg X.K F μ1 H1 (acc::F) μ H) (n:=b0p' its) (fun μa Ha μb Hb q c=>q.trans c) ok (.start hacc) st ?_
 have w2:WantG X.K ⟨X.mg,F⟩ E (Rep X.K ⟨X.mg,F⟩) μ1 H1 Q ((compI (stepN Φ Γ tg ifs body (fr.map fun j=>j.bind fun j=>(ρ[j]?).join)) its [] S1).noErr.bind fun ys S5=>if box=true then .ok (.ref S5.length) (S5++[ys])else .ok (.lst ys) S5):=w1
 rw[b0q']at w2
 cases e:compB (stepN Φ Γ tg ifs body (fr.map fun j=>j.bind fun j=>(ρ[j]?).join)) (getOf its) (b0p' its) 0 [] S1 with
 |ok ys S5=>
  rw[e]at w2
  intro μ' H' σ' vs' st'
  have hF:acc∉F:=s1.notF hacc
  cases box with
  |false=>
   refine w2 μ' H' (.ref acc) st'.ext st'.sok.out ?_
   unfold Rep
   exact⟨acc,vs',rfl,st'.at_,⟨st'.nin,hF⟩,RepL.chg .out _ _ st'.rep⟩
  |true=>
   refine w2 (μ'++[acc]) H' (.ref acc) (st'.ext.outBox hacc) (st'.sok.outBox st'.nin st'.at_ st'.rep) ?_
   unfold Rep
   refine⟨acc,rfl,?_⟩
   have hl:=st'.sok.len
   rw[List.getElem?_append_right (by omega)]
   simp[hl]
 |err y S5=>rw[e]at w2;exact w2.elim
 |fail=>rw[e]at w2;exact w2.elim
end
end Py
end
section
namespace Py
open PySem PySem.Spec PyProof.Rows L2
section
variable {prog:Program}{w:World}{A:Around}{E:Value→Shared→Prop}{s:Shared}
end
end Py
end
section
namespace Py
open PySem PySem.Spec PyProof.Rows
def setO (led:Bool):Obj:={cls:=.type "set",dict:=none,data:=.set #[] 0 (.fresh 0 0 led)}
section
variable {prog:Program}{w:World}{A:Around}{E:Value→Shared→Prop}{s:Shared}
theorem a7y' {t:Addr}{vs:Array Value}{ns:List Int}{Q:Value→Shared→Prop}(hh:A.handled=none)(ht:s.heap.IsTuple t vs)(hi:IntsAre vs.toList ns)(hb:vs.size+1<scanBound)
  (h:∀(h':Heap) (tk:Nat),h'.SetOf (intKind prog w) s.heap.objs.size (fun k'=>(firstMet (fun i=>ns.getD i 0) vs.size).any (· ==k')) (firstMet (fun i=>ns.getD i 0) vs.size).length→
   (∀b o,b<s.heap.objs.size→s.heap.get? b=some o→h'.get? b=some o)→Q (.ref s.heap.objs.size) {s with heap:=h',toks:=tk}):wpAny (model prog w) A (call (.type "set") [.ref t]) Q E s:=by
 obtain⟨c,tl,hmro⟩:=F.called_set.mro
 have hmade:=F.called_set.made
 have hsub:=F.called_set.sub
 refine wpAny_call (codeAny_of_tree ?_)
 show wpAny _ _ (callAny (.type "set") _) _ _ _
 refine wpAny_pure ⟨Code.quiet_builtin _ (by decide+kernel),codeAny_builtin F.entry_type_call ?_⟩
 rw[Around.under_plain (weight_type_call_type "set" [.ref t] []) rfl]
 have g1:=F.called_set.notType
 have g2:=F.called_set.canCreate
 have g3:=F.typeCall_set_1 (.ref t)
 repeat(any_goals (first|assumption|wp_step))
 refine codeAny_mono (code_set_new_1 (.ref t) (E:=E) (Q₁:=fun obj s₁=>∃led:Bool,obj=.ref s.heap.objs.size∧s₁={s with heap:=s.heap.push (setO led)}) fun led=>⟨led,rfl,rfl⟩) fun r s₁ hr=> ?_
 cases r with
 |error e=>exact hr
 |ok fl=>
  cases fl with
  |ret obj=>
   obtain⟨led,rfl,rfl⟩:=hr
   have hS:(s.heap.push (setO led)).get? s.heap.objs.size=some (setO led):=Heap.get?_push_size _ rfl
   have hT:Shared.TypeIs {s with heap:=s.heap.push (setO led)} (.ref s.heap.objs.size) "set":=⟨_,hS,rfl⟩
   have hli:=F.called_set.init.lookup
   have hbi:=F.called_set.init.bind (.ref s.heap.objs.size)
   repeat(any_goals (first|assumption|wp_step))
   refine codeAny_mono (codeAny_call_builtin (R:=wants (fun r s₂=>r=.none∧∃h' tk,s₂={s with heap:=h',toks:=tk}∧h'.SetOf (intKind prog w) s.heap.objs.size (fun k'=>(firstMet (fun i=>ns.getD i 0) vs.size).any (· ==k')) (firstMet (fun i=>ns.getD i 0) vs.size).length∧
     (∀b o,b<s.heap.objs.size→s.heap.get? b=some o→h'.get? b=some o)) E) F.called_set.init.plain F.entry_set_init (check_set_init_1 hT ?_)) fun r₂ s₂ hr₂=> ?_
   ·obtain⟨⟨ocls,odict,odata,oslots⟩,hol,hcl,nl,hdl⟩:=ht
    simp only at hcl hdl
    subst hcl;subst hdl
    have hol':(s.heap.push (setO led)).get? t=some {cls:=.type "tuple",dict:=odict,data:=.seq vs nl,slots:=oslots}:=Heap.get?_push_of_some _ hol
    have q1:=F.sub_tuple_set
    have q2:=F.sub_tuple_frozenset
    have q3:(Value.type "tuple"==Value.type "dict")=false:=by decide
    have hl1:(s.heap.push (setO led)).IsTuple t vs:=⟨_,hol',rfl,nl,rfl⟩
    unfold Builtin.«set.__init__» noKeywords Builtin.Frozenset.updateFrom
    generalize hPI:pyIter=PI
    wp_walk
    subst hPI
    refine wpAny_pyIter_tuple hl1 (wpAny_bind (wpAny_runValue ?_))
    have hlS:t<s.heap.objs.size:=Heap.lt_size hol
    have hh3:A.in1.in1.in1.handled=none:=by simp[hh]
    have hz:(s.heap.push (setO led)).objs.size=s.heap.objs.size+1:=Heap.size_push ..
    have hneI:t≠(s.heap.push (setO led)).objs.size:=by rw[hz];exact Nat.ne_of_lt (Nat.lt_succ_of_lt hlS)
    have hSf:s.heap.objs.size∉[(s.heap.push (setO led)).objs.size,t]:=by
     rw[hz]
     simp only[List.mem_cons,List.not_mem_nil,or_false,not_or]
     exact⟨Nat.ne_of_lt (Nat.lt_succ_self _),Nat.ne_of_gt hlS⟩
    refine codeAny_set_update_loopS ((Walks.tuple hh3 _ t hneI vs).toS) s.heap.objs.size hSf (fun i=>ns.getD i 0) (fun i v hv=>hi.int_at i v (by rw[Array.getElem?_toList];exact hv)) hb (vs.size-0) 0 _ (by omega) (Nat.zero_le _) ⟨⟨_,Heap.get?_push_size _ rfl,rfl,rfl⟩,(hl1.push _)⟩ ?hS0 ?hR
    case hS0=>exact SetOf_congr ((setObjOf_fresh (knd:=intKind prog w) led).setOf (Heap.get?_push_of_some _ hS) (by unfold scanBound;omega)) (fun _=>rfl) rfl
    case hR=>
     intro s' hm hS'
     obtain⟨h',g',d',tk',os'⟩:=s'
     have eg:g'=s.gens:=hm.gens
     have ed:d'=s.drawn:=hm.drawn
     have eo:os'=s.os:=hm.os
     subst eg ed eo
     show wpAny _ _ _ _ _ _
     refine wpAny_pure ?_
     show wpAny _ _ (ret Value.none) _ _ _
     refine wpAny_pure ⟨rfl,h',tk',rfl,hS',fun b o hb e=>hm.heap b o ?_ (Heap.get?_push_of_some _ (Heap.get?_push_of_some _ e))⟩
     simp only[List.mem_cons,List.not_mem_nil,or_false,not_or]
     rw[hz]
     exact⟨Nat.ne_of_lt hb,Nat.ne_of_lt (Nat.lt_succ_of_lt hb)⟩
   ·cases r₂ with
    |error e=>exact hr₂
    |ok fl₂=>
     cases fl₂ with
     |ret r=>
      obtain⟨rfl,h',tk,rfl,hS',hk'⟩:=hr₂
      repeat(any_goals (first|assumption|wp_step))
      exact h _ _ hS' hk'
     |_=>exact hr₂.elim
  |_=>exact hr.elim
end
end Py
end
section
namespace Py
open PySem PySem.Spec PyProof.Rows L2
theorem a5f' (ns:List Int):firstMet (fun i=>ns.getD i 0) ns.length=dedI ns:=by
 unfold firstMet dedI
 congr 1
 refine List.ext_getElem (by simp) fun i h1 h2=> ?_
 simp[h2]
section
variable {X:Cx}
theorem b2c' (hc:X.calm=true):CallR X (.type "set") (fun xs H Q=>∃p ns,xs=[.ref p]∧SqL X.K H p (ns.map V.int)∧ns.length+1<scanBound∧∀l S,H l=none→Q (.ref l) (upd H l (.set S (dedI ns).length))):=by
 intro pins s σ H xs us Q I r h
 obtain⟨p,ns,rfl,hq,hb,q⟩:=h
 obtain⟨u,rfl,rx⟩:=vals1 r
 cases rx
 obtain⟨its,rv,pl,_⟩:=I.list hq
 have hl:=rv.length
 simp only[List.length_map]at hl
 refine call_set_list (items:=its.toArray) (ns:=ns) (I.ok.hd hc) pl.isList (by simpa using a6l' rv) (by simp only[List.size_toArray];omega) fun h' tk hS hk=> ?_
 have e1:its.toArray.size=ns.length:=by simp[hl]
 rw[e1,a5f']at hS
 exact⟨.ref s.heap.objs.size,_,I.laid (t':=tk) (fun b o e=>hk b o (Heap.lt_size e) e) (Nat.le_refl _) (show ObjOk X.prog X.w _ h' _ (.set _ _)from hS),rfl,q _ _ (I.hok.fresh (Nat.le_refl _))⟩
theorem b2d' (hc:X.calm=true):CallR X (.type "set") (fun xs H Q=>∃p ns,xs=[.ref p]∧SqT X.K H p (ns.map V.int)∧ns.length+1<scanBound∧∀l S,H l=none→Q (.ref l) (upd H l (.set S (dedI ns).length))):=by
 intro pins s σ H xs us Q I r h
 obtain⟨p,ns,rfl,hq,hb,q⟩:=h
 obtain⟨u,rfl,rx⟩:=vals1 r
 cases rx
 obtain⟨its,rv,pl,_⟩:=I.tuple hq
 have hl:=rv.length
 simp only[List.length_map]at hl
 refine a7y' (vs:=its.toArray) (ns:=ns) (I.ok.hd hc) pl (by simpa using a6l' rv) (by simp only[List.size_toArray];omega) fun h' tk hS hk=> ?_
 have e1:its.toArray.size=ns.length:=by simp[hl]
 rw[e1,a5f']at hS
 exact⟨.ref s.heap.objs.size,_,I.laid (t':=tk) (fun b o e=>hk b o (Heap.lt_size e) e) (Nat.le_refl _) (show ObjOk X.prog X.w _ h' _ (.set _ _)from hS),rfl,q _ _ (I.hok.fresh (Nat.le_refl _))⟩
theorem b2e' (hc:X.calm=true):CallR X (.type "set") (fun xs H Q=>∃p ns,xs=[.ref p]∧(SqL X.K H p (ns.map V.int)∨SqT X.K H p (ns.map V.int))∧ns.length+1<scanBound∧∀l S,H l=none→Q (.ref l) (upd H l (.set S (dedI ns).length))):=by
 intro pins s σ H xs us Q I r h
 obtain⟨p,ns,e,hq,hb,q⟩:=h
 rcases hq with hq|hq
 ·exact b2c' hc pins s σ H xs us Q I r ⟨p,ns,e,hq,hb,q⟩
 ·exact b2d' hc pins s σ H xs us Q I r ⟨p,ns,e,hq,hb,q⟩
theorem b2f':CallR X (.builtin "len") (fun xs H Q=>∃p S n,xs=[.ref p]∧H p=some (.set S n)∧n<100000∧Q (.int n) H):=by
 intro pins s σ H xs us Q I r h
 obtain⟨p,S,n,rfl,hp,hn,q⟩:=h
 obtain⟨u,rfl,rx⟩:=vals1 r
 cases rx
 have hS:s.heap.SetOf (intKind X.prog X.w) p S n:=I.hok p _ hp
 obtain⟨o,es,ep,t,ho,hex,hd,_,_,_,hf,rfl⟩:=hS
 exact call_len_set ho hex hd hf (by omega) ⟨.int es.size,H,I.tok _,⟨_,rfl⟩,q⟩
theorem b4t':bootBuiltins "set"=some (.type "set"):=by decide+kernel
theorem dedI_le (ns:List Int):(dedI ns).length≤ns.length:=by
 have key:∀(ns acc:List Int),(ns.foldl step_dedup acc).length≤acc.length+ns.length:=by
  intro ns
  induction ns with
  |nil=>intro acc;simp
  |cons n ns ih=>
   intro acc
   refine Nat.le_trans (ih (step_dedup acc n)) ?_
   unfold step_dedup
   split<;>simp<;>omega
 simpa[dedI]using key ns []
theorem b3a':∀{xs:List D},xs.all (hasTy .int)=true→xs=(xs.filterMap asInt).map D.int
 | [],_=>rfl
 |x::xs,h=>by
  simp only[List.all_cons,Bool.and_eq_true]at h
  cases x with
  |int i=>simp only[List.filterMap_cons,asInt,List.map_cons];rw[←b3a' h.2]
  |_=>simp[hasTy]at h
theorem b0t' {K:PySem.W.Frag}{mg:GS}{μ:List Addr}{H:Hp}:∀{ns:List Int} {vs:List V},RepL K mg μ H (ns.map D.int) vs→vs=ns.map V.int
 | [],vs,r=>by unfold RepL at r;subst r;rfl
 |n::ns,vs,r=>by
  obtain⟨v,ws,rfl,r1,r2⟩:=r.uncons
  cases a0c' r1
  rw[b0t' r2];rfl
def b4u' (K:PySem.W.Frag):List V→Hp→VK→Prop:=fun xs H Q=>∃p ns,xs=[.ref p]∧(SqL K H p (ns.map V.int)∨SqT K H p (ns.map V.int))∧ns.length+1<scanBound∧∀l S,H l=none→Q (.ref l) (upd H l (.set S (dedI ns).length))
def rLenS:List V→Hp→VK→Prop:=fun xs H Q=>∃p S n,xs=[.ref p]∧H p=some (.set S n)∧n<100000∧Q (.int n) H
theorem b2g' {z:Expr}{p1 p2 p3 p4:Pos}{ta:TE}(hc:X.calm=true)(hg1:Gl X "len")(hg2:Gl X "set")(hm1:X.mg "len"=none)(hm2:X.mg "set"=none)(hn:a0J' z=true)(ha:PE X z ta):
  PE X (.Call (.Name "len" p1) [.Call (.Name "set" p2) [z] [] p3] [] p4) (fun σ H Q=>ta σ H fun x H1=>b4u' X.K [x] H1 fun y H2=>rLenS [y] H2 Q):=by
 have inner:PE X (.Call (.Name "set" p2) [z] [] p3) (tCB (b4u' X.K) (tCons ta tNil)):=a3K' (b2e' hc) hg2 hm2 b4t' (a9G' ha b3J' (a0l' hn)) (by decide) (by decide) (a0l' hn)
 exact a9I' (r:=rLenS) b2f' hg1 hm1 PySem.boot_len (a9G' inner b3J')
theorem b4v' {K:PySem.W.Frag}{mg:Str→Option Value}{F μ:List Addr}{H:Hp}{S:Store}{d:D}{v:V}{Q:VK}(sk:SOk K ⟨mg,F⟩ μ S H)(r:Rep K ⟨mg,F⟩ μ H d v)(w:Want K ⟨mg,F⟩ μ H Q (a8e' d S)):b4u' K [v] H fun y H2=>rLenS [y] H2 Q:=by
 unfold a8e' at w
 split at w
 ·rename_i xs e
  split at w
  ·rename_i hc
   obtain⟨a,vs,rfl,hq,rl⟩:∃a vs,v=.ref a∧(SqL K H a vs∨SqT K H a vs)∧RepL K ⟨mg,F⟩ μ H xs vs:=by
    cases d with
    |tup ds=>
     obtain⟨a,vs,e1,hq,q⟩:=a0s' r
     cases e
     exact⟨a,vs,e1,.inr hq,q⟩
    |_=>
     obtain⟨a,vs,e1,hq,q⟩:=a7t' sk r e (fun ys z=>by cases z)
     exact⟨a,vs,e1,.inl hq,q⟩
   have hxs:=b3a' hc.1
   have hlen:(xs.filterMap asInt).length<1000:=by
    have:=congrArg List.length hxs
    simp only[List.length_map]at this
    omega
   rw[hxs]at rl
   have hv:=b0t' rl
   subst hv
   refine⟨a,xs.filterMap asInt,rfl,hq,by unfold scanBound;omega,fun l S' hl=>⟨l,S',_,rfl,a0I',by have:=dedI_le (xs.filterMap asInt);omega,?_⟩⟩
   exact w μ _ _ (.laid hl) (sk.laid hl) a0T'
  ·exact w.elim
 ·exact w.elim
end
end Py
end
section
namespace Py
open PySem PySem.Spec PyProof.Rows L2
section
variable {X:Cx}
end
end Py
end
section
set_option autoImplicit false
namespace Srt
open PySem PyProof.Rows
def gallop':Bool→Keyed→Array Keyed→Nat→Nat→Nat→StateT SortSt Sem (Option Nat):=sortPriv%PySem.Builtin.gallop
def b4w':Array Keyed→Array Keyed→StateT SortSt Sem (Array Keyed):=sortPriv%PySem.Builtin.mergeLo
def b4x':Array Keyed→Array Keyed→StateT SortSt Sem (Array Keyed):=sortPriv%PySem.Builtin.mergeHi
def dK:Keyed:=(Value.none,Value.none)
structure Cmp (prog:Program)(w:World)(A:Around)(s:Shared)(κ:SortKind)(P:Keyed→Prop)(K:Keyed→Nat):Prop where
 lt:∀x,P x→∀y,P y→∀(Q:Bool→Shared→Prop) (E:Value→Shared→Prop),Q (decide (K x<K y)) s→wpAny (model prog w) A (keyLt' κ x.1 y.1) Q E s
def R (K:Keyed→Nat)(xs:Array Keyed)(i:Nat):Nat:=K (xs.getD i dK)
section
variable {prog:Program}{w:World}{A:Around}{E:Value→Shared→Prop}{s:Shared}{st:SortSt}{κ:SortKind}{P:Keyed→Prop}{K:Keyed→Nat}
theorem getD_of {xs:Array Keyed}{i:Nat}(h:i<xs.size):xs.getD i dK=xs[i]:=by
 unfold Array.getD;rw[dif_pos h];rfl
theorem R_of {xs:Array Keyed}{i:Nat}(h:i<xs.size):R K xs i=K xs[i]:=by unfold R;rw[getD_of h]
theorem b0u' (C:Cmp prog w A s κ P K){x y:Keyed}(hx:P x)(hy:P y)(hk:kindOf st=κ){Q:Option Bool→SortSt→Prop}(h:Q (some (decide (K x<K y))) st):wpS (model prog w) A E s (lt' x y) Q st:=by
 rw[lt'_eq]
 refine wpS_bind (wpS_get ?_)
 rw[hk]
 refine wpS_bind (wpS_lift (wpAny_attempt (C.lt x hx y hy _ _ ⟨rfl,?_⟩)))
 exact wpS_pure h
theorem a0g' {xs:Array Keyed}{i:Nat}(hi:i<xs.size){Q:Keyed→SortSt→Prop}(h:Q xs[i] st):wpS (model prog w) A E s (elem' xs i) Q st:=by
 rw[elem'_eq,getElem?_pos xs i hi]
 exact wpS_pure h
def thr (K:Keyed→Nat)(left:Bool)(key:Keyed):Nat:=if left=true then K key else K key+1
theorem a1P' (C:Cmp prog w A s κ P K){left:Bool}{key:Keyed}{arr:Array Keyed}{i:Nat}(ha:∀x∈arr.toList,P x)(hy:P key)(hk:kindOf st=κ)(hi:i<arr.size){Q:Option Bool→SortSt→Prop}(h:Q (some (decide (R K arr i<thr K left key))) st):
  wpS (model prog w) A E s (elem' arr i>>=fun x=>if left=true then lt' x key else lt' key x>>=fun r=>pure (r.map fun b=> !b)) Q st:=by
 refine wpS_bind (a0g' hi ?_)
 have hx:P arr[i]:=ha _ (by simp)
 rw[R_of hi]at h
 cases left with
 |true=>exact b0u' C hx hy hk h
 |false=>
  refine wpS_bind (b0u' C hy hx hk ?_)
  refine wpS_pure ?_
  have e:(!decide (K key<K arr[i]))=decide (K arr[i]<thr K false key):=by
   rw[←decide_not]
   exact decide_eq_decide.mpr (by show ¬K key<K arr[i]↔K arr[i]<K key+1;lia)
  show Q (some (!decide (K key<K arr[i]))) st
  rw[e];exact h
theorem a1q' (C:Cmp prog w A s κ P K){left:Bool}{key:Keyed}{arr:Array Keyed}{base n hint:Nat}(ha:∀x∈arr.toList,P x)(hy:P key)(hk:kindOf st=κ)(hz:base+n≤arr.size)(hh:hint<n)
  (hs:∀i j,i≤j→j<n→R K arr (base+i)≤R K arr (base+j)) {Q:Option Nat→SortSt→Prop}
  (h:∀k,k≤n→(∀i,i<k→R K arr (base+i)<thr K left key)→(∀i,k≤i→i<n→thr K left key≤R K arr (base+i))→Q (some k) st):wpS (model prog w) A E s (gallop' left key arr base n hint) Q st:=by
 have last:∀lo hi:Nat,lo≤hi→hi≤n→(∀i,i<lo→R K arr (base+i)<thr K left key)→(∀i,hi≤i→i<n→thr K left key≤R K arr (base+i))→
   ∀{f:Nat→Option (Option Nat)×Nat×Nat→StateT SortSt Sem (ForInStep (Option (Option Nat)×Nat×Nat))} {g:Option (Option Nat)×Nat×Nat→StateT SortSt Sem (Option Nat)},
   (∀x lo hi,lo<hi→hi≤n→∀Q',(R K arr (base+(lo+(hi-lo)/2))<thr K left key→Q' (.yield (none,lo+(hi-lo)/2+1,hi)) st)→(¬R K arr (base+(lo+(hi-lo)/2))<thr K left key→Q' (.yield (none,lo,lo+(hi-lo)/2)) st)→wpS (model prog w) A E s (f x (none,lo,hi)) Q' st)→
   (∀x lo hi,hi≤lo→f x (none,lo,hi)=pure (.done (none,lo,hi)))→(∀lo hi,g (none,lo,hi)=pure (some hi))→wpS (model prog w) A E s (forIn [:n] (none,lo,hi) f>>=g) Q st:=by
  intro lo hi h1 h2 h3 h4 f g hf hd hg
  refine wpS_bind (wpS_mono (wpS_forRange (I:=fun x c st'=>st'=st∧∃lo hi,c=(none,lo,hi)∧lo≤hi∧hi≤n∧hi-lo≤n-x∧(∀i,i<lo→R K arr (base+i)<thr K left key)∧(∀i,hi≤i→i<n→thr K left key≤R K arr (base+i)))
   (Q:=fun c st'=>st'=st∧∃hi,c=(none,hi,hi)∧hi≤n∧(∀i,i<hi→R K arr (base+i)<thr K left key)∧(∀i,hi≤i→i<n→thr K left key≤R K arr (base+i))) ?_ ?_ ⟨rfl,lo,hi,rfl,h1,h2,by lia,h3,h4⟩) ?_)
  ·rintro x c st' _ hx ⟨rfl,lo,hi,rfl,k1,k2,k3,k4,k5⟩
   by_cases hlt:hi≤lo
   ·rw[hd x lo hi hlt]
    have:lo=hi:=by lia
    subst this
    exact wpS_pure ⟨rfl,lo,rfl,k2,k4,k5⟩
   ·refine hf x lo hi (by lia) k2 _ (fun hm=>⟨rfl,_,_,rfl,by lia,k2,by lia,fun i hi'=> ?_,k5⟩) (fun hm=>⟨rfl,_,_,rfl,by lia,by lia,by lia,k4,fun i h1 h2=> ?_⟩)
    ·have:=hs i (lo+(hi-lo)/2) (by lia) (by lia)
     lia
    ·have:=hs (lo+(hi-lo)/2) i (by lia) (by lia)
     lia
  ·rintro c st' ⟨rfl,lo,hi,rfl,k1,k2,k3,k4,k5⟩
   have:lo=hi:=by lia
   subst this
   exact⟨rfl,lo,rfl,k2,k4,k5⟩
  ·rintro c st' ⟨rfl,hi,rfl,k2,k4,k5⟩
   rw[hg]
   exact wpS_pure (h hi k2 k4 k5)
 refine wpS_bind (a1P' C ha hy hk (by lia) ?_)
 by_cases hr:R K arr (base+hint)<thr K left key
 ·rw[decide_eq_true hr]
  refine wpS_bind (wpS_mono (wpS_forRange (I:=fun x c st'=>st'=st∧∃l o,c=(none,l,o)∧l<o∧x+1≤o∧hint+l<n∧R K arr (base+(hint+l))<thr K left key)
   (Q:=fun c st'=>st'=st∧∃l o,c=(none,l,o)∧l<o∧hint+l<n∧R K arr (base+(hint+l))<thr K left key∧(n-hint≤o∨(hint+o<n∧thr K left key≤R K arr (base+(hint+o))))) ?_ ?_ ⟨rfl,0,1,rfl,by lia,by lia,by lia,hr⟩) ?_)
  ·rintro x c st' _ hx ⟨rfl,l,o,rfl,k1,k2,k3,k4⟩
   dsimp only
   by_cases ho:o≥n-hint
   ·rw[if_pos ho]
    exact wpS_pure ⟨rfl,l,o,rfl,k1,k3,k4,.inl ho⟩
   ·rw[if_neg ho]
    refine wpS_bind (a1P' C ha hy hk (by lia) ?_)
    by_cases hm:R K arr (base+(hint+o))<thr K left key
    ·rw[decide_eq_true hm]
     exact wpS_pure ⟨rfl,o,2*o+1,rfl,by lia,by lia,by lia,hm⟩
    ·rw[decide_eq_false hm]
     exact wpS_pure ⟨rfl,l,o,rfl,k1,k3,k4,.inr ⟨by lia,by lia⟩⟩
  ·rintro c st' ⟨rfl,l,o,rfl,k1,k2,k3,k4⟩
   exact⟨rfl,l,o,rfl,k1,k3,k4,.inl (by lia)⟩
  ·rintro c st' ⟨rfl,l,o,rfl,k1,k3,k4,k5⟩
   refine last (hint+l+1) (hint+min o (n-hint)) (by lia) (by lia) (fun i hi=> ?_) (fun i h1 h2=> ?_) (fun x lo hi h1 h2 Q' q1 q2=> ?_) (fun x lo hi h1=>if_pos h1) (fun lo hi=>rfl)
   ·have:=hs i (hint+l) (by lia) (by lia)
    lia
   ·rcases k5 with k5| ⟨k5,k6⟩
    ·lia
    ·have:=hs (hint+o) i (by lia) (by lia)
     lia
   ·dsimp only
    rw[if_neg (by lia)]
    refine wpS_bind (a1P' C ha hy hk (by lia) ?_)
    by_cases hm:R K arr (base+(lo+(hi-lo)/2))<thr K left key
    ·rw[decide_eq_true hm];exact wpS_pure (q1 hm)
    ·rw[decide_eq_false hm];exact wpS_pure (q2 hm)
 ·rw[decide_eq_false hr]
  refine wpS_bind (wpS_mono (wpS_forRange (I:=fun x c st'=>st'=st∧∃l o,c=(none,l,o)∧l<o∧x+1≤o∧l≤hint∧thr K left key≤R K arr (base+(hint-l)))
   (Q:=fun c st'=>st'=st∧∃l o,c=(none,l,o)∧l<o∧l≤hint∧thr K left key≤R K arr (base+(hint-l))∧(hint+1≤o∨(o≤hint∧R K arr (base+(hint-o))<thr K left key))) ?_ ?_ ⟨rfl,0,1,rfl,by lia,by lia,by lia,by simpa using hr⟩) ?_)
  ·rintro x c st' _ hx ⟨rfl,l,o,rfl,k1,k2,k3,k4⟩
   dsimp only
   by_cases ho:o≥hint+1
   ·rw[if_pos ho]
    exact wpS_pure ⟨rfl,l,o,rfl,k1,k3,k4,.inl ho⟩
   ·rw[if_neg ho]
    refine wpS_bind (a1P' C ha hy hk (by lia) ?_)
    by_cases hm:R K arr (base+(hint-o))<thr K left key
    ·rw[decide_eq_true hm]
     exact wpS_pure ⟨rfl,l,o,rfl,k1,k3,k4,.inr ⟨by lia,hm⟩⟩
    ·rw[decide_eq_false hm]
     exact wpS_pure ⟨rfl,o,2*o+1,rfl,by lia,by lia,by lia,by lia⟩
  ·rintro c st' ⟨rfl,l,o,rfl,k1,k2,k3,k4⟩
   exact⟨rfl,l,o,rfl,k1,k3,k4,.inl (by lia)⟩
  ·rintro c st' ⟨rfl,l,o,rfl,k1,k3,k4,k5⟩
   refine last (hint+1-min o (hint+1)) (hint-l) (by lia) (by lia) (fun i hi=> ?_) (fun i h1 h2=> ?_) (fun x lo hi h1 h2 Q' q1 q2=> ?_) (fun x lo hi h1=>if_pos h1) (fun lo hi=>rfl)
   ·rcases k5 with k5| ⟨k5,k6⟩
    ·lia
    ·have:=hs i (hint-o) (by lia) (by lia)
     lia
   ·have:=hs (hint-l) i (by lia) (by lia)
    lia
   ·dsimp only
    rw[if_neg (by lia)]
    refine wpS_bind (a1P' C ha hy hk (by lia) ?_)
    by_cases hm:R K arr (base+(lo+(hi-lo)/2))<thr K left key
    ·rw[decide_eq_true hm];exact wpS_pure (q1 hm)
    ·rw[decide_eq_false hm];exact wpS_pure (q2 hm)
end
end Srt
end
section
set_option autoImplicit false
namespace Srt
open PySem PyProof.Rows
section
variable {K:Keyed→Nat}
def LS (K:Keyed→Nat)(l:List Keyed):Prop:=l.Pairwise fun x y=>K x≤K y
def Good (K:Keyed→Nat)(tot:List Keyed)(r:Array Keyed):Prop:=r.toList.Perm tot∧LS K r.toList
structure MI (K:Keyed→Nat)(tot o ra rb:List Keyed):Prop where
 perm:(o++ra++rb).Perm tot
 so:LS K o
 sa:LS K ra
 sb:LS K rb
 oa:∀x∈o,∀y∈ra,K x≤K y
 ob:∀x∈o,∀y∈rb,K x≤K y
variable {tot o ra rb c:List Keyed}
theorem MI.stepA (h:MI K tot o (c++ra) rb)(hc:∀x∈c,∀y∈rb,K x≤K y):MI K tot (o++c) ra rb:=by
 have sa:=List.pairwise_append.mp h.sa
 refine⟨?_,List.pairwise_append.mpr ⟨h.so,sa.1,fun x hx y hy=>h.oa x hx y (List.mem_append_left _ hy)⟩,sa.2.1,h.sb,fun x hx y hy=> ?_,fun x hx y hy=> ?_⟩
 ·have:=h.perm
  rwa [←List.append_assoc]at this
 ·rcases List.mem_append.mp hx with z|z
  ·exact h.oa x z y (List.mem_append_right _ hy)
  ·exact sa.2.2 x z y hy
 ·rcases List.mem_append.mp hx with z|z
  ·exact h.ob x z y hy
  ·exact hc x z y hy
theorem MI.stepB (h:MI K tot o ra (c++rb))(hc:∀x∈c,∀y∈ra,K x≤K y):MI K tot (o++c) ra rb:=by
 have sb:=List.pairwise_append.mp h.sb
 refine⟨?_,List.pairwise_append.mpr ⟨h.so,sb.1,fun x hx y hy=>h.ob x hx y (List.mem_append_left _ hy)⟩,h.sa,sb.2.1,fun x hx y hy=> ?_,fun x hx y hy=> ?_⟩
 ·refine List.Perm.trans ?_ h.perm
  rw[List.append_assoc,List.append_assoc,List.append_assoc]
  refine List.Perm.append_left _ ?_
  rw[←List.append_assoc,←List.append_assoc]
  exact List.Perm.append_right _ List.perm_append_comm
 ·rcases List.mem_append.mp hx with z|z
  ·exact h.oa x z y hy
  ·exact hc x z y hy
 ·rcases List.mem_append.mp hx with z|z
  ·exact h.ob x z y (List.mem_append_right _ hy)
  ·exact sb.2.2 x z y hy
theorem MI.done (h:MI K tot o ra []):(o++ra++[]).Perm tot∧LS K (o++ra++[]):=by
 refine⟨h.perm,?_⟩
 rw[List.append_nil]
 exact List.pairwise_append.mpr ⟨h.so,h.sa,h.oa⟩
theorem MI.last (h:MI K tot o ra rb)(hb:∀y∈rb,∀z∈ra,K y≤K z):(o++rb++ra).Perm tot∧LS K (o++rb++ra):=by
 refine⟨List.Perm.trans ?_ h.perm,List.pairwise_append.mpr ⟨List.pairwise_append.mpr ⟨h.so,h.sb,h.ob⟩,h.sa,fun x hx y hy=> ?_⟩⟩
 ·rw[List.append_assoc,List.append_assoc]
  exact List.Perm.append_left _ List.perm_append_comm
 ·rcases List.mem_append.mp hx with z|z
  ·exact h.oa x z y hy
  ·exact hb x z y hy
theorem a5P' {a:Array Keyed}{i:Nat}:(a.extract i).toList=a.toList.drop i:=by
 rw[Array.toList_extract]
 unfold List.extract
 rw[List.take_of_length_le (by simp)]
theorem b0v' {a:Array Keyed}{i k:Nat}:(a.extract i (i+k)).toList=(a.toList.drop i).take k:=by
 rw[Array.toList_extract]
 unfold List.extract
 rw[Nat.add_sub_cancel_left]
theorem a8k' {a:Array Keyed}{i:Nat}(h:i<a.size):a.toList.drop i=a[i]::a.toList.drop (i+1):=by
 rw[List.drop_eq_getElem_cons (by simpa using h)]
 rfl
theorem a6v' {a:Array Keyed}{i k:Nat}:a.toList.drop i=(a.toList.drop i).take k++a.toList.drop (i+k):=by
 rw[←List.drop_drop,List.take_append_drop]
theorem LS.mono {a:Array Keyed}(h:LS K a.toList){i j:Nat}(hij:i≤j)(hj:j<a.size):R K a i≤R K a j:=by
 rw[R_of hj,R_of (show i<a.size by lia)]
 rcases Nat.lt_or_ge i j with z|z
 ·exact List.pairwise_iff_getElem.mp h i j (by simp;lia) (by simpa using hj) z
 ·have:i=j:=by lia
  subst this;exact Nat.le_refl _
theorem a1Q' {a:Array Keyed}{i k:Nat}{x:Keyed}(h:x∈(a.toList.drop i).take k):∃j,j<k∧i+j<a.size∧K x=R K a (i+j):=by
 obtain⟨j,hj,rfl⟩:=List.mem_iff_getElem.mp h
 simp only[List.length_take,List.length_drop,Array.length_toList]at hj
 refine⟨j,by lia,by lia,?_⟩
 rw[R_of (show i+j<a.size by lia)]
 simp
theorem a7z' {a:Array Keyed}{i:Nat}{x:Keyed}(h:x∈a.toList.drop i):∃j,i≤j∧j<a.size∧K x=R K a j:=by
 obtain⟨j,hj,rfl⟩:=List.mem_iff_getElem.mp h
 simp only[List.length_drop,Array.length_toList]at hj
 refine⟨i+j,by lia,by lia,?_⟩
 rw[R_of (show i+j<a.size by lia)]
 simp
end
def a0D' (st:SortSt)(g:Nat):SortSt:=SortSt.mk' (kindOf st) (arrOf st) (pendingOf st) g (failedOf st)
section
variable {prog:Program}{w:World}{A:Around}{E:Value→Shared→Prop}{s:Shared}{st:SortSt}{κ:SortKind}{P:Keyed→Prop}{K:Keyed→Nat}
structure ML (K:Keyed→Nat)(a b out:Array Keyed)(ia ib:Nat):Prop where
 mi:MI K (a.toList++b.toList) out.toList (a.toList.drop ia) (b.toList.drop ib)
 la:ia+1<a.size
 lb:ib<b.size
variable {a b out:Array Keyed}{ia ib:Nat}
theorem a3N' (h:MI K (a.toList++b.toList) out.toList (a.toList.drop ia) (b.toList.drop ib))(e:ib=b.size):Good K (a.toList++b.toList) (out++a.extract ia++b.extract ib):=by
 have e1:b.toList.drop ib=[]:=List.drop_eq_nil_of_le (by simp;lia)
 unfold Good
 rw[Array.toList_append,Array.toList_append,a5P',a5P',e1]
 rw[e1]at h
 exact h.done
theorem a3O' (hl:∀y∈b.toList,K y<R K a (a.size-1))(h:MI K (a.toList++b.toList) out.toList (a.toList.drop ia) (b.toList.drop ib))(e:ia+1=a.size):Good K (a.toList++b.toList) (out++b.extract ib++a.extract ia):=by
 unfold Good
 rw[Array.toList_append,Array.toList_append,a5P',a5P']
 refine h.last fun y hy z hz=> ?_
 obtain⟨j,h1,h2,e2⟩:=a7z' (K:=K) hz
 have:=hl y (List.mem_of_mem_drop hy)
 rw[e2,show j=a.size-1 by lia]
 lia
theorem mi_a (h:MI K (a.toList++b.toList) out.toList (a.toList.drop ia) (b.toList.drop ib))(hi:ia<a.size)(hc:∀y∈b.toList.drop ib,K a[ia]≤K y):MI K (a.toList++b.toList) (out.push a[ia]).toList (a.toList.drop (ia+1)) (b.toList.drop ib):=by
 rw[Array.toList_push]
 refine MI.stepA (c:=[a[ia]]) ?_ fun x hx y hy=> ?_
 ·rw[a8k' hi]at h;exact h
 ·rw[List.mem_singleton.mp hx];exact hc y hy
theorem mi_b (h:MI K (a.toList++b.toList) out.toList (a.toList.drop ia) (b.toList.drop ib))(hi:ib<b.size)(hc:∀y∈a.toList.drop ia,K b[ib]≤K y):MI K (a.toList++b.toList) (out.push b[ib]).toList (a.toList.drop ia) (b.toList.drop (ib+1)):=by
 rw[Array.toList_push]
 refine MI.stepB (c:=[b[ib]]) ?_ fun x hx y hy=> ?_
 ·rw[a8k' hi]at h;exact h
 ·rw[List.mem_singleton.mp hx];exact hc y hy
theorem mi_as {k:Nat}(h:MI K (a.toList++b.toList) out.toList (a.toList.drop ia) (b.toList.drop ib))(hc:∀i,i<k→∀y∈b.toList.drop ib,R K a (ia+i)≤K y):MI K (a.toList++b.toList) (out++a.extract ia (ia+k)).toList (a.toList.drop (ia+k)) (b.toList.drop ib):=by
 rw[Array.toList_append,b0v']
 refine MI.stepA ?_ fun x hx y hy=> ?_
 ·rw[←a6v'];exact h
 ·obtain⟨j,h1,h2,e⟩:=a1Q' (K:=K) hx
  rw[e];exact hc j h1 y hy
theorem mi_bs {k:Nat}(h:MI K (a.toList++b.toList) out.toList (a.toList.drop ia) (b.toList.drop ib))(hc:∀i,i<k→∀y∈a.toList.drop ia,R K b (ib+i)≤K y):MI K (a.toList++b.toList) (out++b.extract ib (ib+k)).toList (a.toList.drop ia) (b.toList.drop (ib+k)):=by
 rw[Array.toList_append,b0v']
 refine MI.stepB ?_ fun x hx y hy=> ?_
 ·rw[←a6v'];exact h
 ·obtain⟨j,h1,h2,e⟩:=a1Q' (K:=K) hx
  rw[e];exact hc j h1 y hy
end
end Srt
end
section
set_option autoImplicit false
namespace Srt
open PySem PyProof.Rows
abbrev GS7:=Option (Array Keyed)×Array Keyed×Nat×Nat×Nat×Nat×Nat
def YG (K:Keyed→Nat)(a b:Array Keyed)(st:SortSt)(n:Nat)(c:GS7)(st':SortSt):Prop:=(∃g,st'=a0D' st g)∧∃out ja jb mg ac bc,c=(none,out,ja,jb,mg,ac,bc)∧ML K a b out ja jb∧n≤ja+jb
def DG (K:Keyed→Nat)(a b:Array Keyed)(st:SortSt)(n:Nat)(c:GS7)(st':SortSt):Prop:=(∃g,st'=a0D' st g)∧((∃r c',c=(some r,c')∧Good K (a.toList++b.toList) r)∨∃out ja jb mg ac bc,c=(none,out,ja,jb,mg,ac,bc)∧ML K a b out ja jb∧n≤ja+jb)
def Post {γ:Type}(D Y:γ→SortSt→Prop):ForInStep γ→SortSt→Prop:=fun r st'=>match r with
 | .done c=>D c st'
 | .yield c=>Y c st'
theorem sel0 {X:Type _}{p:X→Prop}{c:Prop}{dc:Decidable c}{f:Nat→X}{o2:Nat}(key:∀o,p (f o)):∀o1,p (if c then f o1 else f o2):=fun o1=>by split<;>exact key _
theorem sel1 {X:Type _}{p:X→Prop}{c:Prop}{c1:Nat→Prop}{dc:Decidable c}{dc1:∀j,Decidable (c1 j)}{x1 f:Array Keyed→Nat→X}{o2:Array Keyed}{j2:Nat}{C H:Array Keyed→Nat→Prop}(key:∀o j,C o j→p (f o j))(h0:¬c→C o2 j2)(h1:∀o j,H o j→c1 j→p (x1 o j))(h3:∀o j,H o j→¬c1 j→C o j):
  ∀j1 o1,H o1 j1→p (if c then(if c1 j1 then x1 o1 j1 else f o1 j1)else f o2 j2):=fun j1 o1 h=>by
 by_cases hc:c
 ·rw[if_pos hc]
  by_cases hc1:c1 j1
  ·rw[if_pos hc1];exact h1 _ _ h hc1
  ·rw[if_neg hc1];exact key _ _ (h3 _ _ h hc1)
 ·rw[if_neg hc];exact key _ _ (h0 hc)
theorem sel2 {X:Type _}{p:X→Prop}{c:Prop}{c1 c2:Nat→Prop}{dc:Decidable c}{dc1:∀j,Decidable (c1 j)}{dc2:∀j,Decidable (c2 j)}{x1 x2 f:Array Keyed→Nat→X}{o2:Array Keyed}{j2:Nat}{C H:Array Keyed→Nat→Prop}(key:∀o j,C o j→p (f o j))(h0:¬c→C o2 j2)(h1:∀o j,H o j→c1 j→p (x1 o j))(h2:∀o j,H o j→¬c1 j→¬c2 j)(h3:∀o j,H o j→¬c1 j→C o j):
  ∀j1 o1,H o1 j1→p (if c then(if c1 j1 then x1 o1 j1 else if c2 j1 then x2 o1 j1 else f o1 j1)else f o2 j2):=fun j1 o1 h=>by
 by_cases hc:c
 ·rw[if_pos hc]
  by_cases hc1:c1 j1
  ·rw[if_pos hc1];exact h1 _ _ h hc1
  ·rw[if_neg hc1,if_neg (h2 _ _ h hc1)];exact key _ _ (h3 _ _ h hc1)
 ·rw[if_neg hc];exact key _ _ (h0 hc)
section
variable {prog:Program}{w:World}{A:Around}{E:Value→Shared→Prop}{s:Shared}{st:SortSt}{κ:SortKind}{P:Keyed→Prop}{K:Keyed→Nat}{a b:Array Keyed}
theorem a8Y' (C:Cmp prog w A s κ P K)(hk:kindOf st=κ)(ha:∀x∈a.toList,P x)(hb:∀x∈b.toList,P x)(sa:LS K a.toList)(sb:LS K b.toList)(a1:1≤a.size)(b1:1≤b.size)
  (h0:R K b 0<R K a 0) (hl:∀y∈b.toList,K y<R K a (a.size-1)) {Q:Array Keyed→SortSt→Prop} (h:∀r g,Good K (a.toList++b.toList) r→Q r (a0D' st g)):wpS (model prog w) A E s (b4w' a b) Q st:=by
 have hB:∀{i:Nat} (hi:i<b.size),R K b i=K b[i]:=fun hi=>R_of hi
 have hA:∀{i:Nat} (hi:i<a.size),R K a i=K a[i]:=fun hi=>R_of hi
 have pA:∀{i:Nat} (hi:i<a.size),P a[i]:=fun hi=>ha _ (by simp)
 have pB:∀{i:Nat} (hi:i<b.size),P b[i]:=fun hi=>hb _ (by simp)
 have lA:∀{i j:Nat},i≤j→j<a.size→R K a i≤R K a j:=fun h1 h2=>sa.mono h1 h2
 have lB:∀{i j:Nat},i≤j→j<b.size→R K b i≤R K b j:=fun h1 h2=>sb.mono h1 h2
 have dA:∀{i:Nat} {c:Nat},(∀j,i≤j→j<a.size→c≤R K a j)→∀y∈a.toList.drop i,c≤K y:=fun hc y hy=>by
  obtain⟨j,h1,h2,e⟩:=a7z' (K:=K) hy
  rw[e];exact hc j h1 h2
 have dB:∀{i:Nat} {c:Nat},(∀j,i≤j→j<b.size→c≤R K b j)→∀y∈b.toList.drop i,c≤K y:=fun hc y hy=>by
  obtain⟨j,h1,h2,e⟩:=a7z' (K:=K) hy
  rw[e];exact hc j h1 h2
 have hlb:∀{i:Nat} (hi:i<b.size),R K b i<R K a (a.size-1):=fun hi=>by rw[hB hi];exact hl _ (by simp)
 have m0:MI K (a.toList++b.toList) #[b[0]].toList (a.toList.drop 0) (b.toList.drop 1):=by
  have m:MI K (a.toList++b.toList) (#[]:Array Keyed).toList (a.toList.drop 0) (b.toList.drop 0):=⟨.refl _,.nil,sa,sb,fun x hx=>by simp at hx,fun x hx=>by simp at hx⟩
  exact mi_b m (by lia) (dA fun j h1 h2=>by rw[←hB];have:=lA (i:=0) (j:=j) (by lia) h2;lia)
 have kg:∀g,kindOf (a0D' st g)=κ:=fun g=>hk
 have gg:∀g g',a0D' (a0D' st g) g'=a0D' st g':=fun _ _=>rfl
 refine wpS_bind (wpS_lift (wpAny_rule ⟨rfl,?_⟩))
 refine wpS_bind (a0g' (by lia) ?_)
 dsimp only
 by_cases e1:1=b.size
 ·rw[if_pos (by simpa using e1)]
  exact wpS_pure (h _ (gallopOf st) (a3N' m0 e1))
 rw[if_neg (by simpa using e1)]
 by_cases e2:0+1=a.size
 ·rw[if_pos (by simpa using e2)]
  exact wpS_pure (h _ (gallopOf st) (a3O' hl m0 e2))
 rw[if_neg (by simpa using e2)]
 refine wpS_bind (wpS_get ?_)
 refine wpS_bind (wpS_mono (wpS_forRange (I:=fun x c st'=>(∃g,st'=a0D' st g)∧∃out ia ib mg,c=(none,out,ia,ib,mg)∧ML K a b out ia ib∧x≤ia+ib)
  (Q:=fun c st'=>(∃g,st'=a0D' st g)∧∃r c',c=(some r,c')∧Good K (a.toList++b.toList) r) ?_ ?_ ⟨⟨gallopOf st,rfl⟩,_,_,_,_,rfl,⟨m0,by lia,by lia⟩,by lia⟩) ?_)
 case _=>
  rintro x c st' _ hx ⟨⟨g,rfl⟩,out,ia,ib,mg,rfl,m,hp⟩
  dsimp only
  refine wpS_bind (wpS_mono (wpS_forRange (I:=fun y c st'=>st'=a0D' st g∧∃out ia' ib' ac bc,c=(none,out,ia',ib',ac,bc)∧ML K a b out ia' ib'∧ia+ib+y≤ia'+ib')
   (Q:=fun c st'=>st'=a0D' st g∧((∃r c',c=(some r,c')∧Good K (a.toList++b.toList) r)∨∃out ia' ib' ac bc,c=(none,out,ia',ib',ac,bc)∧ML K a b out ia' ib'∧ia+ib+1≤ia'+ib')) ?_ ?_ ⟨rfl,_,_,_,_,_,rfl,m,by lia⟩) ?_)
  ·rintro y c st' _ hy ⟨rfl,out,ia',ib',ac,bc,rfl,m,hp'⟩
   have la:=m.la
   have lb:=m.lb
   dsimp only
   refine wpS_bind (a0g' lb ?_)
   refine wpS_bind (a0g' (by lia) ?_)
   refine wpS_bind (b0u' C (pB lb) (pA (by lia)) (kg g) ?_)
   by_cases hw:K b[ib']<K a[ia']
   ·rw[decide_eq_true hw]
    refine wpS_bind (a0g' lb ?_)
    have m':=mi_b m.mi lb (dA fun j h1 h2=>by have:=lA h1 h2;rw[hA (show ia'<a.size by lia)]at this;lia)
    by_cases e:ib'+1=b.size
    ·rw[if_pos (by simpa using e)]
     exact wpS_pure ⟨rfl,.inl ⟨_,_,rfl,a3N' m' e⟩⟩
    ·rw[if_neg (by simpa using e)]
     by_cases hg:bc+1≥mg
     ·rw[if_pos hg];exact wpS_pure ⟨rfl,.inr ⟨_,_,_,_,_,rfl,⟨m',la,by lia⟩,by lia⟩⟩
     ·rw[if_neg hg];exact wpS_pure ⟨rfl,_,_,_,_,_,rfl,⟨m',la,by lia⟩,by lia⟩
   ·rw[decide_eq_false hw]
    refine wpS_bind (a0g' (by lia) ?_)
    have m':=mi_a m.mi (show ia'<a.size by lia) (dB fun j h1 h2=>by have:=lB h1 h2;rw[hB lb]at this;lia)
    by_cases e:ia'+1+1=a.size
    ·rw[if_pos (by simpa using e)]
     exact wpS_pure ⟨rfl,.inl ⟨_,_,rfl,a3O' hl m' e⟩⟩
    ·rw[if_neg (by simpa using e)]
     by_cases hg:ac+1≥mg
     ·rw[if_pos hg];exact wpS_pure ⟨rfl,.inr ⟨_,_,_,_,_,rfl,⟨m',by lia,lb⟩,by lia⟩⟩
     ·rw[if_neg hg];exact wpS_pure ⟨rfl,_,_,_,_,_,rfl,⟨m',by lia,lb⟩,by lia⟩
  ·rintro c st' ⟨rfl,out,ia',ib',ac,bc,rfl,m,hp'⟩
   have la:=m.la
   have lb:=m.lb
   exfalso;lia
  ·rintro c st' ⟨rfl,⟨r,c',rfl,gd⟩| ⟨out,ia',ib',ac,bc,rfl,m,hp'⟩⟩
   ·exact wpS_pure ⟨⟨g,rfl⟩,r,_,rfl,gd⟩
   ·refine wpS_bind (wpS_lift (wpAny_rule ⟨rfl,?_⟩))
    refine wpS_bind (wpS_mono (wpS_forRange (I:=fun y=>YG K a b st (ia'+ib'+y)) (Q:=DG K a b st (ia'+ib')) ?_ ?_ ⟨⟨g,rfl⟩,_,_,_,_,_,_,rfl,m,by dsimp only;lia⟩) ?_)
    ·rintro y c st' _ hy ⟨⟨g1,rfl⟩,out,ja,jb,mg1,ac1,bc1,rfl,m,hq⟩
     have la:=m.la
     have lb:=m.lb
     dsimp only
     show wpS (model prog w) A E s _ (Post (DG K a b st (ia'+ib')) (YG K a b st (ia'+ib'+(y+1)))) (a0D' st g1)
     generalize mg1-1=q
     revert q
     refine sel0 (p:=fun m=>wpS (model prog w) A E s m (Post (DG K a b st (ia'+ib')) (YG K a b st (ia'+ib'+(y+1)))) (a0D' st g1)) fun mg2=> ?_
     refine wpS_bind (wpS_modify (show wpS _ _ _ _ _ _ (a0D' st mg2)from ?_))
     refine wpS_bind (a0g' lb ?_)
     refine wpS_bind (a1q' C ha (pB lb) (kg mg2) (by lia) (by lia) (fun i j h1 h2=>lA (by lia) (by lia)) fun k k1 k2 k3=> ?_)
     have t1:thr K false b[jb]=R K b jb+1:=by rw[hB lb];rfl
     rw[t1]at k2 k3
     have kn:k<a.size-ja:=by
      rcases Nat.lt_or_ge k (a.size-ja)with z|z
      ·exact z
      ·have h1:=k2 (a.size-ja-1) (by lia)
       have e:=hlb lb
       rw[show ja+(a.size-ja-1)=a.size-1 by lia]at h1
       lia
     have z0:∀j,ja+k≤j→j<a.size→R K b jb≤R K a j:=fun j h1 h2=>by
      have:=k3 (j-ja) (by lia) (by lia)
      rw[show ja+(j-ja)=j by lia]at this
      lia
     have mk:=mi_as m.mi (k:=k) fun i hi y hy=>by
      have h1:=k2 i hi
      have:=dB (i:=jb) (c:=R K b jb) (fun j h1 h2=>lB h1 h2) y hy
      lia
     dsimp only
     have H1:MI K (a.toList++b.toList) (out++a.extract ja (ja+k)).toList (a.toList.drop (ja+k)) (b.toList.drop jb)∧ja≤ja+k∧ja+k<a.size∧∀j,ja+k≤j→j<a.size→R K b jb≤R K a j:=⟨mk,by lia,by lia,z0⟩
     have c0:¬k>0→ML K a b out ja jb∧ia'+ib'+y≤ja+jb∧∀i,ja≤i→i<a.size→R K b jb≤R K a i:=fun hk0=>⟨m,hq,fun j h1 h2=>z0 j (by lia) h2⟩
     revert H1
     generalize ja+k=ja1
     generalize out++a.extract ja ja1=out1
     revert out1 ja1
     refine sel2 (p:=fun m=>wpS (model prog w) A E s m (Post (DG K a b st (ia'+ib')) (YG K a b st (ia'+ib'+(y+1)))) (a0D' st mg2)) (C:=fun o j=>ML K a b o j jb∧ia'+ib'+y≤j+jb∧∀i,j≤i→i<a.size→R K b jb≤R K a i) (H:=fun o j=>MI K (a.toList++b.toList) o.toList (a.toList.drop j) (b.toList.drop jb)∧ja≤j∧j<a.size∧∀i,j≤i→i<a.size→R K b jb≤R K a i) (fun out ja hC=> ?_) c0 (fun o j hH e=> ?_) (fun o j hH e=> ?_) (fun o j hH e=> ?_)
     rotate_left
     ·exact wpS_pure ⟨⟨mg2,rfl⟩,.inl ⟨_,_,rfl,a3O' hl hH.1 (by simpa using e)⟩⟩
     ·have:=hH.2.2.1;simp;lia
     ·exact⟨⟨hH.1,by have:=hH.2.2.1;simp at e;lia,lb⟩,by have:=hH.2.1;lia,hH.2.2.2⟩
     clear mk z0 kn k2 k3 hq m
     obtain⟨m,hq,hge⟩:=hC
     have la:=m.la
     refine wpS_bind (a0g' lb ?_)
     have m':=mi_b m.mi lb (dA fun j h1 h2=>by rw[←hB lb];exact hge j h1 h2)
     by_cases e:jb+1=b.size
     ·rw[if_pos (by simpa using e)]
      exact wpS_pure ⟨⟨mg2,rfl⟩,.inl ⟨_,_,rfl,a3N' m' e⟩⟩
     rw[if_neg (by simpa using e)]
     refine wpS_bind (a0g' (show ja<a.size by lia) ?_)
     refine wpS_bind (a1q' C hb (pA (show ja<a.size by lia)) (kg mg2) (by lia) (by lia) (fun i j h1 h2=>lB (by lia) (by lia)) fun k' k1' k2' k3'=> ?_)
     have t2:thr K true a[ja]=R K a ja:=by rw[hA (show ja<a.size by lia)];rfl
     rw[t2]at k2' k3'
     have z1:∀j,jb+1+k'≤j→j<b.size→R K a ja≤R K b j:=fun j h1 h2=>by
      have:=k3' (j-(jb+1)) (by lia) (by lia)
      rwa [show jb+1+(j-(jb+1))=j by lia]at this
     have mk:=mi_bs m' (k:=k') fun i hi y hy=>by
      have h1:=k2' i hi
      have:=dA (i:=ja) (c:=R K a ja) (fun j h1 h2=>lA h1 h2) y hy
      lia
     dsimp only
     have H2:MI K (a.toList++b.toList) (out.push b[jb]++b.extract (jb+1) (jb+1+k')).toList (a.toList.drop ja) (b.toList.drop (jb+1+k'))∧jb+1+k'≤b.size∧jb+1≤jb+1+k'∧∀j,jb+1+k'≤j→j<b.size→R K a ja≤R K b j:=⟨mk,by lia,by lia,z1⟩
     have c0:¬k'>0→MI K (a.toList++b.toList) (out.push b[jb]).toList (a.toList.drop ja) (b.toList.drop (jb+1))∧jb+1<b.size∧jb+1≤jb+1∧∀i,jb+1≤i→i<b.size→R K a ja≤R K b i:=fun hk0=>⟨m',by lia,by lia,fun j h1 h2=>z1 j (by lia) h2⟩
     revert H2
     generalize jb+1+k'=jb1
     generalize out.push b[jb]++b.extract (jb+1) jb1=out1
     revert out1 jb1
     refine sel1 (p:=fun m=>wpS (model prog w) A E s m (Post (DG K a b st (ia'+ib')) (YG K a b st (ia'+ib'+(y+1)))) (a0D' st mg2)) (C:=fun o j=>MI K (a.toList++b.toList) o.toList (a.toList.drop ja) (b.toList.drop j)∧j<b.size∧jb+1≤j∧∀i,j≤i→i<b.size→R K a ja≤R K b i) (H:=fun o j=>MI K (a.toList++b.toList) o.toList (a.toList.drop ja) (b.toList.drop j)∧j≤b.size∧jb+1≤j∧∀i,j≤i→i<b.size→R K a ja≤R K b i) (fun out jb' hC=> ?_) c0 (fun o j hH e'=> ?_) (fun o j hH e'=> ?_)
     rotate_left
     ·exact wpS_pure ⟨⟨mg2,rfl⟩,.inl ⟨_,_,rfl,a3N' hH.1 (by simpa using e')⟩⟩
     ·exact⟨hH.1,by have:=hH.2.1;simp at e';lia,hH.2.2.1,hH.2.2.2⟩
     obtain⟨m2,hb',hq',hge'⟩:=hC
     refine wpS_bind (a0g' (show ja<a.size by lia) ?_)
     have m3:=mi_a m2 (show ja<a.size by lia) (dB fun j h1 h2=>by rw[←hA (show ja<a.size by lia)];exact hge' j h1 h2)
     by_cases e:ja+1+1=a.size
     ·rw[if_pos (by simpa using e)]
      exact wpS_pure ⟨⟨mg2,rfl⟩,.inl ⟨_,_,rfl,a3O' hl m3 e⟩⟩
     rw[if_neg (by simpa using e)]
     by_cases hg:(decide (k<7)&&decide (k'<7))=true
     ·rw[if_pos hg]
      exact wpS_pure ⟨⟨mg2,rfl⟩,.inr ⟨_,_,_,_,_,_,rfl,⟨m3,by lia,hb'⟩,by lia⟩⟩
     ·rw[if_neg hg]
      exact wpS_pure ⟨⟨mg2,rfl⟩,_,_,_,_,_,_,rfl,⟨m3,by lia,hb'⟩,by lia⟩
    ·rintro c st' ⟨⟨g1,rfl⟩,out,ja,jb,mg1,ac1,bc1,rfl,m,hq⟩
     have la:=m.la
     have lb:=m.lb
     exfalso;lia
    ·rintro c st' ⟨⟨g1,rfl⟩,⟨r,c',rfl,gd⟩| ⟨out,ja,jb,mg1,ac1,bc1,rfl,m,hq⟩⟩
     ·exact wpS_pure ⟨⟨g1,rfl⟩,r,_,rfl,gd⟩
     ·refine wpS_bind (wpS_modify (?_:wpS _ _ _ _ _ _ (a0D' st (mg1+1))))
      exact wpS_pure ⟨⟨_,rfl⟩,_,_,_,_,rfl,m,by dsimp only;lia⟩
 case _=>
  rintro c st' ⟨⟨g,rfl⟩,out,ia,ib,mg,rfl,m,hp⟩
  have la:=m.la
  have lb:=m.lb
  exfalso;lia
 case _=>
  rintro c st' ⟨⟨g,rfl⟩,r,c',rfl,gd⟩
  exact wpS_pure (h r g gd)
end
end Srt
end
section
set_option autoImplicit false
namespace Srt
open PySem PyProof.Rows
section
variable {K:Keyed→Nat}
structure MH (K:Keyed→Nat)(tot ra rb o:List Keyed):Prop where
 perm:(ra++rb++o).Perm tot
 sa:LS K ra
 sb:LS K rb
 so:LS K o
 ao:∀x∈ra,∀y∈o,K x≤K y
 bo:∀x∈rb,∀y∈o,K x≤K y
variable {tot o ra rb c:List Keyed}
theorem MH.stepA (h:MH K tot (ra++c) rb o)(hc:∀x∈rb,∀y∈c,K x≤K y):MH K tot ra rb (c++o):=by
 have sa:=List.pairwise_append.mp h.sa
 refine⟨?_,sa.1,h.sb,List.pairwise_append.mpr ⟨sa.2.1,h.so,fun x hx y hy=>h.ao x (List.mem_append_right _ hx) y hy⟩,fun x hx y hy=> ?_,fun x hx y hy=> ?_⟩
 ·refine List.Perm.trans ?_ h.perm
  rw[List.append_assoc,List.append_assoc,List.append_assoc]
  refine List.Perm.append_left _ ?_
  rw[←List.append_assoc,←List.append_assoc]
  exact List.Perm.append_right _ List.perm_append_comm
 ·rcases List.mem_append.mp hy with z|z
  ·exact sa.2.2 x hx y z
  ·exact h.ao x (List.mem_append_left _ hx) y z
 ·rcases List.mem_append.mp hy with z|z
  ·exact hc x hx y z
  ·exact h.bo x hx y z
theorem MH.stepB (h:MH K tot ra (rb++c) o)(hc:∀x∈ra,∀y∈c,K x≤K y):MH K tot ra rb (c++o):=by
 have sb:=List.pairwise_append.mp h.sb
 refine⟨?_,h.sa,sb.1,List.pairwise_append.mpr ⟨sb.2.1,h.so,fun x hx y hy=>h.bo x (List.mem_append_right _ hx) y hy⟩,fun x hx y hy=> ?_,fun x hx y hy=> ?_⟩
 ·have:=h.perm
  rw[←List.append_assoc,List.append_assoc (ra++rb)]at this
  exact this
 ·rcases List.mem_append.mp hy with z|z
  ·exact hc x hx y z
  ·exact h.ao x hx y z
 ·rcases List.mem_append.mp hy with z|z
  ·exact sb.2.2 x hx y z
  ·exact h.bo x (List.mem_append_left _ hx) y z
theorem a8l' {a:Array Keyed}{i:Nat}(h:i<a.size):a.toList.take (i+1)=a.toList.take i++[a[i]]:=by
 rw[List.take_succ,List.getElem?_eq_getElem (by simpa using h)]
 rfl
theorem a8m' {a:Array Keyed}{i j:Nat}(h:i≤j):a.toList.take j=a.toList.take i++(a.extract i j).toList:=by
 rw[Array.toList_extract]
 unfold List.extract
 rw[←List.take_add,show i+(j-i)=j by lia]
theorem a5Q' {a:Array Keyed}{j:Nat}:(a.extract 0 j).toList=a.toList.take j:=by
 rw[Array.toList_extract]
 unfold List.extract
 simp
theorem a7A' {a:Array Keyed}{i:Nat}{x:Keyed}(h:x∈a.toList.take i):∃j,j<i∧j<a.size∧K x=R K a j:=by
 obtain⟨j,hj,rfl⟩:=List.mem_iff_getElem.mp h
 simp only[List.length_take,Array.length_toList]at hj
 refine⟨j,by lia,by lia,?_⟩
 rw[R_of (show j<a.size by lia)]
 simp
theorem b0w' {a:Array Keyed}{i j:Nat}{x:Keyed}(h:x∈(a.extract i j).toList):∃n,i≤n∧n<j∧n<a.size∧K x=R K a n:=by
 rw[Array.toList_extract]at h
 unfold List.extract at h
 obtain⟨n,h1,h2,e⟩:=a1Q' (K:=K) h
 exact⟨i+n,by lia,by lia,h2,e⟩
end
section
variable {prog:Program}{w:World}{A:Around}{E:Value→Shared→Prop}{s:Shared}{st:SortSt}{κ:SortKind}{P:Keyed→Prop}{K:Keyed→Nat}
abbrev MT (K:Keyed→Nat)(a b out:Array Keyed)(na nb:Nat):Prop:=MH K (a.toList++b.toList) (a.toList.take na) (b.toList.take nb) out.toList.reverse
structure MR (K:Keyed→Nat)(a b out:Array Keyed)(na nb:Nat):Prop where
 mt:MT K a b out na nb
 la:1≤na
 lb:2≤nb
 za:na≤a.size
 zb:nb≤b.size
variable {a b out:Array Keyed}{na nb:Nat}
theorem a2M' (h:MT K a b out na nb)(e:na=0):Good K (a.toList++b.toList) (a.extract 0 na++b.extract 0 nb++out.reverse):=by
 unfold Good
 rw[Array.toList_append,Array.toList_append,a5Q',a5Q',Array.toList_reverse]
 refine⟨h.perm,?_⟩
 subst e
 rw[List.take_zero,List.nil_append]
 exact List.pairwise_append.mpr ⟨h.sb,h.so,h.bo⟩
theorem a2N' (h0:∀y∈a.toList,R K b 0≤K y)(h:MT K a b out na nb)(e:nb=1):Good K (a.toList++b.toList) (b.extract 0 nb++a.extract 0 na++out.reverse):=by
 unfold Good
 rw[Array.toList_append,Array.toList_append,a5Q',a5Q',Array.toList_reverse]
 refine⟨List.Perm.trans (List.Perm.append_right _ List.perm_append_comm) h.perm,List.pairwise_append.mpr ⟨List.pairwise_append.mpr ⟨h.sb,h.sa,fun x hx y hy=> ?_⟩,h.so,fun x hx y hy=> ?_⟩⟩
 ·obtain⟨j,h1,h2,e2⟩:=a7A' (K:=K) hx
  rw[e2,show j=0 by lia]
  exact h0 y (List.mem_of_mem_take hy)
 ·rcases List.mem_append.mp hx with z|z
  ·exact h.bo x z y hy
  ·exact h.ao x z y hy
theorem mt_a (h:MT K a b out (na+1) nb)(hi:na<a.size)(hc:∀x∈b.toList.take nb,K x≤R K a na):MT K a b (out.push a[na]) na nb:=by
 unfold MT at h⊢
 rw[Array.toList_push,List.reverse_append]
 rw[a8l' hi]at h
 exact h.stepA fun x hx y hy=>by rw[List.mem_singleton.mp hy,←R_of (K:=K) hi];exact hc x hx
theorem mt_b (h:MT K a b out na (nb+1))(hi:nb<b.size)(hc:∀x∈a.toList.take na,K x≤R K b nb):MT K a b (out.push b[nb]) na nb:=by
 unfold MT at h⊢
 rw[Array.toList_push,List.reverse_append]
 rw[a8l' hi]at h
 exact h.stepB fun x hx y hy=>by rw[List.mem_singleton.mp hy,←R_of (K:=K) hi];exact hc x hx
theorem mt_as {t:Nat}(h:MT K a b out na nb)(ht:t≤na)(hc:∀i,t≤i→i<na→i<a.size→∀x∈b.toList.take nb,K x≤R K a i):MT K a b (out++(a.extract t na).reverse) t nb:=by
 unfold MT at h⊢
 rw[Array.toList_append,Array.toList_reverse,List.reverse_append,List.reverse_reverse]
 rw[a8m' ht]at h
 exact h.stepA fun x hx y hy=>by
  obtain⟨n,h1,h2,h3,e⟩:=b0w' (K:=K) hy
  rw[e];exact hc n h1 h2 h3 x hx
theorem mt_bs {t:Nat}(h:MT K a b out na nb)(ht:t≤nb)(hc:∀i,t≤i→i<nb→i<b.size→∀x∈a.toList.take na,K x≤R K b i):MT K a b (out++(b.extract t nb).reverse) na t:=by
 unfold MT at h⊢
 rw[Array.toList_append,Array.toList_reverse,List.reverse_append,List.reverse_reverse]
 rw[a8m' ht]at h
 exact h.stepB fun x hx y hy=>by
  obtain⟨n,h1,h2,h3,e⟩:=b0w' (K:=K) hy
  rw[e];exact hc n h1 h2 h3 x hx
abbrev GH7:=Option (Array Keyed)×Nat×Nat×Array Keyed×Nat×Nat×Nat
def YH (K:Keyed→Nat)(a b:Array Keyed)(st:SortSt)(n:Nat)(c:GH7)(st':SortSt):Prop:=(∃g,st'=a0D' st g)∧∃out ja jb mg ac bc,c=(none,ja,jb,out,mg,ac,bc)∧MR K a b out ja jb∧n+ja+jb≤a.size+b.size
def DH (K:Keyed→Nat)(a b:Array Keyed)(st:SortSt)(n:Nat)(c:GH7)(st':SortSt):Prop:=(∃g,st'=a0D' st g)∧((∃r c',c=(some r,c')∧Good K (a.toList++b.toList) r)∨∃out ja jb mg ac bc,c=(none,ja,jb,out,mg,ac,bc)∧MR K a b out ja jb∧n+ja+jb≤a.size+b.size)
theorem a8Z' (C:Cmp prog w A s κ P K)(hk:kindOf st=κ)(ha:∀x∈a.toList,P x)(hb:∀x∈b.toList,P x)(sa:LS K a.toList)(sb:LS K b.toList)(a1:1≤a.size)(b1:1≤b.size)
  (h0:R K b 0<R K a 0) (hl:∀y∈b.toList,K y<R K a (a.size-1)) {Q:Array Keyed→SortSt→Prop} (h:∀r g,Good K (a.toList++b.toList) r→Q r (a0D' st g)):wpS (model prog w) A E s (b4x' a b) Q st:=by
 have hB:∀{i:Nat} (hi:i<b.size),R K b i=K b[i]:=fun hi=>R_of hi
 have hA:∀{i:Nat} (hi:i<a.size),R K a i=K a[i]:=fun hi=>R_of hi
 have pA:∀{i:Nat} (hi:i<a.size),P a[i]:=fun hi=>ha _ (by simp)
 have pB:∀{i:Nat} (hi:i<b.size),P b[i]:=fun hi=>hb _ (by simp)
 have lA:∀{i j:Nat},i≤j→j<a.size→R K a i≤R K a j:=fun h1 h2=>sa.mono h1 h2
 have lB:∀{i j:Nat},i≤j→j<b.size→R K b i≤R K b j:=fun h1 h2=>sb.mono h1 h2
 have dA:∀{i:Nat} {c:Nat},(∀j,j<i→j<a.size→R K a j≤c)→∀y∈a.toList.take i,K y≤c:=fun hc y hy=>by
  obtain⟨j,h1,h2,e⟩:=a7A' (K:=K) hy
  rw[e];exact hc j h1 h2
 have dB:∀{i:Nat} {c:Nat},(∀j,j<i→j<b.size→R K b j≤c)→∀y∈b.toList.take i,K y≤c:=fun hc y hy=>by
  obtain⟨j,h1,h2,e⟩:=a7A' (K:=K) hy
  rw[e];exact hc j h1 h2
 have hf:∀y∈a.toList,R K b 0≤K y:=fun y hy=>by
  obtain⟨j,hj,rfl⟩:=List.mem_iff_getElem.mp hy
  have hj':j<a.size:=by simpa using hj
  have:=lA (i:=0) (j:=j) (by lia) hj'
  rw[hA hj']at this
  have e:a.toList[j]=a[j]:=by simp
  rw[e];lia
 obtain⟨na0,hna⟩:∃n,a.size=n+1:=⟨a.size-1,by lia⟩
 have ea:a.size-1=na0:=by lia
 have m0:MT K a b #[a[na0]] na0 b.size:=by
  have m:MT K a b #[] (na0+1) b.size:=by
   refine⟨?_,?_,?_,.nil,fun _ _ y hy=>by simp at hy,fun _ _ y hy=>by simp at hy⟩
   ·rw[List.take_of_length_le (by simp;lia),List.take_of_length_le (by simp)]
    simp
   ·rw[List.take_of_length_le (by simp;lia)];exact sa
   ·rw[List.take_of_length_le (by simp)];exact sb
  exact mt_a m (by lia) (dB fun j h1 h2=>by have:=hl b[j] (by simp);rw[hB h2];rw[ea]at this;lia)
 have kg:∀g,kindOf (a0D' st g)=κ:=fun g=>hk
 refine wpS_bind (wpS_lift (wpAny_rule ⟨rfl,?_⟩))
 refine wpS_bind (a0g' (by lia) ?_)
 simp only[ea]
 by_cases e1:na0=0
 ·rw[if_pos (by simpa using e1)]
  exact wpS_pure (h _ (gallopOf st) (a2M' m0 e1))
 rw[if_neg (by simpa using e1)]
 by_cases e2:b.size=1
 ·rw[if_pos (by simpa using e2)]
  exact wpS_pure (h _ (gallopOf st) (a2N' hf m0 e2))
 rw[if_neg (by simpa using e2)]
 refine wpS_bind (wpS_get ?_)
 refine wpS_bind (wpS_mono (wpS_forRange (I:=fun x c st'=>(∃g,st'=a0D' st g)∧∃out na nb mg,c=(none,na,nb,out,mg)∧MR K a b out na nb∧x+na+nb≤a.size+b.size)
  (Q:=fun c st'=>(∃g,st'=a0D' st g)∧∃r c',c=(some r,c')∧Good K (a.toList++b.toList) r) ?_ ?_ ⟨⟨gallopOf st,rfl⟩, #[a[na0]],na0,b.size,_,rfl,⟨m0,by lia,by lia,by lia,Nat.le_refl _⟩,(by lia:0+na0+b.size≤a.size+b.size)⟩) ?_)
 case _=>
  rintro x c st' _ hx ⟨⟨g,rfl⟩,out,na,nb,mg,rfl,m,hp⟩
  dsimp only
  refine wpS_bind (wpS_mono (wpS_forRange (I:=fun y c st'=>st'=a0D' st g∧∃out na' nb' ac bc,c=(none,na',nb',out,ac,bc)∧MR K a b out na' nb'∧y+na'+nb'≤na+nb)
   (Q:=fun c st'=>st'=a0D' st g∧((∃r c',c=(some r,c')∧Good K (a.toList++b.toList) r)∨∃out na' nb' ac bc,c=(none,na',nb',out,ac,bc)∧MR K a b out na' nb'∧1+na'+nb'≤na+nb)) ?_ ?_ ⟨rfl,_,_,_,_,_,rfl,m,by lia⟩) ?_)
  ·rintro y c st' _ hy ⟨rfl,out,na',nb',ac,bc,rfl,m,hp'⟩
   obtain⟨i,rfl⟩:∃i,na'=i+1:=⟨na'-1,by have:=m.la;lia⟩
   obtain⟨j,rfl⟩:∃j,nb'=j+1:=⟨nb'-1,by have:=m.lb;lia⟩
   have lb:=m.lb
   have za:=m.za
   have zb:=m.zb
   dsimp only
   simp only[Nat.add_sub_cancel]
   refine wpS_bind (a0g' (show j<b.size by lia) ?_)
   refine wpS_bind (a0g' (show i<a.size by lia) ?_)
   refine wpS_bind (b0u' C (pB (by lia)) (pA (by lia)) (kg g) ?_)
   rw[←hA (show i<a.size by lia),←hB (show j<b.size by lia)]
   by_cases hw:R K b j<R K a i
   ·rw[decide_eq_true hw]
    refine wpS_bind (a0g' (show i<a.size by lia) ?_)
    have m':=mt_a m.mt (by lia) (dB fun n h1 h2=>by have:=lB (show n≤j by lia) (by lia);lia)
    by_cases e:i=0
    ·rw[if_pos (by simpa using e)]
     exact wpS_pure ⟨rfl,.inl ⟨_,_,rfl,a2M' m' e⟩⟩
    ·rw[if_neg (by simpa using e)]
     by_cases hg:ac+1≥mg
     ·rw[if_pos hg];exact wpS_pure ⟨rfl,.inr ⟨_,_,_,_,_,rfl,⟨m',by lia,lb,by lia,zb⟩,by lia⟩⟩
     ·rw[if_neg hg];exact wpS_pure ⟨rfl,_,_,_,_,_,rfl,⟨m',by lia,lb,by lia,zb⟩,by lia⟩
   ·rw[decide_eq_false hw]
    refine wpS_bind (a0g' (show j<b.size by lia) ?_)
    have m':=mt_b m.mt (by lia) (dA fun n h1 h2=>by have:=lA (show n≤i by lia) (by lia);lia)
    by_cases e:j=1
    ·rw[if_pos (by simpa using e)]
     exact wpS_pure ⟨rfl,.inl ⟨_,_,rfl,a2N' hf m' e⟩⟩
    ·rw[if_neg (by simpa using e)]
     by_cases hg:bc+1≥mg
     ·rw[if_pos hg];exact wpS_pure ⟨rfl,.inr ⟨_,_,_,_,_,rfl,⟨m',by lia,by lia,za,by lia⟩,by lia⟩⟩
     ·rw[if_neg hg];exact wpS_pure ⟨rfl,_,_,_,_,_,rfl,⟨m',by lia,by lia,za,by lia⟩,by lia⟩
  ·rintro c st' ⟨rfl,out,na',nb',ac,bc,rfl,m,hp'⟩
   have la:=m.la
   have lb:=m.lb
   exfalso;lia
  ·rintro c st' ⟨rfl,⟨r,c',rfl,gd⟩| ⟨out,na',nb',ac,bc,rfl,m,hp'⟩⟩
   ·exact wpS_pure ⟨⟨g,rfl⟩,r,_,rfl,gd⟩
   ·refine wpS_bind (wpS_lift (wpAny_rule ⟨rfl,?_⟩))
    refine wpS_bind (wpS_mono (wpS_forRange (I:=fun y=>YH K a b st (x+1+y)) (Q:=DH K a b st (x+1)) ?_ ?_ ⟨⟨g,rfl⟩,_,_,_,_,_,_,rfl,m,by dsimp only;lia⟩) ?_)
    ·rintro y c st' _ hy ⟨⟨g1,rfl⟩,out,ja,jb,mg1,ac1,bc1,rfl,m,hq⟩
     have la:=m.la
     have za:=m.za
     have zb:=m.zb
     obtain⟨j,rfl⟩:∃j,jb=j+1:=⟨jb-1,by have:=m.lb;lia⟩
     have lb:=m.lb
     dsimp only
     simp only[Nat.add_sub_cancel]
     show wpS (model prog w) A E s _ (Post (DH K a b st (x+1)) (YH K a b st (x+1+(y+1)))) (a0D' st g1)
     generalize mg1-1=q
     revert q
     refine sel0 (p:=fun m=>wpS (model prog w) A E s m (Post (DH K a b st (x+1)) (YH K a b st (x+1+(y+1)))) (a0D' st g1)) fun mg2=> ?_
     refine wpS_bind (wpS_modify (show wpS _ _ _ _ _ _ (a0D' st mg2)from ?_))
     refine wpS_bind (a0g' (show j<b.size by lia) ?_)
     refine wpS_bind (a1q' C ha (pB (show j<b.size by lia)) (kg mg2) (by lia) (by lia) (fun i j h1 h2=>lA (by lia) (by lia)) fun t k1 k2 k3=> ?_)
     simp only[Nat.zero_add]at k2 k3
     have t1:thr K false b[j]=R K b j+1:=by rw[hB (show j<b.size by lia)];rfl
     rw[t1]at k2 k3
     have mk:=mt_as m.mt k1 fun i h1 h2 h3=>dB fun n h4 h5=>by
      have:=k3 i h1 h2
      have:=lB (show n≤j by lia) (by lia)
      lia
     dsimp only
     have H1:MT K a b (out++(a.extract t ja).reverse) t (j+1)∧t≤ja∧∀i,i<t→R K a i≤R K b j:=⟨mk,k1,fun i hi=>by have:=k2 i hi;lia⟩
     generalize hkk:ja-t=k
     have c0:¬k>0→MR K a b out ja (j+1)∧x+1+y+ja+(j+1)≤a.size+b.size∧∀i,i<ja→R K a i≤R K b j:=fun hk0=>⟨m,hq,fun i hi=>by have:=k2 i (by lia);lia⟩
     revert H1
     generalize out++(a.extract t ja).reverse=out1
     generalize t=na1
     revert out1
     revert na1
     refine sel1 (p:=fun m=>wpS (model prog w) A E s m (Post (DH K a b st (x+1)) (YH K a b st (x+1+(y+1)))) (a0D' st mg2)) (C:=fun o i=>MR K a b o i (j+1)∧x+1+y+i+(j+1)≤a.size+b.size∧∀n,n<i→R K a n≤R K b j) (H:=fun o i=>MT K a b o i (j+1)∧i≤ja∧∀n,n<i→R K a n≤R K b j) (fun out ja hC=> ?_) c0 (fun o i hH e=> ?_) (fun o i hH e=> ?_)
     rotate_left
     ·exact wpS_pure ⟨⟨mg2,rfl⟩,.inl ⟨_,_,rfl,a2M' hH.1 (by simpa using e)⟩⟩
     ·exact⟨⟨hH.1,by simp at e;lia,lb,by have:=hH.2.1;lia,zb⟩,by have:=hH.2.1;lia,hH.2.2⟩
     clear mk k1 k2 k3 hq m hkk c0 la za
     obtain⟨m,hq,hge⟩:=hC
     obtain⟨i,rfl⟩:∃i,ja=i+1:=⟨ja-1,by have:=m.la;lia⟩
     have za:=m.za
     simp only[Nat.add_sub_cancel]
     refine wpS_bind (a0g' (show j<b.size by lia) ?_)
     have m':=mt_b m.mt (by lia) (dA fun n h1 h2=>hge n h1)
     by_cases e:j=1
     ·rw[if_pos (by simpa using e)]
      exact wpS_pure ⟨⟨mg2,rfl⟩,.inl ⟨_,_,rfl,a2N' hf m' e⟩⟩
     rw[if_neg (by simpa using e)]
     refine wpS_bind (a0g' (show i<a.size by lia) ?_)
     refine wpS_bind (a1q' C hb (pA (show i<a.size by lia)) (kg mg2) (by lia) (by lia) (fun i j h1 h2=>lB (by lia) (by lia)) fun t' k1' k2' k3'=> ?_)
     simp only[Nat.zero_add]at k2' k3'
     have t2:thr K true a[i]=R K a i:=by rw[hA (show i<a.size by lia)];rfl
     rw[t2]at k2' k3'
     have t0:1≤t':=by
      rcases Nat.eq_zero_or_pos t' with z|z
      ·have h1:=k3' 0 (by lia) (by lia)
       have h2:=lA (show 0≤i by lia) (by lia)
       lia
      ·exact z
     have mk:=mt_bs m' k1' fun n h1 h2 h3=>dA fun l h4 h5=>by
      have:=k3' n h1 h2
      have:=lA (show l≤i by lia) (by lia)
      lia
     dsimp only
     have H2:MT K a b (out.push b[j]++(b.extract t' j).reverse) (i+1) t'∧1≤t'∧t'≤j∧∀n,n<t'→R K b n≤R K a i:=⟨mk,t0,k1',fun n hn=>by have:=k2' n hn;lia⟩
     generalize hkk':j-t'=k'
     have c0:¬k'>0→MT K a b (out.push b[j]) (i+1) j∧2≤j∧j≤j∧∀n,n<j→R K b n≤R K a i:=fun hk0=>⟨m',by lia,Nat.le_refl _,fun n hn=>by have:=k2' n (by lia);lia⟩
     revert H2
     generalize out.push b[j]++(b.extract t' j).reverse=out1
     generalize t'=nb1
     revert out1
     revert nb1
     refine sel2 (p:=fun m=>wpS (model prog w) A E s m (Post (DH K a b st (x+1)) (YH K a b st (x+1+(y+1)))) (a0D' st mg2)) (C:=fun o n=>MT K a b o (i+1) n∧2≤n∧n≤j∧∀l,l<n→R K b l≤R K a i) (H:=fun o n=>MT K a b o (i+1) n∧1≤n∧n≤j∧∀l,l<n→R K b l≤R K a i) (fun out jb' hC=> ?_) c0 (fun o n hH e'=> ?_) (fun o n hH e'=> ?_) (fun o n hH e'=> ?_)
     rotate_left
     ·exact wpS_pure ⟨⟨mg2,rfl⟩,.inl ⟨_,_,rfl,a2N' hf hH.1 (by simpa using e')⟩⟩
     ·have:=hH.2.1;simp;lia
     ·exact⟨hH.1,by have:=hH.2.1;simp at e';lia,hH.2.2.1,hH.2.2.2⟩
     obtain⟨m2,hb',hq',hge'⟩:=hC
     refine wpS_bind (a0g' (show i<a.size by lia) ?_)
     have m3:=mt_a m2 (show i<a.size by lia) (dB fun n h1 h2=>hge' n h1)
     by_cases e:i=0
     ·rw[if_pos (by simpa using e)]
      exact wpS_pure ⟨⟨mg2,rfl⟩,.inl ⟨_,_,rfl,a2M' m3 e⟩⟩
     rw[if_neg (by simpa using e)]
     by_cases hg:(decide (k<7)&&decide (k'<7))=true
     ·rw[if_pos hg]
      exact wpS_pure ⟨⟨mg2,rfl⟩,.inr ⟨_,_,_,_,_,_,rfl,⟨m3,by lia,hb',by lia,by lia⟩,by lia⟩⟩
     ·rw[if_neg hg]
      exact wpS_pure ⟨⟨mg2,rfl⟩,_,_,_,_,_,_,rfl,⟨m3,by lia,hb',by lia,by lia⟩,by lia⟩
    ·rintro c st' ⟨⟨g1,rfl⟩,out,ja,jb,mg1,ac1,bc1,rfl,m,hq⟩
     have la:=m.la
     have lb:=m.lb
     exfalso;lia
    ·rintro c st' ⟨⟨g1,rfl⟩,⟨r,c',rfl,gd⟩| ⟨out,ja,jb,mg1,ac1,bc1,rfl,m,hq⟩⟩
     ·exact wpS_pure ⟨⟨g1,rfl⟩,r,_,rfl,gd⟩
     ·refine wpS_bind (wpS_modify (?_:wpS _ _ _ _ _ _ (a0D' st (mg1+1))))
      exact wpS_pure ⟨⟨_,rfl⟩,_,_,_,_,rfl,m,by dsimp only;lia⟩
 case _=>
  rintro c st' ⟨⟨g,rfl⟩,out,ia,ib,mg,rfl,m,hp⟩
  have la:=m.la
  have lb:=m.lb
  exfalso;lia
 case _=>
  rintro c st' ⟨⟨g,rfl⟩,r,c',rfl,gd⟩
  exact wpS_pure (h r g gd)
end
end Srt
end
section
set_option autoImplicit false
namespace Srt
open PySem PyProof.Rows
section
variable {prog:Program}{w:World}{A:Around}{E:Value→Shared→Prop}{s:Shared}{st:SortSt}{κ:SortKind}{K:Keyed→Nat}{a0 xs ys:Array Keyed}
theorem a1j' {i j:Nat}(h:xs[i]? =ys[j]?):R K xs i=R K ys j:=by
 have e:∀(zs:Array Keyed) n,zs.getD n dK=(zs[n]?).getD dK:=fun zs n=>by simp
 unfold R;rw[e,e,h]
def SR (K:Keyed→Nat)(xs:Array Keyed)(lo hi:Nat):Prop:=∀i j,lo≤i→i≤j→j<hi→R K xs i≤R K xs j
def Fr (lo hi:Nat)(xs ys:Array Keyed):Prop:=∀i,i<lo∨hi≤i→ys[i]? =xs[i]?
theorem Fr.refl {lo hi:Nat}:Fr lo hi xs xs:=fun _ _=>rfl
theorem Fr.trans {lo hi:Nat}{zs:Array Keyed}(h:Fr lo hi xs ys)(k:Fr lo hi ys zs):Fr lo hi xs zs:=fun i hi=>(k i hi).trans (h i hi)
structure SB (a0:Array Keyed)(κ:SortKind)(st:SortSt):Prop where
 perm:(arrOf st).Perm a0
 failed:failedOf st=none
 kind:kindOf st=κ
theorem SB.size (h:SB a0 κ st):(arrOf st).size=a0.size:=h.perm.size_eq
theorem SB.arr (h:SB a0 κ st)(hp:ys.Perm (arrOf st)):SB a0 κ (setArr st ys):=⟨hp.trans h.perm,h.failed,h.kind⟩
theorem SB.all (h:SB a0 κ st):∀x∈(arrOf st).toList,x∈a0.toList:=fun x hx=>(Array.perm_iff_toList_perm.mp h.perm).mem_iff.mp hx
theorem wpS_T {α:Type}{c:Prop}{d:Decidable c}{x y:StateT SortSt Sem α}{Q:α→SortSt→Prop}(h:c)(k:wpS (model prog w) A E s x Q st):wpS (model prog w) A E s (@ite _ c d x y) Q st:=by rw[if_pos h];exact k
theorem wpS_F {α:Type}{c:Prop}{d:Decidable c}{x y:StateT SortSt Sem α}{Q:α→SortSt→Prop}(h:¬c)(k:wpS (model prog w) A E s y Q st):wpS (model prog w) A E s (@ite _ c d x y) Q st:=by rw[if_neg h];exact k
theorem selD {α:Type}{c:Prop}{d:Decidable c}{T m:StateT SortSt Sem α}{Q:α→SortSt→Prop}{C:Array Keyed→Prop}(key:∀ys,C ys→wpS (model prog w) A E s m Q (setArr st ys))(h1:c→(∀ys,C ys→wpS (model prog w) A E s m Q (setArr st ys))→wpS (model prog w) A E s T Q st)(h2:¬c→C (arrOf st)):wpS (model prog w) A E s (@ite _ c d T m) Q st:=by
 by_cases h:c
 ·rw[if_pos h];exact h1 h key
 ·rw[if_neg h];exact key _ (h2 h)
theorem a3P' (C:Cmp prog w A s κ (· ∈a0.toList) K)(hB:SB a0 κ st){i j:Nat}(hi:i<a0.size)(hj:j<a0.size){Q:Option Bool→SortSt→Prop}(h1:R K (arrOf st) i<R K (arrOf st) j→Q (some true) st)(h2:¬R K (arrOf st) i<R K (arrOf st) j→Q (some false) st):
  wpS (model prog w) A E s (ltAt' i j) Q st:=by
 rw[←hB.size]at hi hj
 rw[ltAt'_eq]
 refine wpS_bind (wpS_get ?_)
 refine wpS_bind (a0g' hi (wpS_bind (a0g' hj ?_)))
 refine b0u' C (hB.all _ (by simp)) (hB.all _ (by simp)) hB.kind ?_
 rw[R_of hi,R_of hj]at h1 h2
 by_cases h:K (arrOf st)[i]<K (arrOf st)[j]
 ·rw[decide_eq_true h];exact h1 h
 ·rw[decide_eq_false h];exact h2 h
theorem a2y' {i j:Nat}(hj:j≤xs.size)(k:Nat):R K (mirror xs i j ((j-i)/2)) k=if i≤k∧k<j then R K xs (i+j-1-k)else R K xs k:=by
 have h:=getElem?_mirror_all (xs:=xs) (i:=i) hj k
 by_cases c:i≤k∧k<j
 ·rw[if_pos c]at h⊢;exact a1j' h
 ·rw[if_neg c]at h⊢;exact a1j' h
theorem a3Q' {lo hi i j:Nat}(hj:j≤xs.size)(h1:lo≤i)(h2:j≤hi):Fr lo hi xs (mirror xs i j ((j-i)/2)):=fun k hk=>by
 rw[getElem?_mirror_all hj,if_neg (by lia)]
theorem a8n' {i j:Nat}{Q:Unit→SortSt→Prop}(h:Q () (setArr st (mirror (arrOf st) i j ((j-i)/2)))):wpS (model prog w) A E s (reverseSlice' i j) Q st:=by
 rw[reverseSlice'_eq]
 exact wpS_modify h
theorem b3b' {lo nrem a:Nat}{f:Nat→AscSt→StateT SortSt Sem (ForInStep AscSt)}(hf:∀x n,1≤n→n<nrem→∀Q':ForInStep AscSt→SortSt→Prop,(R K (arrOf st) (lo+n)<R K (arrOf st) (lo+n-1)→Q' (.done (none,n)) st)→(¬R K (arrOf st) (lo+n)<R K (arrOf st) (lo+n-1)→Q' (.yield (none,n+1)) st)→wpS (model prog w) A E s (f x (none,n)) Q' st)
  (h1:1≤a) (h2:a≤nrem) (hs:SR K (arrOf st) lo (lo+a)) {Q:AscSt→SortSt→Prop} (h:∀n,a≤n→n≤nrem→SR K (arrOf st) lo (lo+n)→(n=nrem∨R K (arrOf st) (lo+n)<R K (arrOf st) (lo+n-1))→Q (none,n) st):
  wpS (model prog w) A E s (forIn [a:nrem] (none,a) f) Q st:=by
 refine wpS_forRange (I:=fun x c st'=>st'=st∧c=(none,x)∧x≤nrem∧SR K (arrOf st) lo (lo+x)) ?_ ?_ ⟨rfl,rfl,h2,hs⟩
 ·rintro x c st' hx hx2 ⟨rfl,rfl,_,hs⟩
  refine hf x x (by lia) hx2 _ (fun hw=>h x hx (by lia) hs (.inr hw)) (fun hw=>⟨rfl,rfl,by lia,fun i j k1 k2 k3=> ?_⟩)
  by_cases e:j=lo+x
  ·subst e
   by_cases e2:i=lo+x
   ·subst e2;exact Nat.le_refl _
   ·have:=hs i (lo+x-1) k1 (by lia) (by lia)
    lia
  ·exact hs i j k1 k2 (by lia)
 ·rintro c st' ⟨rfl,rfl,hx,hs⟩
  rw[Nat.max_eq_right h2]at*
  exact h nrem h2 (Nat.le_refl _) hs (.inl rfl)
theorem a6w' (C:Cmp prog w A s κ (· ∈a0.toList) K)(hB:SB a0 κ st){lo nrem:Nat}(hz:lo+nrem≤a0.size)(h1:1≤nrem){Q:Option Nat→SortSt→Prop}
  (h:∀m ys,ys.Perm (arrOf st)→Fr lo (lo+nrem) (arrOf st) ys→1≤m→m≤nrem→SR K ys lo (lo+m)→Q (some m) (setArr st ys)):wpS (model prog w) A E s (countRun' lo nrem) Q st:=by
 have asc3:∀{st':SortSt},SB a0 κ st'→∀n,1≤n→n<nrem→∀{α:Type} {Q':α→SortSt→Prop} {f:Option Bool→StateT SortSt Sem α},(R K (arrOf st') (lo+n)<R K (arrOf st') (lo+n-1)→wpS (model prog w) A E s (f (some true)) Q' st')→(¬R K (arrOf st') (lo+n)<R K (arrOf st') (lo+n-1)→wpS (model prog w) A E s (f (some false)) Q' st')→wpS (model prog w) A E s (ltAt' (lo+n) (lo+n-1)>>=f) Q' st':=fun hB' n n1 n2 α Q' f q1 q2=>wpS_bind (a3P' C hB' (by lia) (by lia) q1 q2)
 rw[countRun'_eq]
 refine wpS_bind (b3b' (lo:=lo) (K:=K) (fun x n n1 n2 Q' q1 q2=>asc3 hB n n1 n2 (fun hw=>wpS_T rfl (wpS_pure (q1 hw))) (fun hw=>wpS_F (by decide) (wpS_pure (q2 hw)))) (Nat.le_refl 1) h1 (fun i j k1 k2 k3=>by have:i=j:=(by lia);subst this;exact Nat.le_refl _) fun n n1 n2 hs hor=> ?_)
 by_cases hnn:n=nrem
 ·exact wpS_T (by simpa using hnn) (wpS_pure (h n _ (.refl _) .refl n1 n2 hs))
 refine wpS_F (by simpa using hnn) ?_
 have hlt:=hor.resolve_left hnn
 have hsz:=hB.size
 refine selD (C:=fun ys=>ys.Perm (arrOf st)∧Fr lo (lo+nrem) (arrOf st) ys∧∀i j,lo≤i→i≤j→j<lo+n+1→R K ys j≤R K ys i) (fun ys hC=> ?_) (fun hgt key=> ?_) (fun hgt=>⟨.refl _,.refl,fun i j k1 k2 k3=> ?_⟩)
 ·obtain⟨hp,hF,hN⟩:=hC
  have hB1:=hB.arr hp
  have hz1:ys.size=a0.size:=hB1.size
  refine wpS_bind (wpS_lift (wpAny_rule ⟨rfl,?_⟩))
  refine wpS_bind (wpS_mono (wpS_forRange (I:=fun x c st'=>∃zs q,st'=setArr st zs∧c=(none,x,q)∧zs.Perm (arrOf st)∧Fr lo (lo+nrem) (arrOf st) zs∧x≤nrem∧q<x∧(∀i j,lo≤i→i≤j→j<lo+x→R K zs j≤R K zs i)∧∀k,lo+x-(q+1)≤k→k<lo+x→R K zs k=R K zs (lo+x-1))
   (Q:=fun c st'=>∃zs m q,st'=setArr st zs∧c=(none,m,q)∧zs.Perm (arrOf st)∧Fr lo (lo+nrem) (arrOf st) zs∧1≤m∧m≤nrem∧q<m∧(∀i j,lo≤i→i≤j→j<lo+m→R K zs j≤R K zs i)∧∀k,lo+m-(q+1)≤k→k<lo+m→R K zs k=R K zs (lo+m-1)) ?_ ?_ ?_) ?_)
  ·rintro x c st' hx hx2 ⟨zs,q,rfl,rfl,hp',hF',_,hq,hN',hE⟩
   have hB2:=hB.arr hp'
   have hz2:zs.size=a0.size:=hB2.size
   have up:∀ws:Array Keyed,(∀k,k≤lo+x→lo≤k→R K ws k=R K zs k)→R K zs (lo+x)≤R K zs (lo+x-1)→∀i j,lo≤i→i≤j→j<lo+(x+1)→R K ws j≤R K ws i:=fun ws hw hl i j k1 k2 k3=>by
    rw[hw i (by lia) k1,hw j (by lia) (by lia)]
    by_cases e:j=lo+x
    ·subst e
     by_cases e2:i=lo+x
     ·subst e2;exact Nat.le_refl _
     ·exact Nat.le_trans hl (hN' i (lo+x-1) k1 (by lia) (by lia))
    ·exact hN' i j k1 k2 (by lia)
   refine asc3 hB2 x (by lia) hx2 (fun hw=>wpS_T rfl ?_) (fun hw=>wpS_F (by decide) ?_)
   ·have hw:R K zs (lo+x)<R K zs (lo+x-1):=hw
    refine selD (st:=setArr st zs) (C:=fun ws=>ws.Perm (arrOf st)∧Fr lo (lo+nrem) (arrOf st) ws∧∀k,k≤lo+x→lo≤k→R K ws k=R K zs k) (fun ws hC=> ?_) (fun hg key=> ?_) (fun hg=>⟨hp',hF',fun _ _ _=>rfl⟩)
    ·refine wpS_pure ⟨ws,0,rfl,rfl,hC.1,hC.2.1,by lia,by lia,up ws hC.2.2 (by lia),fun k k1 k2=>by rw[show k=lo+(x+1)-1 by lia]⟩
    ·refine wpS_bind (a8n' (key _ ⟨(mirror_perm _ _ _ _).trans hp',hF'.trans (a3Q' (i:=lo+x-(q+1)) (j:=lo+x) (by rw[hz2];lia) (by lia) (by lia)),fun k k1 k2=> ?_⟩))
     show R K (mirror zs (lo+x-(q+1)) (lo+x) ((lo+x-(lo+x-(q+1)))/2)) k=_
     rw[a2y' (by rw[hz2];lia)]
     by_cases c:lo+x-(q+1)≤k∧k<lo+x
     ·rw[if_pos c,hE k c.1 c.2,hE _ (by lia) (by lia)]
     ·rw[if_neg c]
   ·have hw:¬R K zs (lo+x)<R K zs (lo+x-1):=hw
    refine wpS_bind (a3P' (i:=lo+x-1) (j:=lo+x) C hB2 (by lia) (by lia) (fun hw2=>wpS_T rfl (wpS_pure ⟨zs,x,q,rfl,rfl,hp',hF',by lia,by lia,hq,hN',hE⟩)) (fun hw2=>wpS_F (by decide) (wpS_pure ⟨zs,q+1,rfl,rfl,hp',hF',by lia,by lia,?_,fun k k1 k2=> ?_⟩)))
    ·have hw2:¬R K zs (lo+x-1)<R K zs (lo+x):=hw2
     exact up zs (fun _ _ _=>rfl) (by lia)
    ·have hw2:¬R K zs (lo+x-1)<R K zs (lo+x):=hw2
     rw[show lo+(x+1)-1=lo+x by lia]
     by_cases e:k=lo+x
     ·rw[e]
     ·rw[hE k (by lia) (by lia)];lia
  ·rintro c st' ⟨zs,q,rfl,rfl,hp',hF',hx,hq,hN',hE⟩
   exact⟨zs,_,q,rfl,rfl,hp',hF',by lia,hx,hq,hN',hE⟩
  ·exact⟨ys,0,rfl,rfl,hp,hF,by lia,by lia,fun i j k1 k2 k3=>hN i j k1 k2 (by lia),fun k k1 k2=>by rw[show k=lo+(n+1)-1 by lia]⟩
  ·rintro c st' ⟨zs,m,q,rfl,rfl,hp',hF',m1,m2,hq,hN',hE⟩
   have hB2:=hB.arr hp'
   have hz2:zs.size=a0.size:=hB2.size
   refine selD (st:=setArr st zs) (C:=fun ws=>ws.Perm (arrOf st)∧Fr lo (lo+nrem) (arrOf st) ws∧∀k,k<lo+m→lo≤k→R K ws k=R K zs k) (fun ws hC=> ?_) (fun hg key=> ?_) (fun hg=>⟨hp',hF',fun _ _ _=>rfl⟩)
   ·obtain⟨hp3,hF3,hE3⟩:=hC
    have hB3:=hB.arr hp3
    have hz3:ws.size=a0.size:=hB3.size
    refine wpS_bind (a8n' ?_)
    show wpS (model prog w) A E s _ Q (setArr st (mirror ws lo (lo+m) ((lo+m-lo)/2)))
    have hp4:(mirror ws lo (lo+m) ((lo+m-lo)/2)).Perm (arrOf st):=(mirror_perm _ _ _ _).trans hp3
    have hF4:Fr lo (lo+nrem) (arrOf st) (mirror ws lo (lo+m) ((lo+m-lo)/2)):=hF3.trans (a3Q' (by rw[hz3];lia) (Nat.le_refl _) (by lia))
    have hs4:SR K (mirror ws lo (lo+m) ((lo+m-lo)/2)) lo (lo+m):=fun i j k1 k2 k3=>by
     rw[a2y' (by rw[hz3];lia),a2y' (by rw[hz3];lia),if_pos ⟨k1,by lia⟩,if_pos ⟨by lia,k3⟩,hE3 _ (by lia) (by lia),hE3 _ (by lia) (by lia)]
     exact hN' _ _ (by lia) (by lia) (by lia)
    revert hp4 hF4 hs4
    generalize mirror ws lo (lo+m) ((lo+m-lo)/2)=vs
    intro hp4 hF4 hs4
    refine wpS_bind (b3b' (st:=setArr st vs) (lo:=lo) (K:=K) (fun x n n1 n2 Q' q1 q2=>asc3 (hB.arr hp4) n n1 n2 (fun hw=>wpS_T rfl (wpS_pure (q1 hw))) (fun hw=>wpS_F (by decide) (wpS_pure (q2 hw)))) m1 m2 hs4 fun n n1 n2 hs _=> ?_)
    exact wpS_pure (h n vs hp4 hF4 (by lia) n2 hs)
   ·refine wpS_bind (a8n' (key _ ⟨(mirror_perm _ _ _ _).trans hp',hF'.trans (a3Q' (i:=lo+m-(q+1)) (j:=lo+m) (by rw[hz2];lia) (by lia) (by lia)),fun k k1 k2=> ?_⟩))
    show R K (mirror zs (lo+m-(q+1)) (lo+m) ((lo+m-(lo+m-(q+1)))/2)) k=_
    rw[a2y' (by rw[hz2];lia)]
    by_cases c:lo+m-(q+1)≤k∧k<lo+m
    ·rw[if_pos c,hE k c.1 c.2,hE _ (by lia) (by lia)]
    ·rw[if_neg c]
 ·refine wpS_bind (a3P' C hB (by lia) (by lia) (fun hr=>wpS_T rfl (wpS_pure (h n _ (.refl _) .refl n1 n2 hs))) (fun hr=>wpS_F (by decide) ?_))
  have hr:¬R K (arrOf st) lo<R K (arrOf st) (lo+n-1):=hr
  have hlt:R K (arrOf st) (lo+n)<R K (arrOf st) (lo+n-1):=hlt
  refine wpS_bind (a8n' (key _ ⟨mirror_perm _ _ _ _,a3Q' (by lia) (Nat.le_refl _) (by lia),fun i j k1 k2 k3=> ?_⟩))
  have eq:∀k,lo≤k→k<lo+n→R K (mirror (arrOf st) lo (lo+n) ((lo+n-lo)/2)) k=R K (arrOf st) lo:=fun k k1 k2=>by
   rw[a2y' (by lia),if_pos ⟨k1,k2⟩]
   have e1:=hs lo (lo+(lo+n)-1-k) (by lia) (by lia) (by lia)
   have e2:=hs (lo+(lo+n)-1-k) (lo+n-1) (by lia) (by lia) (by lia)
   lia
  show R K (mirror (arrOf st) lo (lo+n) ((lo+n-lo)/2)) j≤R K (mirror (arrOf st) lo (lo+n) ((lo+n-lo)/2)) i
  by_cases e:j<lo+n
  ·rw[eq i k1 (by lia),eq j (by lia) e];exact Nat.le_refl _
  ·have e':j=lo+n:=by lia
   subst e'
   rw[a2y' (by lia) (lo+n),if_neg (by lia)]
   by_cases e2:i=lo+n
   ·subst e2;rw[a2y' (by lia) (lo+n),if_neg (by lia)];exact Nat.le_refl _
   ·rw[eq i k1 (by lia)]
    have e1:=hs lo (lo+n-1) (by lia) (by lia) (by lia)
    lia
 ·have hlt:R K (arrOf st) (lo+n)<R K (arrOf st) (lo+n-1):=hlt
  have hgt:¬n>1:=hgt
  have e1:n=1:=by lia
  subst e1
  by_cases e:i=j
  ·subst e;exact Nat.le_refl _
  ·rw[show i=lo+1-1 by lia,show j=lo+1 by lia];lia
end
end Srt
end
section
set_option autoImplicit false
namespace Srt
open PySem PyProof.Rows
section
variable {prog:Program}{w:World}{A:Around}{E:Value→Shared→Prop}{s:Shared}{st:SortSt}{κ:SortKind}{K:Keyed→Nat}{a0 xs ys:Array Keyed}
theorem b4y' {src d:Nat}(hs:src<xs.size)(hd:d≤src)(k:Nat):R K (bubble xs src d) k=if k=src-d then R K xs src else if src-d<k∧k≤src then R K xs (k-1)else R K xs k:=by
 have h:=getElem?_bubble hs d hd k
 by_cases c:k=src-d
 ·rw[if_pos c]at h⊢;exact a1j' h
 ·rw[if_neg c]at h⊢
  by_cases c2:src-d<k∧k≤src
  ·rw[if_pos c2]at h⊢;exact a1j' h
  ·rw[if_neg c2]at h⊢;exact a1j' h
theorem b2h' {lo hi src d:Nat}(hs:src<xs.size)(hd:d≤src)(h1:lo≤src-d)(h2:src<hi):Fr lo hi xs (bubble xs src d):=fun k hk=>by
 rw[getElem?_bubble hs d hd,if_neg (by lia),if_neg (by lia)]
theorem a4M' (C:Cmp prog w A s κ (· ∈a0.toList) K)(hB:SB a0 κ st){lo n ok:Nat}(hz:lo+n≤a0.size)(hok:ok≤n)(hs:SR K (arrOf st) lo (lo+ok)){Q:Bool→SortSt→Prop}
  (h:∀ys,ys.Perm (arrOf st)→Fr lo (lo+n) (arrOf st) ys→SR K ys lo (lo+n)→Q true (setArr st ys)):wpS (model prog w) A E s (binarySort' lo n ok) Q st:=by
 rw[binarySort'_eq]
 refine wpS_bind (wpS_mono (wpS_forRange (I:=fun k c st'=>∃zs,st'=setArr st zs∧c=(none,())∧zs.Perm (arrOf st)∧Fr lo (lo+n) (arrOf st) zs∧SR K zs lo (lo+min k n))
  (Q:=fun c st'=>∃zs,st'=setArr st zs∧c=(none,())∧zs.Perm (arrOf st)∧Fr lo (lo+n) (arrOf st) zs∧SR K zs lo (lo+n)) ?_ ?_ ?_) ?_)
 ·rintro k c st' hk hk2 ⟨zs,rfl,rfl,hp,hF,hs'⟩
  rw[Nat.min_eq_left (by lia)]at hs'
  have hB2:=hB.arr hp
  have hz2:zs.size=a0.size:=hB2.size
  refine wpS_bind (wpS_mono (wpS_forRange (I:=fun x c st'=>st'=setArr st zs∧∃l r,c=(none,l,r)∧l≤r∧r≤k∧r-l≤k-x∧(∀i,i<l→R K zs (lo+i)≤R K zs (lo+k))∧(∀i,r≤i→i<k→R K zs (lo+k)<R K zs (lo+i)))
   (Q:=fun c st'=>st'=setArr st zs∧∃l r,c=(none,l,r)∧l≤k∧(∀i,i<l→R K zs (lo+i)≤R K zs (lo+k))∧(∀i,l≤i→i<k→R K zs (lo+k)<R K zs (lo+i))) ?_ ?_ ⟨rfl,0,k,rfl,by lia,by lia,by lia,fun i hi=>by lia,fun i h1 h2=>by lia⟩) ?_)
  ·rintro x c st' _ hx ⟨rfl,l,r,rfl,k1,k2,k3,k4,k5⟩
   by_cases hlr:l≥r
   ·have:l=r:=by lia
    subst this
    exact wpS_T hlr (wpS_pure ⟨rfl,l,l,rfl,k2,k4,k5⟩)
   ·refine wpS_F hlr (wpS_bind (a3P' (i:=lo+k) (j:=lo+(l+r)/2) C hB2 (by lia) (by lia) (fun hw=>wpS_T rfl (wpS_pure ⟨rfl,l,(l+r)/2,rfl,by lia,by lia,by lia,k4,fun i h1 h2=> ?_⟩)) (fun hw=>wpS_F (by decide) (wpS_pure ⟨rfl,(l+r)/2+1,r,rfl,by lia,k2,by lia,fun i h1=> ?_,k5⟩))))
    ·have hw:R K zs (lo+k)<R K zs (lo+(l+r)/2):=hw
     have:=hs' (lo+(l+r)/2) (lo+i) (by lia) (by lia) (by lia)
     lia
    ·have hw:¬R K zs (lo+k)<R K zs (lo+(l+r)/2):=hw
     have:=hs' (lo+i) (lo+(l+r)/2) (by lia) (by lia) (by lia)
     lia
  ·rintro c st' ⟨rfl,l,r,rfl,k1,k2,k3,k4,k5⟩
   have:l=r:=by lia
   subst this
   exact⟨rfl,l,l,rfl,k2,k4,k5⟩
  ·rintro c st' ⟨rfl,l,r,rfl,k2,k4,k5⟩
   refine wpS_bind (m:=moveDown' (lo+k) (lo+l)) ?_
   rw[moveDown'_eq]
   refine wpS_modify (wpS_pure ⟨bubble zs (lo+k) (lo+k-(lo+l)),rfl,rfl,(bubble_perm _ _ _).trans hp,hF.trans (b2h' (by rw[hz2];lia) (by lia) (by lia) (by lia)),?_⟩)
   rw[Nat.min_eq_left (by lia)]
   have e:∀i,R K (bubble zs (lo+k) (lo+k-(lo+l))) i=if i=lo+l then R K zs (lo+k)else if lo+l<i∧i≤lo+k then R K zs (i-1)else R K zs i:=fun i=>by
    rw[b4y' (by rw[hz2];lia) (by lia),show lo+k-(lo+k-(lo+l))=lo+l by lia]
   have a1:∀i,lo≤i→i<lo+l→R K zs i≤R K zs (lo+k):=fun i h1 h2=>by have:=k4 (i-lo) (by lia);rwa [show lo+(i-lo)=i by lia]at this
   have a2:∀i,lo+l≤i→i<lo+k→R K zs (lo+k)<R K zs i:=fun i h1 h2=>by have:=k5 (i-lo) (by lia) (by lia);rwa [show lo+(i-lo)=i by lia]at this
   intro i j h1 h2 h3
   rw[e i,e j]
   by_cases c1:i=lo+l
   ·rw[if_pos c1]
    by_cases c2:j=lo+l
    ·rw[if_pos c2];exact Nat.le_refl _
    ·rw[if_neg c2,if_pos ⟨by lia,by lia⟩]
     exact Nat.le_of_lt (a2 _ (by lia) (by lia))
   ·rw[if_neg c1]
    by_cases c3:lo+l<i∧i≤lo+k
    ·rw[if_pos c3,if_neg (by lia),if_pos ⟨by lia,by lia⟩]
     exact hs' _ _ (by lia) (by lia) (by lia)
    ·rw[if_neg c3]
     by_cases c2:j=lo+l
     ·rw[if_pos c2];exact a1 i h1 (by lia)
     ·rw[if_neg c2]
      by_cases c4:lo+l<j∧j≤lo+k
      ·rw[if_pos c4];exact hs' _ _ h1 (by lia) (by lia)
      ·rw[if_neg c4];exact hs' _ _ h1 h2 (by lia)
 ·rintro c st' ⟨zs,rfl,rfl,hp,hF,hs'⟩
  rw[show min (max (max ok 1) n) n=n by lia]at hs'
  exact⟨zs,rfl,rfl,hp,hF,hs'⟩
 ·refine⟨arrOf st,rfl,rfl,.refl _,.refl,fun i j h1 h2 h3=> ?_⟩
  by_cases e:i=j
  ·subst e;exact Nat.le_refl _
  ·exact hs i j h1 h2 (by lia)
 ·rintro c st' ⟨zs,rfl,rfl,hp,hF,hs'⟩
  exact wpS_pure (h zs hp hF hs')
end
end Srt
end
section
set_option autoImplicit false
namespace Srt
open PySem PyProof.Rows
section
variable {prog:Program}{w:World}{A:Around}{E:Value→Shared→Prop}{s:Shared}{st:SortSt}{κ:SortKind}{K:Keyed→Nat}{a0 xs ys:Array Keyed}
theorem b0x' {base:Nat}:∀(l:List Keyed) (k:Nat) (arr:Array Keyed),base+k+l.length≤arr.size→((l.zipIdx k).foldl (fun a (x:Keyed×Nat)=>a.setIfInBounds (base+x.2) x.1) arr).toList=arr.toList.take (base+k)++l++arr.toList.drop (base+k+l.length)
 | [],k,arr,h=>by simp
 |x::l,k,arr,h=>by
  rw[List.length_cons]at h
  rw[List.zipIdx_cons,List.foldl_cons,b0x' l (k+1) _ (by rw[Array.size_setIfInBounds];lia)]
  rw[Array.toList_setIfInBounds]
  have hl:base+k<arr.toList.length:=by rw[Array.length_toList];lia
  have e1:(arr.toList.set (base+k) x).take (base+(k+1))=arr.toList.take (base+k)++[x]:=by
   rw[show base+(k+1)=(base+k)+1 by lia,List.take_succ,List.take_set_of_le (Nat.le_refl _),List.getElem?_set_self hl]
   rfl
  have e2:(arr.toList.set (base+k) x).drop (base+(k+1)+l.length)=arr.toList.drop (base+k+(x::l).length):=by
   rw[List.drop_set_of_lt (by lia),List.length_cons,show base+(k+1)+l.length=base+k+(l.length+1)by lia]
  rw[e1,e2]
  simp
theorem b0y' {i j:Nat}(h1:i≤j)(h2:j≤xs.size):(xs.extract i j).size=j-i:=by
 rw[Array.size_extract,Nat.min_eq_left h2]
theorem R_ext {i j n:Nat}(h2:j≤xs.size)(hn:i+n<j):R K (xs.extract i j) n=R K xs (i+n):=by
 refine a1j' ?_
 rw[Array.getElem?_extract,if_pos (by lia)]
theorem LS_ext {i j:Nat}(h2:j≤xs.size)(hs:SR K xs i j):LS K (xs.extract i j).toList:=by
 refine List.pairwise_iff_getElem.mpr fun n m hn hm h=> ?_
 have hm':m<(xs.extract i j).size:=by rw[←Array.length_toList];exact hm
 have hn':n<(xs.extract i j).size:=by lia
 have e:(xs.extract i j).size≤j-i:=by rw[Array.size_extract];lia
 have k1:=R_ext (K:=K) h2 (show i+n<j by lia)
 have k2:=R_ext (K:=K) h2 (show i+m<j by lia)
 have:=hs (i+n) (i+m) (by lia) (by lia) (by lia)
 rw[←k1,←k2,R_of hn',R_of hm']at this
 simpa using this
theorem b0z' {i j:Nat}(h2:j≤xs.size){x:Keyed}(h:x∈(xs.extract i j).toList):∃n,i≤n∧n<j∧K x=R K xs n:=by
 obtain⟨n,h1,h3,_,e⟩:=b0w' (K:=K) h
 exact⟨n,h1,h3,e⟩
theorem wpS_set {x:SortSt}{Q:PUnit→SortSt→Prop}(h:Q ⟨⟩ x):wpS (model prog w) A E s (set x:StateT SortSt Sem PUnit) Q st:=by
 unfold wpS;rw[StateT.run_set];exact wpAny_pure ⟨rfl,h⟩
def a8o' (st:SortSt)(p:Array (Nat×Nat×Nat)):SortSt:=SortSt.mk' (kindOf st) (arrOf st) p (gallopOf st) (failedOf st)
theorem a9a' (C:Cmp prog w A s κ (· ∈a0.toList) K)(hB:SB a0 κ st){i sa na pw nb pw':Nat}(hi:(pendingOf st)[i]? =some (sa,na,pw))(hi':(pendingOf st)[i+1]? =some (sa+na,nb,pw'))(a1:1≤na)(b1:1≤nb)(hz:sa+na+nb≤a0.size)
  (ha:SR K (arrOf st) sa (sa+na)) (hb:SR K (arrOf st) (sa+na) (sa+na+nb)) {Q:Bool→SortSt→Prop}
  (h:∀ys g,ys.Perm (arrOf st)→Fr sa (sa+na+nb) (arrOf st) ys→SR K ys sa (sa+na+nb)→Q true (a0D' (setArr (a8o' st (((pendingOf st).setIfInBounds i (sa,na+nb,pw)).eraseIdxIfInBounds (i+1))) ys) g)):wpS (model prog w) A E s (mergeAt' i) Q st:=by
 have hsz:=hB.size
 have hall:=hB.all
 have pe:∀{n:Nat} (hn:n<(arrOf st).size),(arrOf st)[n]∈a0.toList:=fun hn=>hall _ (by simp)
 refine wpS_bind (wpS_get ?_)
 have e0:((pendingOf st)[i]?,(pendingOf st)[i+1]?)=(some (sa,na,pw),some (sa+na,nb,pw')):=by rw[hi,hi']
 rw[hi,hi']
 refine wpS_bind (wpS_set ?_)
 show wpS (model prog w) A E s _ Q (a8o' st (((pendingOf st).setIfInBounds i (sa,na+nb,pw)).eraseIdxIfInBounds (i+1)))
 generalize((pendingOf st).setIfInBounds i (sa,na+nb,pw)).eraseIdxIfInBounds (i+1)=p' at h⊢
 have hkP:kindOf (a8o' st p')=κ:=hB.kind
 refine wpS_bind (a0g' (show sa+na<(arrOf st).size by lia) ?_)
 refine wpS_bind (a1q' C hall (pe (by lia)) hkP (by lia) (by lia) (fun i j k1 k2=>ha _ _ (by lia) (by lia) (by lia)) fun k k1 k2 k3=> ?_)
 have t1:thr K false (arrOf st)[sa+na]=R K (arrOf st) (sa+na)+1:=by rw[R_of (show sa+na<(arrOf st).size by lia)];rfl
 rw[t1]at k2 k3
 have q2:∀n,sa≤n→n<sa+k→R K (arrOf st) n≤R K (arrOf st) (sa+na):=fun n h1 h2=>by
  have:=k2 (n-sa) (by lia)
  rw[show sa+(n-sa)=n by lia]at this
  lia
 have bb:∀n,sa+na≤n→n<sa+na+nb→R K (arrOf st) (sa+na)≤R K (arrOf st) n:=fun n h1 h2=>hb _ _ (Nat.le_refl _) h1 h2
 have fin:∀c,c≤R K (arrOf st) (sa+na)→(∀n,sa≤n→n<sa+na→R K (arrOf st) n≤c)→SR K (arrOf st) sa (sa+na+nb):=fun c hc hn i j h1 h2 h3=>by
  by_cases c1:j<sa+na
  ·exact ha i j h1 h2 c1
  ·by_cases c2:i<sa+na
   ·have:=hn i h1 c2
    have:=bb j (by lia) h3
    lia
   ·exact hb i j (by lia) h2 h3
 by_cases e1:na-k=0
 ·refine wpS_T (by simpa using e1) (wpS_pure (h _ (gallopOf st) (.refl _) .refl (fin _ (Nat.le_refl _) fun n h1 h2=>q2 n h1 (by lia))))
 refine wpS_F (by simpa using e1) ?_
 have q3:R K (arrOf st) (sa+na)<R K (arrOf st) (sa+k):=by have:=k3 k (Nat.le_refl _) (by lia);lia
 refine wpS_bind (a0g' (show sa+k+(na-k)-1<(arrOf st).size by lia) ?_)
 refine wpS_bind (a1q' C hall (pe (by lia)) hkP (by lia) (by lia) (fun i j k1 k2=>hb _ _ (by lia) (by lia) (by lia)) fun m m1 m2 m3=> ?_)
 have t2:thr K true ((arrOf st)[sa+k+(na-k)-1]'(by lia))=R K (arrOf st) (sa+na-1):=by rw[show sa+na-1=sa+k+(na-k)-1 by lia,R_of (show sa+k+(na-k)-1<(arrOf st).size by lia)];rfl
 rw[t2]at m2 m3
 have q4:∀n,sa+na≤n→n<sa+na+m→R K (arrOf st) n<R K (arrOf st) (sa+na-1):=fun n h1 h2=>by
  have:=m2 (n-(sa+na)) (by lia)
  rwa [show sa+na+(n-(sa+na))=n by lia]at this
 have q5:∀n,sa+na+m≤n→n<sa+na+nb→R K (arrOf st) (sa+na-1)≤R K (arrOf st) n:=fun n h1 h2=>by
  have:=m3 (n-(sa+na)) (by lia) (by lia)
  rwa [show sa+na+(n-(sa+na))=n by lia]at this
 by_cases e2:m=0
 ·have:=q5 (sa+na) (by lia) (by lia)
  have:=ha (sa+k) (sa+na-1) (by lia) (by lia) (by lia)
  exfalso;lia
 refine wpS_F (by simpa using e2) ?_
 have hxz:((arrOf st).extract (sa+k) (sa+na)).size=na-k:=by rw[b0y' (by lia) (by lia)];lia
 have hyz:((arrOf st).extract (sa+na) (sa+na+m)).size=m:=by rw[b0y' (by lia) (by lia)];lia
 have hxl:=LS_ext (K:=K) (xs:=arrOf st) (i:=sa+k) (j:=sa+na) (by lia) (fun i j h1 h2 h3=>ha i j (by lia) h2 h3)
 have hyl:=LS_ext (K:=K) (xs:=arrOf st) (i:=sa+na) (j:=sa+na+m) (by lia) (fun i j h1 h2 h3=>hb i j (by lia) h2 (by lia))
 have hxm:∀x∈((arrOf st).extract (sa+k) (sa+na)).toList,x∈a0.toList:=fun x hx=>by
  rw[Array.toList_extract]at hx
  exact hall x (List.mem_of_mem_drop (List.mem_of_mem_take hx))
 have hym:∀x∈((arrOf st).extract (sa+na) (sa+na+m)).toList,x∈a0.toList:=fun x hx=>by
  rw[Array.toList_extract]at hx
  exact hall x (List.mem_of_mem_drop (List.mem_of_mem_take hx))
 have r0:R K ((arrOf st).extract (sa+na) (sa+na+m)) 0<R K ((arrOf st).extract (sa+k) (sa+na)) 0:=by
  rw[R_ext (by lia) (by lia),R_ext (by lia) (by lia)]
  exact q3
 have rl:∀y∈((arrOf st).extract (sa+na) (sa+na+m)).toList,K y<R K ((arrOf st).extract (sa+k) (sa+na)) (((arrOf st).extract (sa+k) (sa+na)).size-1):=fun y hy=>by
  obtain⟨n,h1,h2,e⟩:=b0z' (K:=K) (by lia) hy
  rw[e,hxz,R_ext (by lia) (by lia),show sa+k+(na-k-1)=sa+na-1 by lia]
  exact q4 n h1 h2
 have key:∀(r:Array Keyed) (g:Nat),Good K (((arrOf st).extract (sa+k) (sa+na)).toList++((arrOf st).extract (sa+na) (sa+na+m)).toList) r→Q true (a0D' (setArr (a8o' st p') ((r.toList.zipIdx).foldl (fun a (x:Keyed×Nat)=>a.setIfInBounds (sa+k+x.2) x.1) (arrOf st))) g):=fun r g gd=>by
  have hrl:r.toList.length=na-k+m:=by
   rw[gd.1.length_eq,List.length_append,Array.length_toList,Array.length_toList,hxz,hyz]
  have hel:∀n,n<r.toList.length→∃j,sa+k≤j∧j<sa+na+m∧R K r n=R K (arrOf st) j:=fun n hn=>by
   have hn':n<r.size:=by rwa [Array.length_toList]at hn
   have hm:r[n]∈r.toList:=by simp
   rw[R_of hn']
   rcases List.mem_append.mp (gd.1.mem_iff.mp hm)with z|z
   ·obtain⟨j,h1,h2,e⟩:=b0z' (K:=K) (by lia) z
    exact⟨j,h1,by lia,e⟩
   ·obtain⟨j,h1,h2,e⟩:=b0z' (K:=K) (by lia) z
    exact⟨j,by lia,h2,e⟩
  have hfp:=b0x' (base:=sa+k) r.toList 0 (arrOf st) (by lia)
  generalize(r.toList.zipIdx).foldl (fun a (x:Keyed×Nat)=>a.setIfInBounds (sa+k+x.2) x.1) (arrOf st)=ys at hfp⊢
  rw[Nat.add_zero]at hfp
  have hl1:((arrOf st).toList.take (sa+k)).length=sa+k:=by rw[List.length_take,Array.length_toList];lia
  have o1:∀n,n<sa+k→ys[n]? =(arrOf st)[n]? :=fun n hn=>by
   rw[←Array.getElem?_toList,hfp,List.append_assoc,List.getElem?_append_left (by lia),List.getElem?_take_of_lt hn,Array.getElem?_toList]
  have o2:∀n,sa+na+m≤n→ys[n]? =(arrOf st)[n]? :=fun n hn=>by
   rw[←Array.getElem?_toList,hfp,List.getElem?_append_right (by rw[List.length_append];lia),List.getElem?_drop,List.length_append,hl1,hrl,←Array.getElem?_toList]
   congr 1;lia
  have o3:∀n,sa+k≤n→n<sa+na+m→ys[n]? =r[n-(sa+k)]? :=fun n h1 h2=>by
   rw[←Array.getElem?_toList,hfp,List.append_assoc,List.getElem?_append_right (by lia),hl1,List.getElem?_append_left (by lia),Array.getElem?_toList]
  refine h ys g ?_ (fun n hn=> ?_) (fun i j h1 h2 h3=> ?_)
  ·refine Array.perm_iff_toList_perm.mpr ?_
   rw[hfp]
   have e:(arrOf st).toList=(arrOf st).toList.take (sa+k)++(((arrOf st).extract (sa+k) (sa+na)).toList++((arrOf st).extract (sa+na) (sa+na+m)).toList)++(arrOf st).toList.drop (sa+k+r.toList.length):=by
    rw[←List.append_assoc,←a8m' (by lia),←a8m' (by lia),show sa+k+r.toList.length=sa+na+m by lia,List.take_append_drop]
   exact((List.Perm.append_left _ gd.1).append_right _).trans (List.Perm.of_eq e.symm)
  ·rcases hn with z|z
   ·exact o1 n (by lia)
   ·exact o2 n (by lia)
  ·have ri:∀n,n<sa+k→R K ys n=R K (arrOf st) n:=fun n hn=>a1j' (o1 n hn)
   have ro:∀n,sa+na+m≤n→R K ys n=R K (arrOf st) n:=fun n hn=>a1j' (o2 n hn)
   have rm:∀n,sa+k≤n→n<sa+na+m→R K ys n=R K r (n-(sa+k)):=fun n h1 h2=>a1j' (o3 n h1 h2)
   by_cases c1:j<sa+k
   ·rw[ri i (by lia),ri j c1];exact ha i j h1 h2 (by lia)
   by_cases c2:sa+na+m≤i
   ·rw[ro i c2,ro j (by lia)];exact hb i j (by lia) h2 h3
   by_cases c3:i<sa+k
   ·rw[ri i c3]
    have u1:=q2 i h1 c3
    by_cases c4:sa+na+m≤j
    ·rw[ro j c4];have:=bb j (by lia) h3;lia
    ·rw[rm j (by lia) (by lia)]
     obtain⟨n,n1,n2,e⟩:=hel (j-(sa+k)) (by lia)
     rw[e]
     by_cases c5:n<sa+na
     ·exact ha i n h1 (by lia) c5
     ·have:=bb n (by lia) (by lia);lia
   ·rw[rm i (by lia) (by lia)]
    by_cases c4:sa+na+m≤j
    ·rw[ro j c4]
     obtain⟨n,n1,n2,e⟩:=hel (i-(sa+k)) (by lia)
     rw[e]
     by_cases c5:n<sa+na
     ·have:=ha n (sa+na-1) (by lia) (by lia) (by lia)
      have:=q5 j c4 h3
      lia
     ·exact hb n j (by lia) (by lia) h3
    ·rw[rm j (by lia) (by lia)]
     exact gd.2.mono (by lia) (by rw[←Array.length_toList];lia)
 have hs1:sa+k+(na-k)=sa+na:=by lia
 by_cases e3:na-k≤m
 ·refine wpS_T e3 (wpS_bind (a8Y' C hkP hxm hym hxl hyl (by lia) (by lia) r0 rl fun r g gd=> ?_))
  refine wpS_bind (wpS_modify (wpS_bind (wpS_get (wpS_pure ?_))))
  have:=key r g gd
  show Q (failedOf st).isNone _
  rw[hB.failed]
  exact this
 ·refine wpS_F e3 (wpS_bind (a8Z' C hkP hxm hym hxl hyl (by lia) (by lia) r0 rl fun r g gd=> ?_))
  refine wpS_bind (wpS_modify (wpS_bind (wpS_get (wpS_pure ?_))))
  have:=key r g gd
  show Q (failedOf st).isNone _
  rw[hB.failed]
  exact this
end
end Srt
end
section
set_option autoImplicit false
namespace Srt
open PySem PyProof.Rows
def Ch (K:Keyed→Nat)(xs:Array Keyed):Nat→List (Nat×Nat×Nat)→Nat→Prop
 |a,[],e=>a=e
 |a,t::r,e=>t.1=a∧1≤t.2.1∧SR K xs a (a+t.2.1)∧Ch K xs (a+t.2.1) r e
section
variable {K:Keyed→Nat}{xs ys:Array Keyed}
theorem Ch.len:∀{l:List (Nat×Nat×Nat)} {a e:Nat},Ch K xs a l e→a+l.length≤e
 | [],a,e,h=>by cases h;simp
 |t::r,a,e,h=>by
  have:=Ch.len h.2.2.2
  have:=h.2.1
  rw[List.length_cons];lia
theorem Ch.app:∀{l r:List (Nat×Nat×Nat)} {a e:Nat},Ch K xs a (l++r) e→∃m,Ch K xs a l m∧Ch K xs m r e
 | [],r,a,e,h=>⟨a,rfl,h⟩
 |t::l,r,a,e,h=>by
  obtain⟨m,h1,h2⟩:=Ch.app (l:=l) h.2.2.2
  exact⟨m,⟨h.1,h.2.1,h.2.2.1,h1⟩,h2⟩
theorem Ch.join:∀{l r:List (Nat×Nat×Nat)} {a m e:Nat},Ch K xs a l m→Ch K xs m r e→Ch K xs a (l++r) e
 | [],r,a,m,e,h,k=>by cases h;exact k
 |t::l,r,a,m,e,h,k=>⟨h.1,h.2.1,h.2.2.1,Ch.join h.2.2.2 k⟩
theorem Ch.same:∀{l:List (Nat×Nat×Nat)} {a e:Nat},(∀i,a≤i→i<e→R K ys i=R K xs i)→Ch K xs a l e→Ch K ys a l e
 | [],a,e,_,h=>h
 |t::r,a,e,hs,h=>by
  have:=h.2.2.2.len
  refine⟨h.1,h.2.1,fun i j k1 k2 k3=> ?_,Ch.same (fun i k1 k2=>hs i (by lia) k2) h.2.2.2⟩
  rw[hs i k1 (by lia),hs j (by lia) (by lia)]
  exact h.2.2.1 i j k1 k2 k3
theorem Ch.modify {f:Nat×Nat×Nat→Nat×Nat×Nat}(hf:∀t,(f t).1=t.1∧(f t).2.1=t.2.1):∀{l:List (Nat×Nat×Nat)} {i a e:Nat},Ch K xs a l e→Ch K xs a (l.modify i f) e
 | [],i,a,e,h=>by rw[List.modify_nil];exact h
 |t::r,0,a,e,h=>by
  rw[List.modify_zero_cons]
  obtain⟨h1,h2,h3,h4⟩:=h
  refine⟨(hf t).1.trans h1,by rw[(hf t).2];exact h2,by rw[(hf t).2];exact h3,by rw[(hf t).2];exact h4⟩
 |t::r,i+1,a,e,h=>by
  rw[List.modify_succ_cons]
  exact⟨h.1,h.2.1,h.2.2.1,Ch.modify hf h.2.2.2⟩
theorem b2i' {L:List (Nat×Nat×Nat)}{j:Nat}(h:j+1<L.length):L=L.take j++L[j]::L[j+1]::L.drop (j+2):=by
 rw[←List.drop_eq_getElem_cons h,←List.drop_eq_getElem_cons (show j<L.length by lia),List.take_append_drop]
theorem b2j' {L:List (Nat×Nat×Nat)}{j:Nat}{x:Nat×Nat×Nat}(h:j+1<L.length):(L.set j x).eraseIdx (j+1)=L.take j++x::L.drop (j+2):=by
 rw[List.eraseIdx_eq_take_drop_succ,List.take_succ,List.take_set_of_le (Nat.le_refl _),List.getElem?_set_self (by lia),List.drop_set_of_lt (by lia)]
 simp
end
section
variable {prog:Program}{w:World}{A:Around}{E:Value→Shared→Prop}{s:Shared}{st:SortSt}{κ:SortKind}{K:Keyed→Nat}{a0:Array Keyed}
structure SI (a0:Array Keyed)(κ:SortKind)(K:Keyed→Nat)(lo:Nat)(st:SortSt):Prop where
 b:SB a0 κ st
 ch:Ch K (arrOf st) 0 (pendingOf st).toList lo
 le:lo≤a0.size
theorem a6x' (C:Cmp prog w A s κ (· ∈a0.toList) K){lo j:Nat}(I:SI a0 κ K lo st)(hj:j+1<(pendingOf st).size){Q:Bool→SortSt→Prop}(h:∀st',SI a0 κ K lo st'→(pendingOf st').size+1=(pendingOf st).size→(∀i,lo≤i→(arrOf st')[i]? =(arrOf st)[i]?)→Q true st'):wpS (model prog w) A E s (mergeAt' j) Q st:=by
 have hl:j+1<(pendingOf st).toList.length:=by rwa [Array.length_toList]
 have e:=b2i' hl
 have hc:=I.ch
 rw[e]at hc
 obtain⟨m,h1,h2⟩:=hc.app
 have g1:(pendingOf st)[j]? =some ((pendingOf st).toList[j].1,(pendingOf st).toList[j].2.1,(pendingOf st).toList[j].2.2):=by
  rw[←Array.getElem?_toList,List.getElem?_eq_getElem]
 have g2:(pendingOf st)[j+1]? =some ((pendingOf st).toList[j+1].1,(pendingOf st).toList[j+1].2.1,(pendingOf st).toList[j+1].2.2):=by
  rw[←Array.getElem?_toList,List.getElem?_eq_getElem]
 have e2:=b2j' (L:=(pendingOf st).toList) (j:=j) (x:=((pendingOf st).toList[j].1,(pendingOf st).toList[j].2.1+(pendingOf st).toList[j+1].2.1,(pendingOf st).toList[j].2.2)) hl
 generalize(pendingOf st).toList[j]=t at*
 generalize(pendingOf st).toList[j+1]=u at*
 obtain⟨t1,t2,t3⟩:=t
 obtain⟨u1,u2,u3⟩:=u
 obtain⟨rfl,k2,k3,k4⟩:=h2
 obtain⟨rfl,k6,k7,k8⟩:=k4
 dsimp only at*
 have hle:=k8.len
 refine a9a' C I.b g1 g2 k2 k6 (by have:=I.le;lia) k3 k7 fun ys g hp hF hs=> ?_
 have ep:(((pendingOf st).setIfInBounds j (t1,t2+u2,t3)).eraseIdxIfInBounds (j+1)).toList=(pendingOf st).toList.take j++(t1,t2+u2,t3)::(pendingOf st).toList.drop (j+2):=by
  rw[Array.toList_eraseIdxIfInBounds,Array.toList_setIfInBounds,e2]
 have hle1:=h1.len
 refine h _ ⟨⟨hp.trans I.b.perm,I.b.failed,I.b.kind⟩,?_,I.le⟩ ?_ fun i hi=>hF i (.inr (by lia))
 ·show Ch K ys 0 (((pendingOf st).setIfInBounds j (t1,t2+u2,t3)).eraseIdxIfInBounds (j+1)).toList lo
  rw[ep]
  refine(h1.same fun i _ hi=>a1j' (hF i (.inl hi))).join ⟨rfl,by dsimp only;lia,?_,?_⟩
  ·dsimp only;rw[←Nat.add_assoc];exact hs
  ·dsimp only;rw[←Nat.add_assoc];exact k8.same fun i hi _=>a1j' (hF i (.inr hi))
 ·show(((pendingOf st).setIfInBounds j (t1,t2+u2,t3)).eraseIdxIfInBounds (j+1)).size+1=_
  rw[←Array.length_toList,ep,←Array.length_toList]
  simp only[List.length_append,List.length_take,List.length_cons,List.length_drop]
  lia
end
end Srt
end
section
set_option autoImplicit false
namespace Srt
open PySem PyProof.Rows
section
variable {prog:Program}{w:World}{A:Around}{E:Value→Shared→Prop}{s:Shared}{st:SortSt}{κ:SortKind}{K:Keyed→Nat}{a0:Array Keyed}
theorem selN {α:Type}{c:Nat→Prop}{dc:∀n,Decidable (c n)}{f T:Nat→StateT SortSt Sem α}{Q:α→SortSt→Prop}{C:Nat→SortSt→Prop}{H:Nat→Prop}(key:∀n st',C n st'→wpS (model prog w) A E s (f n) Q st')(h1:∀n,H n→c n→(∀n st',C n st'→wpS (model prog w) A E s (f n) Q st')→wpS (model prog w) A E s (T n) Q st)(h2:∀n,H n→¬c n→C n st):
  ∀n,H n→wpS (model prog w) A E s (if c n then T n else f n) Q st:=fun n hn=>by
 by_cases h:c n
 ·rw[if_pos h];exact h1 n hn h key
 ·rw[if_neg h];exact key n st (h2 n hn h)
theorem a6y' (C:Cmp prog w A s κ (· ∈a0.toList) K)(hB:SB a0 κ st)(hpe:pendingOf st= #[])(h2:2≤a0.size){Q:Unit→SortSt→Prop}(h:∀st',SB a0 κ st'→SR K (arrOf st') 0 a0.size→Q () st'):wpS (model prog w) A E s sortRuns' Q st:=by
 have hsz:=hB.size
 rw[sortRuns'_eq]
 refine wpS_bind (wpS_get ?_)
 dsimp-zeta only
 rw[hsz]
 refine wpS_bind (wpS_mono (wpS_forRange (I:=fun x c st'=>∃lo,c=(none,lo)∧SI a0 κ K lo st'∧x≤lo) (Q:=fun c st'=>∃lo,c=(none,lo)∧SI a0 κ K lo st'∧a0.size≤lo) ?_ ?_ ⟨0,rfl,⟨hB,by rw[hpe];rfl,by lia⟩,by lia⟩) ?_)
 ·rintro x c st1 _ hx ⟨lo,rfl,I,hxl⟩
  by_cases hlo:lo≥a0.size
  ·exact wpS_T hlo (wpS_pure ⟨lo,rfl,I,hlo⟩)
  refine wpS_F hlo (wpS_bind (a6w' C I.b (lo:=lo) (nrem:=a0.size-lo) (by lia) (by lia) fun m ys hp hF m1 m2 hs=> ?_))
  have chF:∀{zs:Array Keyed},(∀i,i<lo→zs[i]? =(arrOf st1)[i]?)→Ch K zs 0 (pendingOf st1).toList lo:=fun hz=>I.ch.same fun i _ hi=>a1j' (hz i hi)
  have H:1≤m∧m≤a0.size-lo∧SR K ys lo (lo+m):=⟨m1,m2,hs⟩
  revert H
  clear m1 m2 hs
  generalize m=m'
  revert m'
  refine selN (C:=fun n st2=>(SB a0 κ st2∧Ch K (arrOf st2) 0 (pendingOf st2).toList lo)∧SR K (arrOf st2) lo (lo+n)∧1≤n∧lo+n≤a0.size) (fun n st2 hC=> ?_) (fun n hH hc key=> ?_) (fun n hH hc=>⟨⟨I.b.arr hp,chF fun i hi=>hF i (.inl hi)⟩,hH.2.2,hH.1,by have:=hH.2.1;lia⟩)
  ·obtain⟨hJ,hs,n1,n2⟩:=hC
   have push:∀st3,SB a0 κ st3→Ch K (arrOf st3) 0 (pendingOf st3).toList lo→SR K (arrOf st3) lo (lo+n)→SI a0 κ K (lo+n) (setPending st3 ((pendingOf st3).push (lo,n,0))):=fun st3 b3 c3 s3=>⟨⟨b3.perm,b3.failed,b3.kind⟩,by
    show Ch K (arrOf st3) 0 ((pendingOf st3).push (lo,n,0)).toList (lo+n)
    rw[Array.toList_push]
    exact c3.join ⟨rfl,n1,s3,rfl⟩,n2⟩
   refine wpS_bind (wpS_get ?_)
   cases hbk:(pendingOf st2).back? with
   |none=>exact wpS_bind (wpS_modify (wpS_pure ⟨lo+n,rfl,push st2 hJ.1 hJ.2 hs,by lia⟩))
   |some t=>
    refine wpS_bind (wpS_mono (wpS_forRange (I:=fun y c st3=>c=(none,())∧(SB a0 κ st3∧Ch K (arrOf st3) 0 (pendingOf st3).toList lo)∧SR K (arrOf st3) lo (lo+n)) (Q:=fun c st3=>c=(none,())∧(SB a0 κ st3∧Ch K (arrOf st3) 0 (pendingOf st3).toList lo)∧SR K (arrOf st3) lo (lo+n)) ?_ ?_ ⟨rfl,hJ,hs⟩) ?_)
    ·rintro y c st3 _ hy ⟨rfl,hJ3,hs3⟩
     refine wpS_bind (wpS_get ?_)
     dsimp only
     by_cases hp1:(pendingOf st3).size>1
     ·have e1:(if(pendingOf st3).size>1 then(pendingOf st3)[(pendingOf st3).size-2]? else none)=some ((pendingOf st3)[(pendingOf st3).size-2]'(by lia)):=by rw[if_pos hp1,getElem?_pos]
      rw[e1]
      generalize((pendingOf st3)[(pendingOf st3).size-2]'(by lia))=u
      by_cases ho:u.2.2≤power' a0.size (2*t.1+t.2.1) (2*t.1+t.2.1+t.2.1+n) a0.size
      ·exact wpS_T ho (wpS_pure ⟨rfl,hJ3,hs3⟩)
      ·refine wpS_F ho (wpS_bind (a6x' C ⟨hJ3.1,hJ3.2,by lia⟩ (by lia) fun st4 I4 _ hF4=> ?_))
       refine wpS_F (by decide) (wpS_pure ⟨rfl,⟨I4.b,I4.ch⟩,fun i j k1 k2 k3=> ?_⟩)
       rw[a1j' (hF4 i k1),a1j' (hF4 j (by lia))]
       exact hs3 i j k1 k2 k3
     ·rw[if_neg hp1]
      exact wpS_pure ⟨rfl,hJ3,hs3⟩
    ·rintro c st3 hh
     exact hh
    ·rintro c st3 ⟨rfl,hJ3,hs3⟩
     refine wpS_bind (wpS_modify ?_)
     refine wpS_bind (wpS_modify (wpS_pure ⟨lo+n,rfl,push _ ⟨hJ3.1.perm,hJ3.1.failed,hJ3.1.kind⟩ ?_ hs3,by lia⟩))
     show Ch K (arrOf st3) 0 ((pendingOf st3).modify _ _).toList lo
     rw[Array.toList_modify]
     exact Ch.modify (f:=fun x=>(x.1,x.2.1,power' a0.size (2*t.1+t.2.1) (2*t.1+t.2.1+t.2.1+n) a0.size)) (fun _=>⟨rfl,rfl⟩) hJ3.2
  ·refine wpS_bind (wpS_lift (wpAny_rule ⟨rfl,?_⟩))
   obtain⟨hm1,hm2,hms⟩:=hH
   have hc:n<minRun' a0.size a0.size 0:=hc
   refine wpS_bind (a4M' C (I.b.arr hp) (lo:=lo) (by lia) (by lia) hms fun zs hp2 hF2 hs2=> ?_)
   refine wpS_F (by decide) (key _ _ ⟨⟨I.b.arr (hp2.trans hp),chF fun i hi=>(hF2 i (.inl hi)).trans (hF i (.inl hi))⟩,hs2,by lia,by lia⟩)
 ·rintro c st' ⟨lo,rfl,I,hx⟩
  exact⟨lo,rfl,I,by lia⟩
 ·rintro c st1 ⟨lo,rfl,I,hx⟩
  have elo:lo=a0.size:=by have:=I.le;lia
  subst elo
  refine wpS_bind (wpS_mono (wpS_forRange (I:=fun y c st2=>c=(none,())∧SI a0 κ K a0.size st2∧(pendingOf st2).size≤1+(a0.size-y)) (Q:=fun c st2=>c=(none,())∧SI a0 κ K a0.size st2∧(pendingOf st2).size≤1) ?_ ?_ ⟨rfl,I,?_⟩) ?_)
  ·rintro y c st2 _ hy ⟨rfl,I2,hz⟩
   refine wpS_bind (wpS_get ?_)
   by_cases hp1:(pendingOf st2).size≤1
   ·exact wpS_T hp1 (wpS_pure ⟨rfl,I2,hp1⟩)
   ·refine wpS_F hp1 (wpS_bind (a6x' C I2 (by have hif:∀(c:Prop) [Decidable c] (x y:Nat),x≤y→(if c then x else y)≤y:=(fun c _ x y hxy=>by split<;>lia);exact Nat.lt_of_le_of_lt (Nat.succ_le_succ (hif _ _ _ (Nat.sub_le _ 1))) (by lia)) fun st3 I3 hz3 _=> ?_))
    exact wpS_F (by decide) (wpS_pure ⟨rfl,I3,by lia⟩)
  ·rintro c st2 ⟨rfl,I2,hz⟩
   exact⟨rfl,I2,by lia⟩
  ·have:=I.ch.len
   rw[Array.length_toList]at this
   lia
  ·rintro c st2 ⟨rfl,I2,hz⟩
   refine wpS_pure (h st2 I2.b ?_)
   have hc:=I2.ch
   have hl:(pendingOf st2).toList.length≤1:=by rwa [Array.length_toList]
   generalize(pendingOf st2).toList=L at hc hl
   cases L with
   |nil=>exact absurd (show 0=a0.size from hc) (by lia)
   |cons t r=>
    cases r with
    |nil=>
     obtain⟨e1,e2,e3,e4⟩:=hc
     have e4:0+t.2.1=a0.size:=e4
     rw[e4]at e3
     exact e3
    |cons _ _=>simp at hl
end
end Srt
end
section
set_option autoImplicit false
namespace Py
open PySem PySem.W PySem.Spec PyProof.Rows Srt
structure SOrd (n:Nat)(c:Nat→Nat→Bool):Prop where
 irr:∀i,i<n→c i i=false
 asym:∀i j,i<n→j<n→c i j=true→c j i=false
 ntr:∀i j k,i<n→j<n→k<n→c i j=false→c j k=false→c i k=false
def rankN (n:Nat)(c:Nat→Nat→Bool)(i:Nat):Nat:=((List.range n).filter fun j=>c j i).length
theorem b4z' {f g:Nat→Bool}:∀(l:List Nat),(∀x∈l,f x=true→g x=true)→(l.filter f).length≤(l.filter g).length
 | [],_=>Nat.le_refl _
 |x::l,h=>by
  have ih:=b4z' l fun y hy=>h y (List.mem_cons_of_mem _ hy)
  have hx:=h x List.mem_cons_self
  rw[List.filter_cons,List.filter_cons]
  cases e1:f x<;>cases e2:g x
  ·exact ih
  ·exact Nat.le_succ_of_le ih
  ·rw[e1,e2]at hx;cases hx rfl
  ·exact Nat.succ_le_succ ih
theorem b4A' {f g:Nat→Bool}:∀(l:List Nat),(∀x∈l,f x=true→g x=true)→(∃x∈l,f x=false∧g x=true)→(l.filter f).length<(l.filter g).length
 | [],_,h=>by obtain⟨x,hx,_⟩:=h;cases hx
 |x::l,h,k=>by
  have hx:=h x List.mem_cons_self
  have hl:=fun y hy=>h y (List.mem_cons_of_mem x hy)
  have le:=b4z' l hl
  rw[List.filter_cons,List.filter_cons]
  cases e1:f x<;>cases e2:g x
  ·obtain⟨y,hy,k1,k2⟩:=k
   rcases List.mem_cons.mp hy with rfl|hy
   ·rw[e2]at k2;cases k2
   ·exact b4A' l hl ⟨y,hy,k1,k2⟩
  ·exact Nat.lt_succ_of_le le
  ·rw[e1,e2]at hx;cases hx rfl
  ·obtain⟨y,hy,k1,k2⟩:=k
   rcases List.mem_cons.mp hy with rfl|hy
   ·rw[e1]at k1;cases k1
   ·exact Nat.succ_lt_succ (b4A' l hl ⟨y,hy,k1,k2⟩)
theorem b3c' {n:Nat}{c:Nat→Nat→Bool}(o:SOrd n c){i j:Nat}(hi:i<n)(hj:j<n):c i j=decide (rankN n c i<rankN n c j):=by
 cases e:c i j with
 |true=>
  refine(decide_eq_true (b4A' (f:=fun k=>c k i) (g:=fun k=>c k j) _ (fun k hk h=> ?_) ⟨i,List.mem_range.mpr hi,o.irr i hi,e⟩)).symm
  have hk:=List.mem_range.mp hk
  cases e2:c k j with
  |true=>rfl
  |false=>
   have:=o.ntr k j i hk hj hi e2 (o.asym i j hi hj e)
   rw[h]at this;cases this
 |false=>
  refine(decide_eq_false (Nat.not_lt.mpr (b4z' (f:=fun k=>c k j) (g:=fun k=>c k i) _ fun k hk h=> ?_))).symm
  have hk:=List.mem_range.mp hk
  cases e2:c k i with
  |true=>rfl
  |false=>
   have:=o.ntr k i j hk hi hj e2 e
   rw[h]at this;cases this
theorem a9b' {α β:Type}{f:α→β}:∀{l2 m:List β},l2.Perm m→∀l1:List α,m=l1.map f→∃l:List α,l.Perm l1∧l.map f=l2:=by
 intro l2 m p
 induction p with
 |nil=>intro l1 e;cases l1 with
  |nil=>exact⟨[],.refl _,rfl⟩
  |cons _ _=>cases e
 |cons x p ih=>
  intro l1 e
  cases l1 with
  |nil=>cases e
  |cons a l1=>
   rw[List.map_cons]at e
   obtain⟨e1,e2⟩:=List.cons.inj e
   subst e1
   obtain⟨l,h1,h2⟩:=ih l1 e2
   exact⟨a::l,h1.cons a,by rw[List.map_cons,h2]⟩
 |swap x y l=>
  intro l1 e
  cases l1 with
  |nil=>cases e
  |cons a l1=>
   rw[List.map_cons]at e
   obtain⟨e1,e2⟩:=List.cons.inj e
   subst e1
   cases l1 with
   |nil=>cases e2
   |cons b l1=>
    rw[List.map_cons]at e2
    obtain⟨e3,e4⟩:=List.cons.inj e2
    subst e3
    exact⟨b::a::l1,.swap a b l1,by rw[List.map_cons,List.map_cons,e4]⟩
 |trans p q ih1 ih2=>
  intro l1 e
  obtain⟨l,h1,h2⟩:=ih2 l1 e
  obtain⟨l',h3,h4⟩:=ih1 l h2.symm
  exact⟨l',h3.trans h1,h4⟩
open Classical in
def idxOf (its:List Value)(x:Keyed):Nat:=if h:∃i,i<its.length∧its.getD i Value.none=x.1 then h.choose else 0
section
variable {prog:Program}{w:World}{A:Around}{E:Value→Shared→Prop}{s:Shared}{κ:SortKind}
theorem run_any {its:List Value}{c:Nat→Nat→Bool}(o:SOrd its.length c)(same:∀i j,i<its.length→j<its.length→its.getD i Value.none=its.getD j Value.none→rankN its.length c i=rankN its.length c j)(h2:2≤its.length)
  (ask:∀i j C,i<its.length→j<its.length→C (c i j) s→kas_ask prog w A κ its i j C s) {Q:SortSt→Shared→Prop}
  (h:∀(st':SortSt) (p:List Nat),failedOf st'=none→(arrOf st').map (·.2)=List.toArray (p.map fun i=>its.getD i Value.none)→p.Perm (List.range its.length)→p.Pairwise (fun i j=>c j i=false)→Q st' s):
  wpAny (model prog w) A ((sortRuns').run (SortSt.mk' κ (its.toArray.zip its.toArray) #[] 7 none)) (fun r s'=>Q r.2 s') E s:=by
 have hidx:∀i,i<its.length→idxOf its (its.getD i Value.none,its.getD i Value.none)<its.length∧its.getD (idxOf its (its.getD i Value.none,its.getD i Value.none)) Value.none=its.getD i Value.none:=fun i hi=>by
  have hx:∃j,j<its.length∧its.getD j Value.none=its.getD i Value.none:=⟨i,hi,rfl⟩
  unfold idxOf
  rw[dif_pos hx]
  exact hx.choose_spec
 have hel:∀x∈(its.toArray.zip its.toArray).toList,∃i,i<its.length∧x=(its.getD i Value.none,its.getD i Value.none):=fun x hx=>by
  rw[Array.toList_zip]at hx
  obtain⟨i,hi,rfl⟩:=List.mem_iff_getElem.mp hx
  have hi':i<its.length:=by simp at hi;exact hi
  refine⟨i,hi',?_⟩
  have e:its.getD i Value.none=its[i]:=by simp[List.getD,hi']
  rw[e]
  simp
 have C:Cmp prog w A s κ (· ∈(its.toArray.zip its.toArray).toList) (fun x=>rankN its.length c (idxOf its x)):=⟨fun x hx y hy Q E hQ=>by
  obtain⟨i,hi,rfl⟩:=hel x hx
  obtain⟨j,hj,rfl⟩:=hel y hy
  obtain⟨i1,i2⟩:=hidx i hi
  obtain⟨j1,j2⟩:=hidx j hj
  rw[←b3c' o i1 j1]at hQ
  have:=ask _ _ Q i1 j1 hQ
  unfold kas_ask at this
  rw[i2,j2]at this
  exact wpAny_mono this (fun _ _ q=>q) fun _ _ z=>z.elim⟩
 have hz:(its.toArray.zip its.toArray).size=its.length:=by simp
 have run:=a6y' (E:=E) (st:=SortSt.mk' κ (its.toArray.zip its.toArray) #[] 7 none) C ⟨.refl _,rfl,rfl⟩ rfl (by rw[hz];exact h2) (Q:=fun _ st'=>Q st' s) fun st' B hs=>by
  have hr:(its.toArray.zip its.toArray).toList=(List.range its.length).map fun i=>(its.getD i Value.none,its.getD i Value.none):=by
   apply List.ext_getElem
   ·simp
   ·intro i h1 h2
    have hi:i<its.length:=by simpa using h2
    have e:its.getD i Value.none=its[i]:=by simp[List.getD,hi]
    simp only[List.getElem_map,List.getElem_range,e]
    simp
  obtain⟨p,p1,p2⟩:=a9b' (Array.perm_iff_toList_perm.mp B.perm) _ hr
  refine h st' p B.failed ?_ p1 ?_
  ·apply Array.toList_inj.mp
   rw[Array.toList_map,←p2,List.map_map]
   rfl
  ·refine List.pairwise_iff_getElem.mpr fun i j hi hj hij=> ?_
   have hpl:p.length=its.length:=by rw[p1.length_eq,List.length_range]
   have pi:p[i]<its.length:=List.mem_range.mp (p1.mem_iff.mp (List.getElem_mem hi))
   have pj:p[j]<its.length:=List.mem_range.mp (p1.mem_iff.mp (List.getElem_mem hj))
   have hsz:(arrOf st').size=its.length:=by rw[B.perm.size_eq,hz]
   have:=hs i j (Nat.zero_le _) (Nat.le_of_lt hij) (by rw[hz];omega)
   have ge:∀(k:Nat) (hk:k<p.length),R (fun x=>rankN its.length c (idxOf its x)) (arrOf st') k=rankN its.length c p[k]:=fun k hk=>by
    have hk':k<(arrOf st').size:=by omega
    rw[R_of hk']
    have e:(arrOf st')[k]=(its.getD p[k] Value.none,its.getD p[k] Value.none):=by
     have e1:(arrOf st').toList[k]? =some (its.getD p[k] Value.none,its.getD p[k] Value.none):=by rw[←p2,List.getElem?_map,List.getElem?_eq_getElem hk];rfl
     rw[Array.getElem?_toList,getElem?_pos (arrOf st') k hk']at e1
     exact Option.some.inj e1
    rw[e]
    have pk:p[k]<its.length:=List.mem_range.mp (p1.mem_iff.mp (List.getElem_mem hk))
    obtain⟨q1,q2⟩:=hidx p[k] pk
    exact same _ _ q1 pk q2
   rw[ge i hi,ge j hj]at this
   rw[b3c' o pj pi]
   exact decide_eq_false (by omega)
 exact wpAny_mono run (fun r s' hr=>by obtain⟨rfl,q⟩:=hr;exact q) fun _ _ e=>e
end
end Py
end
section
namespace Py
open PySem PySem.Spec PyProof.Rows L2
structure LOrd (P:D→Prop)(f:D→D→Bool):Prop where
 irr:∀x,P x→f x x=false
 asym:∀x y,P x→P y→f x y=true→f y x=false
 ntr:∀x y z,P x→P y→P z→f x y=false→f y z=false→f x z=false
 tot:∀x y,P x→P y→f x y=false→f y x=false→x=y
section
variable {P:D→Prop}{f:D→D→Bool}
theorem b3d' (o:LOrd P f):∀(xs:List D),(∀x∈xs,P x)→lexB f xs xs=false
 | [],_=>rfl
 |x::xs,h=>by
  unfold lexB
  rw[o.irr x (h x List.mem_cons_self)]
  simpa using b3d' o xs fun y hy=>h y (List.mem_cons_of_mem _ hy)
theorem b0A' (o:LOrd P f):∀(xs ys:List D),(∀x∈xs,P x)→(∀x∈ys,P x)→lexB f xs ys=true→lexB f ys xs=false
 | [],[],_,_,h=>by cases h
 | [],_::_,_,_,_=>rfl
 |_::_,[],_,_,h=>by cases h
 |x::xs,y::ys,h1,h2,h=>by
  unfold lexB at h⊢
  have px:=h1 x List.mem_cons_self
  have py:=h2 y List.mem_cons_self
  cases e:f x y with
  |true=>rw[o.asym x y px py e];simp
  |false=>
   rw[e]at h
   cases e2:f y x with
   |true=>rw[e2]at h;simp at h
   |false=>
    rw[e2]at h
    simp only[Bool.false_eq_true,if_false]at h⊢
    exact b0A' o xs ys (fun z hz=>h1 z (List.mem_cons_of_mem _ hz)) (fun z hz=>h2 z (List.mem_cons_of_mem _ hz)) h
theorem lex_tot (o:LOrd P f):∀(xs ys:List D),(∀x∈xs,P x)→(∀x∈ys,P x)→lexB f xs ys=false→lexB f ys xs=false→xs=ys
 | [],[],_,_,_,_=>rfl
 | [],_::_,_,_,h,_=>by cases h
 |_::_,[],_,_,_,h=>by cases h
 |x::xs,y::ys,h1,h2,h,h'=>by
  unfold lexB at h h'
  have px:=h1 x List.mem_cons_self
  have py:=h2 y List.mem_cons_self
  cases e:f x y with
  |true=>rw[e]at h;simp at h
  |false=>
   cases e2:f y x with
   |true=>rw[e2]at h';simp at h'
   |false=>
    rw[e,e2]at h h'
    simp only[Bool.false_eq_true,if_false]at h h'
    rw[o.tot x y px py e e2,lex_tot o xs ys (fun z hz=>h1 z (List.mem_cons_of_mem _ hz)) (fun z hz=>h2 z (List.mem_cons_of_mem _ hz)) h h']
theorem b3e' (o:LOrd P f):∀(xs ys zs:List D),(∀x∈xs,P x)→(∀x∈ys,P x)→(∀x∈zs,P x)→lexB f xs ys=false→lexB f ys zs=false→lexB f xs zs=false
 | [],[],zs,_,_,_,_,h=>h
 | [],_::_,_,_,_,_,h,_=>by cases h
 |_::_,_,[],_,_,_,_,_=>rfl
 |x::xs,[],z::zs,_,_,_,_,h=>by cases h
 |x::xs,y::ys,z::zs,h1,h2,h3,ha,hb=>by
  have px:=h1 x List.mem_cons_self
  have py:=h2 y List.mem_cons_self
  have pz:=h3 z List.mem_cons_self
  unfold lexB at ha hb⊢
  cases e1:f x y with
  |true=>rw[e1]at ha;simp at ha
  |false=>
   cases e2:f y z with
   |true=>rw[e2]at hb;simp at hb
   |false=>
    rw[e1]at ha
    rw[e2]at hb
    simp only[Bool.false_eq_true,if_false]at ha hb
    rw[o.ntr x y z px py pz e1 e2]
    simp only[Bool.false_eq_true,if_false]
    cases e3:f z x with
    |true=>rfl
    |false=>
     have e4:f y x=false:=o.ntr y z x py pz px e2 e3
     have e5:f z y=false:=o.ntr z x y pz px py e3 e1
     rw[e4]at ha
     rw[e5]at hb
     simp only[Bool.false_eq_true,if_false]at ha hb⊢
     exact b3e' o xs ys zs (fun w hw=>h1 w (List.mem_cons_of_mem _ hw)) (fun w hw=>h2 w (List.mem_cons_of_mem _ hw)) (fun w hw=>h3 w (List.mem_cons_of_mem _ hw)) ha hb
end
theorem a2z' {d:D}(h:hasTy .int d=true):∃i,d=.int i:=by
 cases d<;>first|exact⟨_,rfl⟩| (simp[hasTy]at h)
theorem a1R' {t:KTy}{d:D}(h:hasTy (.seq t) d=true):∃xs,d=.tup xs∧∀x∈xs,hasTy t x=true:=by
 cases d with
 |tup xs=>unfold hasTy at h;exact⟨xs,rfl,fun x hx=>List.all_eq_true.mp h x hx⟩
 |_=>simp[hasTy]at h
theorem lordK:∀(t:KTy),noStr t=true→LOrd (fun d=>hasTy t d=true) (ltK t)
 | .int,_=>by
  refine⟨fun x h=> ?_,fun x y h1 h2 h=> ?_,fun x y z h1 h2 h3 ha hb=> ?_,fun x y h1 h2 ha hb=> ?_⟩
  ·obtain⟨i,rfl⟩:=a2z' h;simp[ltK]
  ·obtain⟨i,rfl⟩:=a2z' h1;obtain⟨j,rfl⟩:=a2z' h2;simp[ltK]at h⊢;omega
  ·obtain⟨i,rfl⟩:=a2z' h1;obtain⟨j,rfl⟩:=a2z' h2;obtain⟨k,rfl⟩:=a2z' h3;simp[ltK]at ha hb⊢;omega
  ·obtain⟨i,rfl⟩:=a2z' h1;obtain⟨j,rfl⟩:=a2z' h2;simp[ltK]at ha hb;congr 1;omega
 | .seq t,h=>by
  have o:=lordK t h
  refine⟨fun x h=> ?_,fun x y h1 h2 h=> ?_,fun x y z h1 h2 h3 ha hb=> ?_,fun x y h1 h2 ha hb=> ?_⟩
  ·obtain⟨xs,rfl,k⟩:=a1R' h;exact b3d' o xs k
  ·obtain⟨xs,rfl,k1⟩:=a1R' h1;obtain⟨ys,rfl,k2⟩:=a1R' h2;exact b0A' o xs ys k1 k2 h
  ·obtain⟨xs,rfl,k1⟩:=a1R' h1;obtain⟨ys,rfl,k2⟩:=a1R' h2;obtain⟨zs,rfl,k3⟩:=a1R' h3;exact b3e' o xs ys zs k1 k2 k3 ha hb
  ·obtain⟨xs,rfl,k1⟩:=a1R' h1;obtain⟨ys,rfl,k2⟩:=a1R' h2;exact congrArg D.tup (lex_tot o xs ys k1 k2 ha hb)
def eqK (t:KTy)(d e:D):Bool:= !ltK t d e&& !ltK t e d
theorem b0B' {t:KTy}(hs:noStr t=true){d e:D}(h1:hasTy t d=true)(h2:hasTy t e=true)(h:eqK t d e=true):d=e:=by
 unfold eqK at h
 simp at h
 exact(lordK t hs).tot d e h1 h2 h.1 h.2
theorem a2i' {f:D→D→Bool}{x y:D}{xs ys:List D}:lexB f (x::xs) (y::ys)=if f x y=true then true else if f y x=true then false else lexB f xs ys:=rfl
theorem b3f' {t:KTy}(hs:noStr t=true):∀(xs ys:List D),(∀x∈xs,hasTy t x=true)→(∀x∈ys,hasTy t x=true)→eqK (.seq t) (.tup xs) (.tup ys)=((List.zipWith (eqK t) xs ys).all id&&xs.length==ys.length)
 | [],[],_,_=>rfl
 | [],y::ys,_,_=>by simp[eqK,ltK,lexB]
 |x::xs,[],_,_=>by simp[eqK,ltK,lexB]
 |x::xs,y::ys,h1,h2=>by
  have ih:=b3f' hs xs ys (fun w hw=>h1 w (List.mem_cons_of_mem _ hw)) (fun w hw=>h2 w (List.mem_cons_of_mem _ hw))
  have px:=h1 x List.mem_cons_self
  have py:=h2 y List.mem_cons_self
  cases e:ltK t x y with
  |true=>
   have:eqK t x y=false:=by simp[eqK,e]
   simp[eqK,ltK,lexB,e]
  |false=>
   cases e2:ltK t y x with
   |true=>simp[eqK,ltK,lexB,e,e2]
   |false=>
    have e3:eqK t x y=true:=by simp[eqK,e,e2]
    have e4:eqK (.seq t) (.tup (x::xs)) (.tup (y::ys))=eqK (.seq t) (.tup xs) (.tup ys):=by
     show(!lexB (ltK t) (x::xs) (y::ys)&& !lexB (ltK t) (y::ys) (x::xs))=(!lexB (ltK t) xs ys&& !lexB (ltK t) ys xs)
     rw[a2i',a2i',e,e2]
     simp
    rw[e4,ih]
    simp[e3]
theorem allO_map (f:D→D→Bool):∀(xs ys:List D) (g:D→D→Option Bool),(∀x∈xs,∀y∈ys,g x y=some (f x y))→allO (List.zipWith g xs ys)=some ((List.zipWith f xs ys).all id)
 | [],_,_,_=>rfl
 |_::_,[],_,_=>rfl
 |x::xs,y::ys,g,h=>by
  have ih:=allO_map f xs ys g fun a ha b hb=>h a (List.mem_cons_of_mem _ ha) b (List.mem_cons_of_mem _ hb)
  show(match g x y,allO (List.zipWith g xs ys)with
   |some b,some c=>some (b&&c)
   |_,_=>none)=_
  rw[h x List.mem_cons_self y List.mem_cons_self,ih]
  rfl
theorem b3g' {t:KTy}(hs:noStr t=true){eq lt:D→D→Option Bool}:∀(xs ys:List D),(∀x∈xs,hasTy t x=true)→(∀x∈ys,hasTy t x=true)→(∀x∈xs,∀y∈ys,eq x y=some (eqK t x y)∧lt x y=some (ltK t x y))→ltL eq lt xs ys=some (lexB (ltK t) xs ys)
 | [],[],_,_,_=>rfl
 | [],_::_,_,_,_=>rfl
 |_::_,[],_,_,_=>rfl
 |x::xs,y::ys,h1,h2,h=>by
  have ih:=b3g' hs xs ys (fun w hw=>h1 w (List.mem_cons_of_mem _ hw)) (fun w hw=>h2 w (List.mem_cons_of_mem _ hw)) fun a ha b hb=>h a (List.mem_cons_of_mem _ ha) b (List.mem_cons_of_mem _ hb)
  obtain⟨k1,k2⟩:=h x List.mem_cons_self y List.mem_cons_self
  have px:=h1 x List.mem_cons_self
  have py:=h2 y List.mem_cons_self
  unfold ltL
  rw[k1,a2i']
  cases e:ltK t x y with
  |true=>
   have e1:eqK t x y=false:=by simp[eqK,e]
   rw[e1]
   show lt x y=_
   rw[k2,e];rfl
  |false=>
   cases e2:ltK t y x with
   |true=>
    have e1:eqK t x y=false:=by simp[eqK,e,e2]
    rw[e1]
    show lt x y=_
    rw[k2,e];rfl
   |false=>
    have e1:eqK t x y=true:=by simp[eqK,e,e2]
    rw[e1]
    exact ih
theorem asK (S:Store):∀(t:KTy),noStr t=true→∀n,depth t≤n→∀d e,hasTy t d=true→hasTy t e=true→eqF S n d e=some (eqK t d e)∧ltF S n d e=some (ltK t d e)
 | .int,_,0,h,_,_,_,_=>by simp[depth]at h
 | .int,_,n+1,_,d,e,h1,h2=>by
  obtain⟨i,rfl⟩:=a2z' h1
  obtain⟨j,rfl⟩:=a2z' h2
  refine⟨?_,rfl⟩
  show some (i==j)=some (!decide (i<j)&& !decide (j<i))
  congr 1
  by_cases z:i=j
  ·subst z;simp
  ·rcases Int.lt_or_gt_of_ne z with y|y
   ·simp[z,y]
   ·have:¬i<j:=by omega
    simp[z,y]
 | .seq t,hs,0,h,_,_,_,_=>by simp[depth]at h
 | .seq t,hs,n+1,h,d,e,h1,h2=>by
  obtain⟨xs,rfl,k1⟩:=a1R' h1
  obtain⟨ys,rfl,k2⟩:=a1R' h2
  have ih:=asK S t hs n (by simpa[depth]using h)
  refine⟨?_,b3g' (t:=t) hs xs ys k1 k2 fun x hx y hy=>ih x y (k1 x hx) (k2 y hy)⟩
  show(allO (List.zipWith (eqF S n) xs ys)).map (· &&xs.length==ys.length)=_
  rw[allO_map (eqK t) xs ys _ fun x hx y hy=>(ih x y (k1 x hx) (k2 y hy)).1,b3f' (t:=t) hs xs ys k1 k2]
  rfl
theorem a5R' (f:D→D→Bool)(x:D):∀l,(insB f x l).Perm (x::l)
 | []=>.refl _
 |y::ys=>by
  unfold insB
  split
  ·exact .refl _
  ·exact((a5R' f x ys).cons y).trans (.swap _ _ _)
theorem a1r' (f:D→D→Bool)(xs:List D):(a4J' f xs).Perm xs:=by
 have key:∀(xs acc:List D),(xs.foldl (fun acc x=>insB f x acc) acc).Perm (acc++xs):=by
  intro xs
  induction xs with
  |nil=>intro acc;simp
  |cons x xs ih=>
   intro acc
   refine(ih (insB f x acc)).trans ?_
   refine((a5R' f x acc).append_right xs).trans ?_
   exact List.perm_middle.symm
 simpa[a4J']using key xs []
theorem a6z' {P:D→Prop}{f:D→D→Bool}(o:LOrd P f)(x:D)(px:P x):∀l,(∀y∈l,P y)→l.Pairwise (fun a b=>f b a=false)→(insB f x l).Pairwise (fun a b=>f b a=false)
 | [],_,_=>by simp[insB]
 |y::ys,hp,h=>by
  unfold insB
  have py:=hp y List.mem_cons_self
  obtain⟨h1,h2⟩:=List.pairwise_cons.mp h
  split
  ·rename_i hlt
   refine List.pairwise_cons.mpr ⟨fun z hz=> ?_,h⟩
   have yx:=o.asym x y px py hlt
   rcases List.mem_cons.mp hz with rfl|hz
   ·exact yx
   ·exact o.ntr z y x (hp z (List.mem_cons_of_mem _ hz)) py px (h1 z hz) yx
  ·rename_i hlt
   refine List.pairwise_cons.mpr ⟨fun z hz=> ?_,a6z' o x px ys (fun w hw=>hp w (List.mem_cons_of_mem _ hw)) h2⟩
   rcases List.mem_cons.mp ((a5R' f x ys).mem_iff.mp hz)with rfl|hz
   ·simpa using hlt
   ·exact h1 z hz
theorem a4d' {P:D→Prop}{f:D→D→Bool}(o:LOrd P f)(xs:List D)(hp:∀x∈xs,P x):(a4J' f xs).Pairwise (fun a b=>f b a=false):=by
 have key:∀(xs acc:List D),(∀x∈xs,P x)→(∀x∈acc,P x)→acc.Pairwise (fun a b=>f b a=false)→(xs.foldl (fun acc x=>insB f x acc) acc).Pairwise (fun a b=>f b a=false):=by
  intro xs
  induction xs with
  |nil=>intro acc _ _ h;exact h
  |cons x xs ih=>
   intro acc h1 h2 h
   have px:=h1 x List.mem_cons_self
   refine ih (insB f x acc) (fun y hy=>h1 y (List.mem_cons_of_mem _ hy)) (fun y hy=> ?_) (a6z' o x px acc h2 h)
   rcases List.mem_cons.mp ((a5R' f x acc).mem_iff.mp hy)with rfl|hy
   ·exact px
   ·exact h2 y hy
 exact key xs [] hp (by simp) .nil
theorem a4e' {t:KTy}(hs:noStr t=true){xs ys:List D}(hp:∀x∈xs,hasTy t x=true)(p:ys.Perm xs)(s:ys.Pairwise (fun a b=>ltK t b a=false)):ys=a4J' (ltK t) xs:=by
 have o:=lordK t hs
 refine List.Perm.eq_of_pairwise (le:=fun a b=>ltK t b a=false) (fun a b ha hb h1 h2=> ?_) s (a4d' o xs hp) (p.trans (a1r' _ _).symm)
 exact o.tot a b (hp a (p.mem_iff.mp ha)) (hp b ((a1r' _ _).mem_iff.mp hb)) h2 h1
end Py
end
section
namespace Py
open PySem PySem.W PySem.Spec PyProof.Rows
section
variable {prog:Program}{w:World}{A:Around}{E:Value→Shared→Prop}{s:Shared}
def Outs (its:List Value)(c:Nat→Nat→Bool)(out:List Value):Prop:=∃p:List Nat,out=p.map (fun i=>its.getD i Value.none)∧p.Perm (List.range its.length)∧p.Pairwise (fun i j=>c j i=false)
theorem a7B' {a:Addr}{its:List Value}{n0:Nat}{c:Nat→Nat→Bool}{P:PySem.Fin→Shared→Prop}(ho:s.heap.get? a=some (seqObj "list" its.toArray n0))(h64:its.length≤sizeLine)
  (hk:2≤its.length→∃κ:SortKind,SOrd its.length c∧(∀i j,i<its.length→j<its.length→its.getD i Value.none=its.getD j Value.none→rankN its.length c i=rankN its.length c j)∧∀h':Heap,(∀b o,b≠a→s.heap.get? b=some o→h'.get? b=some o)→
   (∀(Q':SortKind→Shared→Prop),Q' κ {s with heap:=h'}→wpAny (model prog w) A (keyKind' its.toArray) Q' E {s with heap:=h'})∧
   ∀i j C,i<its.length→j<its.length→C (c i j) {s with heap:=h'}→kas_ask prog w A κ its i j C {s with heap:=h'})
  (hP:∀h' c2 out,(∀b o,b≠a→s.heap.get? b=some o→h'.get? b=some o)→h'.get? a=some (seqObj "list" (List.toArray out) c2)→Outs its c out→P (.done (.ret .none)) {s with heap:=h'}):
  wpAny (model prog w) A (Builtin.«list.sort» ⟨[.ref a],[]⟩) P E s:=by
 have ha:a<s.heap.objs.size:=Heap.lt_size ho
 have s1:=Heap.SameBut.update s.heap a (Obj.mapSeq fun _=>(#[]:Array Value))
 obtain⟨e1,ho1⟩:∃e1,(s.heap.update a (Obj.mapSeq fun _=>(#[]:Array Value))).get? a=some (seqObj "list" #[] e1):=⟨_,get?_update_seq ho fun _=> #[]⟩
 have keep:∀b o,b≠a→s.heap.get? b=some o→(((s.heap.update a (Obj.mapSeq fun _=>(#[]:Array Value))).push (seqObj "tuple" its.toArray 0)).push (seqObj "list" #[] 0)).get? b=some o:=fun b o hb e=>
  Heap.get?_push_of_some _ (Heap.get?_push_of_some _ ((s1.2 b hb).trans e))
 have ho2:(((s.heap.update a (Obj.mapSeq fun _=>(#[]:Array Value))).push (seqObj "tuple" its.toArray 0)).push (seqObj "list" #[] 0)).get? a=some (seqObj "list" #[] e1):=Heap.get?_push_of_some _ (Heap.get?_push_of_some _ ho1)
 rw[list_sort_plain]
 refine wpAny_bind (listItems_at ho rfl ?_)
 refine wpAny_bind (listUpdate_at ho rfl ?_ (by rw[List.size_toArray];exact h64) (Nat.zero_le _))
 refine wpAny_bind (seqEpoch_at ho1 rfl ?_)
 refine wpAny_bind (wpAny_newTuple ?_ (by show its.length≤_;exact h64))
 refine wpAny_bind (wpAny_newList ?_ (Nat.zero_le _))
 refine wpAny_holding ?_
 show wpAny (model prog w) A _ P E {s with heap:=((s.heap.update a (Obj.mapSeq fun _=>(#[]:Array Value))).push (seqObj "tuple" its.toArray 0)).push (seqObj "list" #[] 0)}
 generalize((s.heap.update a (Obj.mapSeq fun _=>(#[]:Array Value))).push (seqObj "tuple" its.toArray 0)).push (seqObj "list" #[] 0)=h1 at*
 have fin:∀(st':SortSt) (out:List Value),(arrOf st').map (·.2)=List.toArray out→failedOf st'=none→out.length=its.length→Outs its c out→
   wpAny (model prog w) A (do
    let touched:=(←seqEpoch a) !=e1
    Builtin.List.listUpdate (.ref a) fun _=>(arrOf st').map (·.2)
    if let some e:=failedOf st' then rule "list.sort.comparison-raised";throw e
    if touched then rule "list.sort.modified";raiseError "ValueError" "list modified during sort"
    ret .none) P E {s with heap:=h1}:=by
  intro st' out hout hf hlen hO
  have s2:=Heap.SameBut.update h1 a (Obj.mapSeq fun _=>List.toArray out)
  obtain⟨c2,hc2⟩:∃c2,(h1.update a (Obj.mapSeq fun _=>List.toArray out)).get? a=some (seqObj "list" (List.toArray out) c2):=⟨_,get?_update_seq ho2 fun _=>List.toArray out⟩
  rw[hout]
  refine wpAny_bind (seqEpoch_at ho2 rfl ?_)
  refine wpAny_bind (listUpdate_at ho2 rfl ?_ (Nat.zero_le _) (by rw[List.size_toArray,hlen];exact Nat.le_succ_of_le h64))
  rw[hf]
  simp only[bne_self_eq_false,Bool.false_eq_true,if_false]
  exact wpAny_pure (hP _ c2 out (fun b o hb e=>(s2.2 b hb).trans (keep b o hb e)) hc2 hO)
 by_cases h2:2≤its.length
 ·have hn2:¬its.toArray.size<2:=by rw[List.size_toArray];omega
  rw[if_neg hn2,if_neg hn2]
  obtain⟨κ,o,same,hk⟩:=hk h2
  obtain⟨k1,k2⟩:=hk h1 keep
  refine wpAny_bind (k1 _ ?_)
  have run:=run_any (E:=E) o same h2 k2 (Q:=fun st' s'=>s'={s with heap:=h1}∧failedOf st'=none∧∃out:List Value,(arrOf st').map (·.2)=List.toArray out∧out.length=its.length∧Outs its c out)
   (fun st' p hf hout hp hs=>⟨rfl,hf,_,hout,by rw[List.length_map,hp.length_eq,List.length_range],p,rfl,hp,hs⟩)
  refine wpAny_bind (wpAny_mono run (fun r s' hr=> ?_) fun _ _ e=>e)
  obtain⟨⟨⟩,st'⟩:=r
  obtain⟨rfl,hf,out,hout,hlen,hO⟩:=hr
  exact fin st' _ hout hf hlen hO
 ·have hn2:its.toArray.size<2:=by rw[List.size_toArray];omega
  rw[if_pos hn2,if_pos hn2]
  refine wpAny_bind (wpAny_pure ?_)
  show wpAny (model prog w) A (do
    let touched:=(←seqEpoch a) !=e1
    Builtin.List.listUpdate (.ref a) fun _=>(arrOf (SortSt.mk' general' (its.toArray.zip its.toArray) #[] 7 none)).map (·.2)
    if let some e:=failedOf (SortSt.mk' general' (its.toArray.zip its.toArray) #[] 7 none)then rule "list.sort.comparison-raised";throw e
    if touched then rule "list.sort.modified";raiseError "ValueError" "list modified during sort"
    ret .none) P E {s with heap:=h1}
  refine fin _ its ?_ rfl rfl ⟨List.range its.length,?_,.refl _,?_⟩
  ·show(its.toArray.zip its.toArray).map (·.2)=its.toArray
   apply Array.toList_inj.mp
   rw[Array.toList_map,Array.toList_zip]
   exact List.map_snd_zip (Nat.le_refl _)
  ·refine List.ext_getElem (by simp) fun i h1 h2=> ?_
   simp[h1]
  ·match its,h2 with
   | [],_=>simp
   | [_],_=>simp
   |_::_::_,h2=>simp at h2
end
end Py
end
section
namespace Py
open PySem PySem.W PySem.Spec PyProof.Rows L2
section
variable {prog:Program}{w:World}{A:Around}{E:Value→Shared→Prop}{s:Shared}
theorem a9c' {b:Bool}{l:Addr}{its:List Value}{c:Nat→Nat→Bool}{Q:Value→Shared→Prop}(hl:IsSq b s.heap l its.toArray)(h64:its.length≤sizeLine)
  (hk:2≤its.length→∃κ:SortKind,SOrd its.length c∧(∀i j,i<its.length→j<its.length→its.getD i Value.none=its.getD j Value.none→rankN its.length c i=rankN its.length c j)∧∀h':Heap,(∀b o,s.heap.get? b=some o→h'.get? b=some o)→
   (∀(E':Value→Shared→Prop) (Q':SortKind→Shared→Prop),Q' κ {s with heap:=h'}→wpAny (model prog w) A.in1.in1 (keyKind' its.toArray) Q' E' {s with heap:=h'})∧
   ∀i j C,i<its.length→j<its.length→C (c i j) {s with heap:=h'}→kas_ask prog w A.in1.in1 κ its i j C {s with heap:=h'})
  (hQ:∀(h1 h':Heap) c2 out,(∀b o,s.heap.get? b=some o→h1.get? b=some o)→(∀b o,h1.get? b=some o→h'.get? b=some o)→h'.get? h1.objs.size=some (seqObj "list" (List.toArray out) c2)→Outs its c out→Q (.ref h1.objs.size) {s with heap:=h'}):
  wpAny (model prog w) A (call (.builtin "sorted") [.ref l]) Q E s:=by
 refine Calls.call_function_entry kind_sorted plain_sorted entry_sorted (args_sorted1 _) ?_
 unfold Builtin.«sorted»
 refine wpAny_bind (m:=checkCount "sorted" 1 1 _) (wpAny_pure ?_)
 have hsz:its.toArray.size≤sizeLine:=by rw[List.size_toArray];exact h64
 have go:∀h1:Heap,(∀b o,s.heap.get? b=some o→h1.get? b=some o)→wpAny (model prog w) A.in1 (do
   let l ←newList its
   let _ ←holding [l] (call (.builtin "list.sort") [l])
   ret l) (fun fin s'=>∃v,fin=.done (.ret v)∧Q v s') E {s with heap:=h1}:=by
  intro h1 k1
  refine wpAny_bind (wpAny_newList ?_ h64)
  have hoL:(h1.push (seqObj "list" its.toArray 0)).get? h1.objs.size=some (seqObj "list" its.toArray 0):=Heap.get?_push_size _ rfl
  refine wpAny_bind (wpAny_holding (wpAny_call_entry slot_list_sort ⟨_,hoL,rfl⟩ entry_list_sort ?body (args_list_sort _)))
  case body=>
   refine a7B' (c:=c) (s:={s with heap:=h1.push (seqObj "list" its.toArray 0)}) hoL h64 (fun h2=> ?_) fun h' c2 out kp e O=> ?_
   ·obtain⟨κ,o,same,hk⟩:=hk h2
    refine⟨κ,o,same,fun h' kp=> ?_⟩
    obtain⟨q1,q2⟩:=hk h' fun b o e=>kp b o (Nat.ne_of_lt (Heap.lt_size (k1 b o e))) (Heap.get?_push_of_some _ (k1 b o e))
    exact⟨q1 _,q2⟩
   ·exact⟨_,rfl,wpAny_pure ⟨_,rfl,hQ h1 h' c2 out k1 (fun b o e=>kp b o (Nat.ne_of_lt (Heap.lt_size e)) (Heap.get?_push_of_some _ e)) e O⟩⟩
 cases b with
 |true=>
  obtain⟨o,ho,hc,n,hd⟩:=hl
  exact wpAny_bind (wpAny_collect_seq l (.inl rfl) ho hc hd (fun h1 k1=>by simpa using go h1 k1) hsz)
 |false=>
  obtain⟨o,ho,hc,n,hd⟩:=hl
  exact wpAny_bind (wpAny_collect_seq l (.inr rfl) ho hc hd (fun h1 k1=>by simpa using go h1 k1) hsz)
end
section
variable {X:Cx}{pins:List (Addr×Obj)}{σ:L2.St}{H:Hp}{s:Shared}{F μ:List Addr}{S:Store}
theorem cmpK (I:Inv X pins σ H s)(sk:SOk X.K ⟨X.mg,F⟩ μ S H){t:KTy}(hs:noStr t=true)(hd:depth t≤40){A:Around}(hu:A.units+40<cLine){d e:D}{v v':V}{u z:Value}(h1:hasTy t d=true)(h2:hasTy t e=true)
  (r1:Rep X.K ⟨X.mg,F⟩ μ H d v) (q1:RelV v u) (r2:Rep X.K ⟨X.mg,F⟩ μ H e v') (q2:RelV v' z):PySem.SeqAt.EqAt A s u z (eqK t d e)∧LtAt A s u z (ltK t d e):=by
 obtain⟨a1,a2⟩:=asK S t hs 40 hd d e h1 h2
 exact⟨(rcF I sk 40 A hu d e v v' u z _ r1 q1 r2 q2 a1).2.2,ltF_at I sk 40 A hu d e v v' u z _ r1 q1 r2 q2 a2⟩
theorem b0C' {prog:Program}{w:World}{A:Around}{Q:Bool→Shared→Prop}{t:KTy}{b:Bool}(hb:b=true→t=.int):∀(ds es:List D) (us zs:List Value) (i:Nat),(∀d∈ds,hasTy t d=true)→(∀e∈es,hasTy t e=true)→ds.length=us.length→es.length=zs.length→
  (∀(j:Nat) d e u z,ds[j]? =some d→es[j]? =some e→us[j]? =some u→zs[j]? =some z→PySem.SeqAt.EqAt A s u z (eqK t d e)∧LtAt A s u z (ltK t d e)∧(t=.int→∃a b ta tb,d=.int a∧e=.int b∧u=.int a ta∧z=.int b tb))→
  Q (lexB (ltK t) ds es) s→KatLex prog w A b (decide (us.length<zs.length)) Q (us.zip zs) i s
 | [],[],us,zs,i,_,_,l1,l2,_,q=>by
  have e1:us=[]:=List.eq_nil_of_length_eq_zero l1.symm
  have e2:zs=[]:=List.eq_nil_of_length_eq_zero l2.symm
  subst e1;subst e2;exact kat_nil q
 | [],e::es,us,zs,i,_,_,l1,l2,_,q=>by
  have e1:us=[]:=List.eq_nil_of_length_eq_zero l1.symm
  subst e1
  have:decide (([]:List Value).length<zs.length)=true:=by simp at l2⊢;omega
  rw[this,List.zip_nil_left];exact kat_nil q
 |d::ds,[],us,zs,i,_,_,l1,l2,_,q=>by
  have e1:zs=[]:=List.eq_nil_of_length_eq_zero l2.symm
  subst e1
  have:decide (us.length<([]:List Value).length)=false:=by simp
  rw[this,List.zip_nil_right];exact kat_nil q
 |d::ds,e::es,[],zs,i,_,_,l1,_,_,_=>by simp at l1
 |d::ds,e::es,_::_,[],i,_,_,_,l2,_,_=>by simp at l2
 |d::ds,e::es,u::us,z::zs,i,h1,h2,l1,l2,h,q=>by
  obtain⟨k1,k2,k3⟩:=h 0 d e u z rfl rfl rfl rfl
  have e0:decide ((u::us).length<(z::zs).length)=decide (us.length<zs.length):=by simp
  rw[e0,List.zip_cons_cons]
  refine kat_cons (k1 prog w _ _ ?_)
  rw[a2i']at q
  have no:∀{k:Bool},ltK t d e=k→eqK t d e=false→Q k s→KatGo prog w A b (decide (us.length<zs.length)) Q u z (us.zip zs) i false s:=fun{k} hk _ qk=>by
   clear q
   refine kat_no ?_
   cases hbi:(b&&i==0)with
   |false=>exact kat_one u z (k2 prog w _ _ (by rw[hk];exact qk))
   |true=>
    simp only[Bool.and_eq_true]at hbi
    obtain⟨a,b',ta,tb,rfl,rfl,rfl,rfl⟩:=k3 (hb hbi.1)
    have ht:=hb hbi.1
    subst ht
    exact oneLt_int (by rw[show decide (a<b')=k from hk];exact qk)
  cases e1:ltK t d e with
  |true=>
   have ee:eqK t d e=false:=by simp[eqK,e1]
   rw[e1]at q
   rw[ee]
   exact no e1 ee (by simpa using q)
  |false=>
   cases e2:ltK t e d with
   |true=>
    have ee:eqK t d e=false:=by simp[eqK,e1,e2]
    rw[e1,e2]at q
    rw[ee]
    exact no e1 ee (by simpa using q)
   |false=>
    have ee:eqK t d e=true:=by simp[eqK,e1,e2]
    rw[e1,e2]at q
    rw[ee]
    refine kat_yes (b0C' hb ds es us zs (i+1) (fun x hx=>h1 x (List.mem_cons_of_mem _ hx)) (fun x hx=>h2 x (List.mem_cons_of_mem _ hx)) (by simpa using l1) (by simpa using l2) (fun j d' e' u' z' a1 a2 a3 a4=>h (j+1) d' e' u' z' a1 a2 a3 a4) (by simpa using q))
end
end Py
end
section
namespace Py
open PySem PySem.W PySem.Spec PyProof.Rows L2
section
variable {prog:Program}{w:World}{A:Around}{E:Value→Shared→Prop}{s:Shared}
theorem a8p' {α β:Type}{M:Model}{f:α→Sem β}{g:α→β}:∀(l:List α) {Q:List β→Shared→Prop},(∀v∈l,∀(Q':β→Shared→Prop),Q' (g v) s→wpAny M A (f v) Q' E s)→Q (l.map g) s→wpAny M A (l.mapM f) Q E s
 | [],_,_,h=>by rw[List.mapM_nil];exact wpAny_pure h
 |x::l,Q,hf,h=>by
  rw[List.mapM_cons]
  exact wpAny_bind (hf x (.head _) _ (wpAny_bind (a8p' l (Q:=fun bs s'=>wpAny M A (pure (g x::bs)) Q E s') (fun v hv=>hf v (.tail _ hv)) (wpAny_pure h))))
theorem one_tup {l b:Addr}{vs ws:List Value}{k:Bool}{Q:Bool→Shared→Prop}(hl:s.heap.IsTuple l vs.toArray)(hb:s.heap.IsTuple b ws.toArray)(hu:A.units<cLine)(hx:LexAt A.in1 s vs ws k)(h:Q k s):wpAny (model prog w) A (oneLt' true (.ref l) (.ref b)) Q E s:=by
 obtain⟨⟨cls,dd,data,sl⟩,ho,hc,n,hd⟩:=id hl
 obtain⟨⟨cls2,dd2,data2,sl2⟩,ho2,hc2,n2,hd2⟩:=id hb
 simp only at hc hd hc2 hd2
 subst hc hd hc2 hd2
 rw[oneLt'_eq]
 simp only[if_true]
 refine wpAny_bind (wpAny_cRoomFor hu ?_)
 refine wpAny_bind (wpAny_callSpecialIfBound?_slot ⟨_,ho,rfl⟩ PySem.F.slot_tuple_lt (call_meets PySem.F.slot_tuple_lt ⟨_,ho,rfl⟩ PySem.F.entry_tuple_lt (PySem.F.args_tuple_lt_2 _ _) (a6p' l b vs.toArray ws.toArray n n2 dd dd2 sl sl2 k) ⟨ho,ho2,by simpa using hx,?_⟩))
 exact wpAny_truthy_bool h
end
end Py
end
section
namespace Py
open PySem PySem.W PySem.Spec PyProof.Rows L2
section
variable {X:Cx}{pins:List (Addr×Obj)}{σ:L2.St}{H:Hp}{s:Shared}{F μ:List Addr}{S:Store}
def tyOf:KTy→String
 | .int=>"int"
 |_=>"tuple"
theorem looksK (I:Inv X pins σ H s){t:KTy}(hs:noStr t=true){d:D}{v:V}{u:Value}(h:hasTy t d=true)(r:Rep X.K ⟨X.mg,F⟩ μ H d v)(q:RelV v u):Looks (model X.prog X.w) s.heap (typeOf u) (.type (tyOf t)):=by
 have tup:∀xs,d=.tup xs→Looks (model X.prog X.w) s.heap (typeOf u) (.type "tuple"):=by
  rintro xs rfl
  obtain⟨a,vs,rfl,hq,_⟩:=a0s' r
  cases q
  obtain⟨its,_,p,_⟩:=I.tuple hq
  obtain⟨o,ho,hc,_⟩:=p
  have:=(show Looks (model X.prog X.w) s.heap (typeOf (.ref a)) o.cls from(Looks.ld ho).andThen .now)
  rwa [hc]at this
 cases t with
 |int=>
  obtain⟨i,rfl⟩:=a2z' h
  cases a0c' r
  obtain⟨tk,rfl⟩:=q
  exact(show Looks (model X.prog X.w) s.heap (typeOf (.int i tk)) (.type "int")from .now)
 |seq t=>obtain⟨xs,rfl,_⟩:=a1R' h;exact tup xs rfl
theorem a6A' (I:Inv X pins σ H s){t:KTy}(hs:noStr t=true):∀(ys:List D) (vs:List V) (its:List Value),(∀d∈ys,hasTy (.seq t) d=true∧d≠.tup [])→RepL X.K ⟨X.mg,F⟩ μ H ys vs→Vals vs its→
  ∃fs,KatTups s.heap its fs∧fs.length=its.length∧∀f∈fs,Looks (model X.prog X.w) s.heap (typeOf f) (.type (tyOf t))
 | [],vs,its,_,r,q=>by
  unfold RepL at r
  subst r
  cases q
  exact⟨[],KatTups.nil,rfl,fun _ h=>nomatch h⟩
 |d::ys,vs,its,h,r,q=>by
  obtain⟨v,ws,rfl,rd,rr⟩:=r.uncons
  cases q with
  |cons q1 q2=>
   rename_i u its'
   obtain⟨fs,k1,k2,k3⟩:=a6A' I hs ys ws its' (fun e he=>h e (List.mem_cons_of_mem _ he)) rr q2
   obtain⟨h1,h2⟩:=h d List.mem_cons_self
   obtain⟨xs,rfl,hx⟩:=a1R' h1
   cases xs with
   |nil=>exact absurd rfl h2
   |cons x xs=>
    obtain⟨a,as,rfl,hq,ra⟩:=a0s' rd
    cases q1
    obtain⟨us,ru,p,_⟩:=I.tuple hq
    obtain⟨w,ws',rfl,rx,_⟩:=ra.uncons
    cases ru with
    |cons p1 p2=>
     rename_i f us'
     obtain⟨o,ho,hc,n,hd⟩:=p
     refine⟨f::fs,KatTups.cons ho hc hd (by simp) k1,by simp[k2],fun g hg=> ?_⟩
     rcases List.mem_cons.mp hg with rfl|hg
     ·exact looksK I hs (hx x List.mem_cons_self) rx p1
     ·exact k3 g hg
theorem askK (I:Inv X pins σ H s)(sk:SOk X.K ⟨X.mg,F⟩ μ S H){t:KTy}(hs:noStr t=true)(hd:depth t≤40){A:Around}(hu:A.units+42<cLine){d e:D}{v v':V}{u z:Value}(h1:hasTy (.seq t) d=true)(h2:hasTy (.seq t) e=true)
  (r1:Rep X.K ⟨X.mg,F⟩ μ H d v) (q1:RelV v u) (r2:Rep X.K ⟨X.mg,F⟩ μ H e v') (q2:RelV v' z) {C:Bool→Shared→Prop} {E:Value→Shared→Prop} (hC:C (ltK (.seq t) d e) s):wpAny (model X.prog X.w) A (keyLt' (tuples' (Value.type (tyOf t) !=Value.type "tuple")) u z) C E s:=by
 obtain⟨xs,rfl,hx⟩:=a1R' h1
 obtain⟨ys,rfl,hy⟩:=a1R' h2
 obtain⟨a,as,rfl,ha,ra⟩:=a0s' r1
 obtain⟨b,bs,rfl,hb,rb⟩:=a0s' r2
 cases q1
 cases q2
 obtain⟨us,ru,pa,_⟩:=I.tuple ha
 obtain⟨zs,rz,pb,_⟩:=I.tuple hb
 obtain⟨oa,ea,_,na,da⟩:=pa
 obtain⟨ob,eb,_,nb,db⟩:=pb
 refine kat_lt ea da eb db ?_
 have l1:xs.length=us.length:=by rw[ra.length,ru.length]
 have l2:ys.length=zs.length:=by rw[rb.length,rz.length]
 have:=b0C' (prog:=X.prog) (w:=X.w) (A:=A) (s:=s) (Q:=C) (t:=t) (b:=(Value.type (tyOf t) !=Value.type "tuple")) (fun hb=> ?_) xs ys us zs 0 hx hy l1 l2 (fun j d e u z g1 g2 g3 g4=> ?_) hC
 ·simpa using this
 ·cases t with
  |int=>rfl
  |seq t=>exact absurd hb (by show ¬((Value.type "tuple" !=Value.type "tuple")=true);decide)
 ·obtain⟨w1,e1,k1⟩:=ra.get g1
  obtain⟨w2,e2,k2⟩:=rb.get g2
  obtain⟨u',e3,k3⟩:=ru.get e1
  obtain⟨z',e4,k4⟩:=rz.get e2
  rw[g3]at e3;cases e3
  rw[g4]at e4;cases e4
  obtain⟨c1,c2⟩:=cmpK I sk hs hd (A:=A) (by omega) (hx d (List.mem_of_getElem? g1)) (hy e (List.mem_of_getElem? g2)) k1 k3 k2 k4
  refine⟨c1,c2,fun ht=> ?_⟩
  subst ht
  obtain⟨i,rfl⟩:=a2z' (hx d (List.mem_of_getElem? g1))
  obtain⟨j,rfl⟩:=a2z' (hy e (List.mem_of_getElem? g2))
  cases a0c' k1
  cases a0c' k2
  obtain⟨ta,rfl⟩:=k3
  obtain⟨tb,rfl⟩:=k4
  exact⟨i,j,ta,tb,rfl,rfl,rfl,rfl⟩
end
section
variable {X:Cx}{pins:List (Addr×Obj)}{σ:L2.St}{H:Hp}{s:Shared}{F μ:List Addr}{S:Store}
theorem b3h' {A:Around}{t:KTy}(hs:noStr t=true):∀(ds es:List D) (us zs:List Value),(∀d∈ds,hasTy t d=true)→(∀e∈es,hasTy t e=true)→ds.length=us.length→es.length=zs.length→(∀(j:Nat) d e u z,ds[j]? =some d→es[j]? =some e→us[j]? =some u→zs[j]? =some z→PySem.SeqAt.EqAt A s u z (eqK t d e)∧LtAt A s u z (ltK t d e))→LexAt A s us zs (lexB (ltK t) ds es)
 | [],[],us,zs,_,_,l1,l2,_=>by
  cases List.eq_nil_of_length_eq_zero l1.symm
  cases List.eq_nil_of_length_eq_zero l2.symm
  exact .nn
 | [],e::es,us,zs,_,_,l1,l2,_=>by
  cases List.eq_nil_of_length_eq_zero l1.symm
  cases zs with
  |nil=>cases l2
  |cons z zs=>exact .nc
 |d::ds,[],us,zs,_,_,l1,l2,_=>by
  cases List.eq_nil_of_length_eq_zero l2.symm
  cases us with
  |nil=>cases l1
  |cons u us=>exact .cn
 |d::ds,e::es,us,zs,h1,h2,l1,l2,hc=>by
  cases us with
  |nil=>cases l1
  |cons u us=>
   cases zs with
   |nil=>cases l2
   |cons z zs=>
    have t1:=h1 d List.mem_cons_self
    have t2:=h2 e List.mem_cons_self
    obtain⟨c1,c2⟩:=hc 0 d e u z rfl rfl rfl rfl
    have lo:=lordK t hs
    cases ek:eqK t d e with
    |true=>
     rw[ek]at c1
     have hde:=b0B' hs t1 t2 ek
     subst hde
     rw[a2i',lo.irr d t1]
     exact .eq c1 (b3h' hs ds es us zs (fun x hx=>h1 x (List.mem_cons_of_mem _ hx)) (fun x hx=>h2 x (List.mem_cons_of_mem _ hx)) (Nat.succ.inj l1) (Nat.succ.inj l2) fun j d e u z g1 g2 g3 g4=>hc (j+1) d e u z g1 g2 g3 g4)
    |false=>
     rw[ek]at c1
     have:lexB (ltK t) (d::ds) (e::es)=ltK t d e:=by
      rw[a2i']
      cases l:ltK t d e with
      |true=>rfl
      |false=>
       cases l':ltK t e d with
       |true=>rfl
       |false=>unfold eqK at ek;rw[l,l']at ek;cases ek
     rw[this]
     exact .lt c1 c2
theorem askK0 (I:Inv X pins σ H s)(sk:SOk X.K ⟨X.mg,F⟩ μ S H){t:KTy}(hs:noStr t=true)(hd:depth t≤40){A:Around}(hu:A.units+42<cLine){d e:D}{v v':V}{u z:Value}(h1:hasTy (.seq t) d=true)(h2:hasTy (.seq t) e=true)
  (r1:Rep X.K ⟨X.mg,F⟩ μ H d v) (q1:RelV v u) (r2:Rep X.K ⟨X.mg,F⟩ μ H e v') (q2:RelV v' z) {C:Bool→Shared→Prop} {E:Value→Shared→Prop} (hC:C (ltK (.seq t) d e) s):wpAny (model X.prog X.w) A (keyLt' oneType' u z) C E s:=by
 obtain⟨xs,rfl,hx⟩:=a1R' h1
 obtain⟨ys,rfl,hy⟩:=a1R' h2
 obtain⟨a,as,rfl,ha,ra⟩:=a0s' r1
 obtain⟨b,bs,rfl,hb,rb⟩:=a0s' r2
 cases q1
 cases q2
 obtain⟨us,ru,pa,_⟩:=I.tuple ha
 obtain⟨zs,rz,pb,_⟩:=I.tuple hb
 have l1:xs.length=us.length:=by rw[ra.length,ru.length]
 have l2:ys.length=zs.length:=by rw[rb.length,rz.length]
 rw[keyLt'_oneType]
 refine one_tup pa pb (by omega) (b3h' hs xs ys us zs hx hy l1 l2 fun j d e u z g1 g2 g3 g4=> ?_) hC
 obtain⟨w1,e1,k1⟩:=ra.get g1
 obtain⟨w2,e2,k2⟩:=rb.get g2
 obtain⟨u',e3,k3⟩:=ru.get e1
 obtain⟨z',e4,k4⟩:=rz.get e2
 rw[g3]at e3;cases e3
 rw[g4]at e4;cases e4
 exact cmpK I sk hs hd (A:=A.in1) (by show A.units+1+40<cLine;omega) (hx d (List.mem_of_getElem? g1)) (hy e (List.mem_of_getElem? g2)) k1 k3 k2 k4
theorem kind0 (I:Inv X pins σ H s){A:Around}{E:Value→Shared→Prop}{t:KTy}{ys:List D}{vs:List V}{its:List Value}(h2:2≤its.length)(hty:∀y∈ys,hasTy (.seq t) y=true)(h0:isNil (ys.headD .non)=true)(rr:RepL X.K ⟨X.mg,F⟩ μ H ys vs)(hv:Vals vs its){Q:SortKind→Shared→Prop}(q:Q oneType' s):wpAny (model X.prog X.w) A (keyKind' its.toArray) Q E s:=by
 have tups:∀(i:Nat) (u:Value),its[i]? =some u→∃a us,u=.ref a∧IsTup s.heap a (List.toArray us)∧(i=0→us=[]):=fun i u hi=>by
  have hi':i<its.length:=(List.getElem?_eq_some_iff.mp hi).1
  have hiy:i<ys.length:=by rw[rr.length,hv.length];exact hi'
  have e1:ys[i]? =some ys[i]:=List.getElem?_eq_getElem hiy
  obtain⟨v,e2,k⟩:=rr.get e1
  obtain⟨u',e3,k2⟩:=hv.get e2
  rw[hi]at e3;cases e3
  obtain⟨xs,ex,_⟩:=a1R' (hty _ (List.getElem_mem hiy))
  rw[ex]at k
  obtain⟨a,as,rfl,ha,ra⟩:=a0s' k
  cases k2
  obtain⟨us,ru,pa,_⟩:=I.tuple ha
  refine⟨a,us,rfl,pa,fun z=> ?_⟩
  subst z
  have:ys.headD .non=.tup xs:=by
   cases ys with
   |nil=>cases e1
   |cons y ys=>exact ex
  rw[this]at h0
  cases xs with
  |nil=>
   have:=ra.length
   rw[ru.length]at this
   exact List.eq_nil_of_length_eq_zero this.symm
  |cons _ _=>cases h0
 have look:∀u∈its,Looks (model X.prog X.w) s.heap (typeOf u) (.type "tuple"):=fun u hu=>by
  obtain⟨i,hi,rfl⟩:=List.mem_iff_getElem.mp hu
  obtain⟨a,us,e,p,_⟩:=tups i _ (List.getElem?_eq_getElem hi)
  rw[e]
  obtain⟨o,ho,hc,_⟩:=p
  have:=(show Looks (model X.prog X.w) s.heap (typeOf (.ref a)) o.cls from(Looks.ld ho).andThen .now)
  rwa [hc]at this
 cases its with
 |nil=>simp at h2
 |cons u0 its=>
 obtain⟨a0,us0,rfl,p0,z0⟩:=tups 0 u0 rfl
 cases z0 rfl
 have fo:∀u∈Value.ref a0::its,∃o,(∀(Q':Option Value→Shared→Prop),Q' o s→wpAny (model X.prog X.w) A (firstOfTuple' u) Q' E s)∧(u=.ref a0→o=none):=fun u hu=>by
  obtain⟨i,hi,rfl⟩:=List.mem_iff_getElem.mp hu
  obtain⟨a,us,e,p,_⟩:=tups i _ (List.getElem?_eq_getElem hi)
  have pp:=id p
  obtain⟨o,ho,hc,n,hd⟩:=p
  refine⟨us[0]?,fun Q' hq=> ?_,fun z=> ?_⟩
  ·rw[e,kas_first_eq]
   refine wpAny_bind (Looks.here (show Looks (model X.prog X.w) s.heap (typeOf (.ref a)) o.cls from(Looks.ld ho).andThen .now) ?_)
   rw[hc,if_neg (by first|decide|simp)]
   refine wpAny_bind (listItems_at ho hd (wpAny_pure ?_))
   simpa using hq
  ·rw[e]at z
   cases z
   obtain⟨o',ho',hc',n',hd'⟩:=p0
   rw[ho]at ho'
   cases ho'
   rw[hd]at hd'
   cases hd'
   rfl
 have fo':∀u∈Value.ref a0::its,∀(Q':Option Value→Shared→Prop),Q' (open Classical in if h:u∈Value.ref a0::its then(fo u h).choose else none) s→wpAny (model X.prog X.w) A (firstOfTuple' u) Q' E s:=fun u hu Q' hq=>by
  rw[dif_pos hu]at hq
  exact(fo u hu).choose_spec.1 Q' hq
 have g0:(open Classical in if h:Value.ref a0∈Value.ref a0::its then(fo _ h).choose else none)=none:=by
  rw[dif_pos List.mem_cons_self]
  exact(fo _ List.mem_cons_self).choose_spec.2 rfl
 rw[keyKind'_eq,List.mapM_toArray,map_eq_pure_bind]
 refine wpAny_bind (wpAny_bind (a8p' _ fo' (wpAny_pure ?_)))
 rw[List.map_cons,g0,if_neg (by simp),if_neg (by simp),oneTypeOnly'_eq,List.mapM_toArray,map_eq_pure_bind]
 refine wpAny_bind (wpAny_bind (wpAny_bind (kas_mapM (r:=.type "tuple") _ (fun v hv Q' hq=>(look v hv).here hq) (wpAny_pure ?_))))
 have hall:((List.map (fun _=>Value.type "tuple") (Value.ref a0::its)).toArray.all fun x=>x==Value.type "tuple")=true:=by
  simp only[List.all_toArray,List.all_map,List.all_eq_true]
  intro _ _
  exact beq_self_eq_true _
 have h0:(List.map (fun _=>Value.type "tuple") (Value.ref a0::its)).toArray[0]? =some (Value.type "tuple"):=by simp
 rw[h0]
 simp only[hall,if_true]
 exact wpAny_pure (wpAny_pure q)
end
section
variable {X:Cx}
theorem b4B' (hu:X.A.units+64<cLine)(box:Bool)(t:KTy)(hdt:depth t≤40):CallR X (.builtin "sorted") (rC X.K X.mg (a2K' box t)):=by
 intro pins s σ H xs us Q I r h
 obtain⟨F,μ,S,ds,sk,rl,w⟩:=h
 unfold a2K' at w
 split at w
 ·rename_i d
  obtain⟨v,rfl,rd⟩:=rl.one
  obtain⟨u,rfl,ru⟩:=vals1 r
  split at w
  ·rename_i ys e
   split at w
   ·rename_i hc
    obtain⟨hty,h64,hso⟩:=hc
    have hty':∀y∈ys,hasTy t y=true:=fun y hy=>List.all_eq_true.mp hty y hy
    obtain⟨a,vs,rfl,hq,rr⟩:=a3Y' sk rd e
    cases ru
    obtain⟨b,its,hl,hv⟩:∃b its,IsSq b s.heap a (List.toArray its)∧Vals vs its:=by
     rcases hq with hq|hq
     ·obtain⟨its,r',p,_⟩:=I.list hq;exact⟨true,its,p.isList,r'⟩
     ·obtain⟨its,r',p,_⟩:=I.tuple hq;exact⟨false,its,p,r'⟩
    have l1:ys.length=vs.length:=rr.length
    have l2:vs.length=its.length:=hv.length
    have hs:noStr t=true:=by
     cases t with
     |int=>rfl
     |seq t=>unfold a4a' at hso;simp only[Bool.and_eq_true]at hso;exact hso.1
    have lo:=lordK t hs
    have at_:∀i,i<its.length→∃d v u,ys[i]? =some d∧vs[i]? =some v∧its[i]? =some u∧hasTy t d=true∧Rep X.K ⟨X.mg,F⟩ μ H d v∧RelV v u∧ys.getD i .non=d∧its.getD i Value.none=u:=fun i hi=>by
     have e1:ys[i]? =some ys[i]:=List.getElem?_eq_getElem (by omega)
     obtain⟨v,e2,k⟩:=rr.get e1
     obtain⟨u,e3,k2⟩:=hv.get e2
     exact⟨_,v,u,e1,e2,e3,hty' _ (List.getElem_mem _),k,k2,by simp[List.getD,e1],by simp[List.getD,e3]⟩
    have ord:SOrd its.length (fun i j=>ltK t (ys.getD i .non) (ys.getD j .non)):=by
     have ty:∀i,i<its.length→hasTy t (ys.getD i .non)=true:=fun i hi=>by
      obtain⟨d,v,u,e1,e2,e3,k1,k2,k3,k4,k5⟩:=at_ i hi
      rw[k4];exact k1
     exact⟨fun i hi=>lo.irr _ (ty i hi),fun i j hi hj=>lo.asym _ _ (ty i hi) (ty j hj),fun i j k hi hj hk=>lo.ntr _ _ _ (ty i hi) (ty j hj) (ty k hk)⟩
    have same:∀i j,i<its.length→j<its.length→its.getD i Value.none=its.getD j Value.none→rankN its.length (fun i j=>ltK t (ys.getD i .non) (ys.getD j .non)) i=rankN its.length (fun i j=>ltK t (ys.getD i .non) (ys.getD j .non)) j:=fun i j hi hj hij=>by
     obtain⟨d,v,u,e1,e2,e3,g1,g2,g3,g4,g5⟩:=at_ i hi
     obtain⟨d',v',u',e1',e2',e3',g1',g2',g3',g4',g5'⟩:=at_ j hj
     rw[g5,g5']at hij
     subst hij
     have ev:v=v':=g3.inj g3'
     subst ev
     have:=b2S' I sk 40 d d' v _ g2 g2' (asK S t hs 40 hdt d d' g1 g1').1
     have hde:=b0B' hs g1 g1' this
     subst hde
     unfold rankN
     simp only[g4,g4']
    refine a9c' (c:=fun i j=>ltK t (ys.getD i .non) (ys.getD j .non)) hl (by rw[sizeLine_eq];omega) (fun h2=> ?_) fun h1 h' c2 out k1 k2 eo O=> ?_
    ·have hu2:(X.A.in1.in1).units+42<cLine:=by
      show X.A.units+1+1+42<cLine
      omega
     cases t with
     |int=>
      refine⟨oneType',ord,same,fun h' kp=>⟨fun E' Q' q=> ?_,fun i j C hi hj hC=> ?_⟩⟩
      ·have I':Inv X pins σ H {s with heap:=h'}:=I.kept (t':=s.toks) kp
       refine kas_kind (T:=.type "int") h2 (fun u hu=> ?_) (by decide) (by decide) q
       obtain⟨i,hi,rfl⟩:=List.mem_iff_getElem.mp hu
       obtain⟨d,v,u,e1,e2,e3,g1,g2,g3,g4,g5⟩:=at_ i hi
       rw[List.getElem?_eq_getElem hi]at e3
       cases e3
       exact looksK (t:=.int) I' rfl g1 g2 g3
      ·obtain⟨d,v,u,e1,e2,e3,g1,g2,g3,g4,g5⟩:=at_ i hi
       obtain⟨d',v',u',e1',e2',e3',g1',g2',g3',g4',g5'⟩:=at_ j hj
       unfold kas_ask
       rw[g5,g5']
       rw[g4,g4']at hC
       obtain⟨x,rfl⟩:=a2z' g1
       obtain⟨y,rfl⟩:=a2z' g1'
       cases a0c' g2
       cases a0c' g2'
       obtain⟨ta,rfl⟩:=g3
       obtain⟨tb,rfl⟩:=g3'
       exact kat_lt_int hC
     |seq t=>
      unfold a4a' at hso
      have hso2:=(Bool.and_eq_true_iff.mp hso).2
      rcases Bool.or_eq_true_iff.mp hso2 with hso3|hso3
      rotate_left
      ·refine⟨oneType',ord,same,fun h' kp=>⟨fun E' Q' q=> ?_,fun i j C hi hj hC=> ?_⟩⟩
       ·have I':Inv X pins σ H {s with heap:=h'}:=I.kept (t':=s.toks) kp
        exact kind0 I' h2 hty' hso3 rr hv q
       ·have I':Inv X pins σ H {s with heap:=h'}:=I.kept (t':=s.toks) kp
        obtain⟨d,v,u,e1,e2,e3,g1,g2,g3,g4,g5⟩:=at_ i hi
        obtain⟨d',v',u',e1',e2',e3',g1',g2',g3',g4',g5'⟩:=at_ j hj
        unfold kas_ask
        rw[g5,g5']
        rw[g4,g4']at hC
        exact askK0 (t:=t) I' sk hs (by simp[depth]at hdt;omega) hu2 g1 g1' g2 g3 g2' g3' hC
      have hne:∀y∈ys,hasTy (.seq t) y=true∧y≠.tup []:=fun y hy=>⟨hty' y hy,fun z=>by
       have:=List.all_eq_true.mp hso3 y hy
       rw[z]at this
       cases this⟩
      refine⟨tuples' (Value.type (tyOf t) !=Value.type "tuple"),ord,same,fun h' kp=>⟨fun E' Q' q=> ?_,fun i j C hi hj hC=> ?_⟩⟩
      ·have I':Inv X pins σ H {s with heap:=h'}:=I.kept (t':=s.toks) kp
       obtain⟨fs,f1,f2,f3⟩:=a6A' (t:=t) I' hs ys vs its hne rr hv
       exact kat_kind (T:=.type (tyOf t)) f1 (by omega) f3 (by simp) q
      ·have I':Inv X pins σ H {s with heap:=h'}:=I.kept (t':=s.toks) kp
       obtain⟨d,v,u,e1,e2,e3,g1,g2,g3,g4,g5⟩:=at_ i hi
       obtain⟨d',v',u',e1',e2',e3',g1',g2',g3',g4',g5'⟩:=at_ j hj
       unfold kas_ask
       rw[g5,g5']
       rw[g4,g4']at hC
       exact askK (t:=t) I' sk hs (by simp[depth]at hdt;omega) hu2 g1 g1' g2 g3 g2' g3' hC
    ·obtain⟨p,rfl,pp,pw⟩:=O
     have hp:∀i∈p,i<its.length:=fun i hi=>by simpa using pp.mem_iff.mp hi
     have hlen:p.length=its.length:=by rw[pp.length_eq];simp
     have fin:RepL X.K ⟨X.mg,F⟩ μ H (p.map fun i=>ys.getD i .non) (p.map fun i=>vs.getD i .non):=RepL.of (by simp) fun j d v h1 h2=>by
      rw[List.getElem?_map]at h1 h2
      cases ej:p[j]? with
      |none=>rw[ej]at h1;cases h1
      |some i=>
       rw[ej]at h1 h2
       obtain⟨d',v',u',e1',e2',e3',g1',g2',g3',g4',g5'⟩:=at_ i (hp i (List.mem_of_getElem? ej))
       cases h1
       cases h2
       show Rep X.K ⟨X.mg,F⟩ μ H (ys.getD i .non) (vs.getD i .non)
       rw[g4']
       have:vs.getD i .non=v':=by simp[List.getD,e2']
       rw[this];exact g2'
     have fin2:Vals (p.map fun i=>vs.getD i .non) (p.map fun i=>its.getD i Value.none):=by
      have:∀(l:List Nat),(∀i∈l,i<its.length)→Vals (l.map fun i=>vs.getD i .non) (l.map fun i=>its.getD i Value.none):=by
       intro l
       induction l with
       |nil=>exact fun _=>.nil
       |cons i l ih=>
        intro h
        obtain⟨d',v',u',e1',e2',e3',g1',g2',g3',g4',g5'⟩:=at_ i (h i List.mem_cons_self)
        refine .cons ?_ (ih fun j hj=>h j (List.mem_cons_of_mem _ hj))
        have:vs.getD i .non=v':=by simp[List.getD,e2']
        show RelV (vs.getD i .non) (its.getD i Value.none)
        rw[this,g5'];exact g3'
      exact this p hp
     have srt:(p.map fun i=>ys.getD i .non)=a4J' (ltK t) ys:=by
      refine a4e' hs hty' ?_ ?_
      ·have:=pp.map fun i=>ys.getD i .non
       refine this.trans (.of_eq ?_)
       refine List.ext_getElem (by simp;omega) fun i h1 h2=> ?_
       simp[h2]
      ·rw[List.pairwise_map]
       exact pw
     rw[←srt]at w
     have I1:Inv X pins σ H {s with heap:=h1}:=I.kept (t':=s.toks) k1
     have I2:Inv X pins σ (upd H h1.objs.size (.lst (p.map fun i=>vs.getD i .non))) {s with heap:=h'}:=I1.laid (t':=s.toks) k2 (Nat.le_refl _) ⟨by rw[List.length_map,hlen,sizeLine_eq];omega,_,c2,fin2,eo⟩
     have hfr:H h1.objs.size=none:=I1.hok.fresh (Nat.le_refl _)
     refine⟨.ref h1.objs.size,_,I2,rfl,?_⟩
     cases box with
     |true=>exact Want.box w sk fin _ hfr
     |false=>exact Want.lst w sk fin _ hfr
   ·exact w.elim
  ·exact w.elim
 ·exact w.elim
end
end Py
end
section
namespace Py
open PySem PySem.Spec PyProof.Rows L2
section
variable {X:Cx}{E:XK}{CX:CXT}{Φ:FT}{Γ:Str→Option D}{N:List Str}{sc:Sc}{k:Nat}{cell:Str→Bool}
theorem blt_ok (O:XOk X cell N sc CX E Φ Γ k)(b:Blt)(hb:bltB b=true):CallR X (bltIs b) (rC X.K X.mg (bltD b)):=by
 cases b with
 |len=>exact len_D
 |tuple=>exact tuple_D
 |list box=>exact list_D box
 |int=>exact int_D
 |min=>cases hb
 |max=>exact max_any O.calm
 |isinst=>exact b3U'
 |all=>exact all_D O.calm
 |any=>cases hb
 |sum=>cases hb
 |repr=>cases hb
 |abs=>cases hb
 |sorted box t=>exact b4B' O.room.units box t (by unfold bltB at hb;simpa using hb)
theorem a3g':∀{l:List Str},a8S' l=true→l.Nodup
 | [],_=>List.nodup_nil
 |x::r,h=>by
  unfold a8S' at h
  simp only[Bool.and_eq_true,Bool.not_eq_true',List.contains_eq_mem,decide_eq_false_iff_not]at h
  exact List.nodup_cons.mpr ⟨h.1,a3g' h.2⟩
theorem b0D' (O:XOk X cell N sc CX E Φ Γ k){scope:Scope}(h:scB scope sc=true):CScope X scope:=by
 unfold scB at h
 simp only[Bool.and_eq_true,beq_iff_eq]at h
 obtain⟨h1,h2⟩:=h
 have key:∀y∈scope.names,((y.2 !=NameKind.cell||scope.names.lookup y.1==some .cell)&&(y.2 !=.local||scope.names.lookup y.1==some .local)&&(y.2 !=.free||(sc.lookup y.1==some .cell||sc.lookup y.1==some .free)))=true:=fun y hy=>List.all_eq_true.mp h2 y hy
 refine⟨h1,fun y hy z=> ?_,fun y hy z=> ?_,fun y hy z=> ?_⟩
 ·have:=key y hy
  rw[z]at this
  simp at this
  exact this
 ·have:=key y hy
  rw[z]at this
  simp at this
  exact this
 ·have:=key y hy
  rw[z]at this
  simp at this
  show X.env.scope.names.lookup y.1=_∨X.env.scope.names.lookup y.1=_
  rw[O.sc]
  exact this
theorem b0E' (O:XOk X cell N sc CX E Φ Γ k){scope:Scope}{N':List Str}{fr:List (Option Nat)}(h:frB scope.names N' N fr=true):CsOk X scope N' (csOf fr):=by
 unfold frB at h
 simp only[Bool.and_eq_true,beq_iff_eq]at h
 obtain⟨h1,h2⟩:=h
 intro σ hl
 refine⟨by simp[csOf,h1],fun i v x hx hv=> ?_⟩
 have hi:i<N'.length:=(List.getElem?_eq_some_iff.mp hx).1
 have:=List.all_eq_true.mp h2 i (List.mem_range.mpr hi)
 unfold csOf at hv
 rw[List.getElem?_map]at hv
 cases e:fr[i]? with
 |none=>rw[e]at hv;cases hv
 |some o=>
  rw[e]at hv
  cases o with
  |none=>cases hv
  |some j=>
   rw[e]at this
   simp only[hx,Bool.and_eq_true,beq_iff_eq]at this
   have hv':(σ[j]?).join=some v:=Option.some.inj hv
   refine⟨this.1,j,by rw[O.n];exact this.2,?_⟩
   cases e2:σ[j]? with
   |none=>rw[e2]at hv';cases hv'
   |some o=>rw[e2]at hv';have e3:o=some v:=hv';rw[e3]
theorem relB_eq (O:XOk X cell N sc CX E Φ Γ k){scope:Scope}:(relabel scope X.env).names=relB scope.names sc:=by
 unfold relabel relB
 show scope.names.map _=scope.names.map _
 congr 1
 funext p
 obtain⟨n,kd⟩:=p
 have e1:X.env.kindOf n=sc.lookup n:=by show X.env.scope.names.lookup n=_;rw[O.sc]
 simp only[e1,O.kd,beq_self_eq_true,Bool.and_true]
theorem b0F' (O:XOk X cell N sc CX E Φ Γ k){scope:Scope}{N':List Str}(hs:scope.kind=.function)(hn:a8S' N'=true)(C:Addr)(s0:Shared)(H0:Hp)(fp:List Addr):XOk (cxC X scope N' C s0 H0 fp) (ownB scope.names) N' (relB scope.names sc) CX E0 Φ Γ k where
 n:=rfl
 nd:=a3g' hn
 sc:=relB_eq O
 kd:=hs
 calm:=O.calm
 room:=O.room
 fn:=fun x z=>z
 mod:=O.mod
 pass:=fun _ _ _ _ _ _ _ z=>O.cx0 _ _ _ _ _ z
 cx0:=O.cx0
theorem a2j' {i:Expr}{env:Env}(h:b1R' i=true):∀x,foldedSetIterable i env x=pure x:=by
 intro x
 cases i<;>first|rfl|cases h
theorem t_val {e:Expr}{c:CE}(ha:PE X e (tE X.K X.mg E Φ Γ c))(he:∀whole,isTrue e X.env whole=(do let v ←whole;standAt e.pos;holding [v] (truthy v))){σ:L2.St}:
  PT X e (fun σ H Q=>∃F μ ρ S,SOk X.K ⟨X.mg,F⟩ μ S H∧EnvR X.K ⟨X.mg,F⟩ μ H ρ σ∧WantG X.K ⟨X.mg,F⟩ E (fun _ _ a b=>a=b) μ H Q ((den Φ Γ c ρ S).bind fun d S1=>match truD S1 d with|some k=>.ok k S1|none=>.fail)):=
 weakT (b3I' ha he) fun σ H Q zz=>ex43 zz fun F μ ρ S sk en w=>⟨F,μ,ρ,S,sk,en,(WantG.bind w).mono fun v H1 zz=>ex34 zz fun μ1 S1 d x1 s1 r1 w1=>by
  obtain⟨k,e,w2⟩:=b0c' w1
  exact⟨k,tru_D s1 r1 e,w2 μ1 H1 k .refl s1 rfl⟩⟩
theorem b4C' (O:XOk X cell N sc CX E Φ Γ k){z:Expr}{a:CE}{p1 p2 p3 p4:Pos}(h1:gloB sc "len"=true)(h2:gloB sc "set"=true)(hn:a0J' z=true)(ha:PE X z (tE X.K X.mg E Φ Γ a)):PE X (.Call (.Name "len" p1) [.Call (.Name "set" p2) [z] [] p3] [] p4) (tE X.K X.mg E Φ Γ (.lenset a)):=
 weakE (b2g' O.calm (O.gl (a0F' h1).1) (O.gl (a0F' h2).1) (O.mod.bl _ (by decide+kernel)) (O.mod.bl _ (by decide+kernel)) hn ha) fun σ H Q zz=>ex43 zz fun F μ ρ S sk en w=>
  ⟨F,μ,ρ,S,sk,en,(WantG.bind w).mono fun v H1 zz=>ex34 zz fun μ1 S1 d x1 s1 r1 w1=>b4v' s1 r1 (a1p' w1)⟩
end
end Py
end
section
namespace Py
open PySem PySem.Spec PyProof.Rows L2
theorem tT_fail {X:Cx}{E:XK}{Φ:FT}{Γ:Str→Option D}{c:CE}{e:Expr}(h:∀ρ S,denT Φ Γ c ρ S=.fail):PW X e (tT X.K X.mg E Φ Γ c):=fun wh pins s σ H Q I zz=>ex43 zz fun F μ ρ S sk en w=>by rw[h]at w;exact w.elim
theorem b4D' {α:Type}{l:List α}{d:Nat}{x:α}{r:List α}(h:l.drop d=x::r):l[d]? =some x:=by
 have:=congrArg (fun l=>l[0]?) h
 simpa using this
theorem b2k' {α:Type}{l:List α}{d:Nat}(h:l.drop d=[]):l[d]? =none:=by
 have:=congrArg (fun l=>l[0]?) h
 simpa using this
theorem b2l' {α:Type}{l:List α}{d:Nat}{x:α}{r:List α}(h:l.drop d=x::r):l.drop (d+1)=r:=by
 have:(l.drop d).drop 1=r:=by rw[h];rfl
 rwa [List.drop_drop]at this
section
variable {X:Cx}{E:XK}{Φ:FT}{Γ:Str→Option D}{a b:CE}{l x y:Expr}{pos:Pos}{n:Bool}
theorem em_and (ha:PE X l (tE X.K X.mg E Φ Γ a))(h1:n=true→PE X x (tE X.K X.mg E Φ Γ b))(h2:n=false→∃r rest,y=.BoolOp .And (r::rest) pos∧PE X y (tE X.K X.mg E Φ Γ b)):PE X (.BoolOp .And (l::cond n [x] (vw y).es) pos) (tE X.K X.mg E Φ Γ (.band a b)):=by
 cases n with
 |true=>exact s_and ha (pe_one (h1 rfl))
 |false=>
  obtain⟨r,rest,rfl,q⟩:=h2 rfl
  exact s_and ha q
theorem em_or (ha:PE X l (tE X.K X.mg E Φ Γ a))(h1:n=true→PE X x (tE X.K X.mg E Φ Γ b))(h2:n=false→∃r rest,y=.BoolOp .Or (r::rest) pos∧PE X y (tE X.K X.mg E Φ Γ b)):PE X (.BoolOp .Or (l::cond n [x] (vw y).es) pos) (tE X.K X.mg E Φ Γ (.bor a b)):=by
 cases n with
 |true=>exact s_or ha (pe_one (h1 rfl))
 |false=>
  obtain⟨r,rest,rfl,q⟩:=h2 rfl
  exact s_or ha q
theorem b3i' (ha:PT X l (tT X.K X.mg E Φ Γ a))(h1:n=true→PT X x (tT X.K X.mg E Φ Γ b))(h2:n=false→∃r rest,y=.BoolOp .And (r::rest) pos∧PW X y (tT X.K X.mg E Φ Γ b)):PW X (.BoolOp .And (l::cond n [x] (vw y).es) pos) (tT X.K X.mg E Φ Γ (.band a b)):=by
 cases n with
 |true=>exact t_and ha (pw_and1 (h1 rfl))
 |false=>
  obtain⟨r,rest,rfl,q⟩:=h2 rfl
  exact t_and ha q
theorem em_orT (ha:PT X l (tT X.K X.mg E Φ Γ a))(h1:n=true→PT X x (tT X.K X.mg E Φ Γ b))(h2:n=false→∃r rest,y=.BoolOp .Or (r::rest) pos∧PW X y (tT X.K X.mg E Φ Γ b)):PW X (.BoolOp .Or (l::cond n [x] (vw y).es) pos) (tT X.K X.mg E Φ Γ (.bor a b)):=by
 cases n with
 |true=>exact t_or ha (pw_or1 (h1 rfl))
 |false=>
  obtain⟨r,rest,rfl,q⟩:=h2 rfl
  exact t_or ha q
theorem b0G' {N:List Str}{es:List Expr}(h:b4d' b=true):∃r rest,emE b N (.BoolOp .And es pos)=.BoolOp .And (r::rest) pos:=by
 cases b<;>first|exact⟨_,_,rfl⟩|cases h
theorem b4E' {N:List Str}{es:List Expr}(h:isBor b=true):∃r rest,emE b N (.BoolOp .Or es pos)=.BoolOp .Or (r::rest) pos:=by
 cases b<;>first|exact⟨_,_,rfl⟩|cases h
theorem a6B' {N:List Str}{tg:CT}{e:Expr}(h:b1S' tg=true):isTup (emT tg N e)=true:=by
 cases tg with
 |var i=>cases h
 |tup ts=>rfl
theorem cond1 {a b:Bool}(h:cond n a b=true)(z:n=true):a=true:=by rw[z]at h;exact h
theorem cond2 {a b:Bool}(h:cond n a b=true)(z:n=false):b=true:=by rw[z]at h;exact h
end
mutual
theorem a0o' (c:CE):∀{X:Cx} {cell:Str→Bool} {N:List Str} {sc:Sc} {CX:CXT} {E:XK} {Φ:FT} {Γ:Str→Option D} {k:Nat} {e:Expr},XOk X cell N sc CX E Φ Γ k→sdE c N sc e=true→PE X (emE c N e) (tE X.K X.mg E Φ Γ c):=by
 intro X cell N sc CX E Φ Γ k e O h
 cases c with
 |var i=>exact s_var O (andB h).1 (andB (andB h).2).1 (andB (andB h).2).2
 |dct=>exact s_dct
 |rev a b=>cases h
 |lit d=>exact s_lit h
 |glob y=>exact s_glob O h
 |ty n=>exact s_ty O (andB h).1 (andB h).2
 |bin op a b=>exact s_bin (a0o' a O (andB h).1) (a0o' b O (andB h).2)
 |binB a b=>exact s_binB (a0o' a O (andB h).1) (a0o' b O (andB h).2)
 |neg a=>exact s_neg (a0o' a O h)
 |cmp op a b=>exact s_cmp O.room.units (a0o' a O (andB h).1) (a0o' b O (andB (andB h).2).1) (notB (andB (andB h).2).2)
 |chain op op' a b c=>exact s_chain O.room.units (a0o' a O (andB h).1) (a0o' b O (andB (andB h).2).1) (a0o' c O (andB (andB (andB h).2).2).1) (notB (andB (andB (andB h).2).2).2)
 |band a b=>
  exact em_and (a0o' a O (andB h).1) (fun z=>a0o' b O (cond1 (andB h).2 z)) fun z=>by
   obtain⟨r,rest,q⟩:=b0G' (pos:=(vw e).pos) (N:=N) (es:=(vw e).es.tail) (andB (cond2 (andB h).2 z)).1
   exact⟨r,rest,q,a0o' b O (andB (cond2 (andB h).2 z)).2⟩
 |bor a b=>
  exact em_or (a0o' a O (andB h).1) (fun z=>a0o' b O (cond1 (andB h).2 z)) fun z=>by
   obtain⟨r,rest,q⟩:=b4E' (pos:=(vw e).pos) (N:=N) (es:=(vw e).es.tail) (andB (cond2 (andB h).2 z)).1
   exact⟨r,rest,q,a0o' b O (andB (cond2 (andB h).2 z)).2⟩
 |bnot a=>exact s_not (a0o' a O h)
 |ite c a b=>exact s_ite (a3h' c O (andB h).1) (a0o' a O (andB (andB h).2).1) (a0o' b O (andB (andB h).2).2)
 |tup es=>exact s_tup (decB (andB h).2) (a3E' es O (andB h).1)
 |lst box es=>exact s_lst (decB (andB h).2) (a3E' es O (andB h).1)
 |idx a b=>exact s_idx (andB (andB h).2).2 (a0o' a O (andB h).1) (a0o' b O (andB (andB h).2).1)
 |sl a lo hi=>exact s_sl (a0o' a O (andB h).1) (soundP lo O (andB (andB h).2).1 (decB (andB (andB (andB (andB h).2).2).2).1)) (soundP hi O (andB (andB (andB h).2).2).1 (decB (andB (andB (andB (andB h).2).2).2).2))
 |call f es=>
  have hL:=a3E' es O (andB (andB h).2).1
  cases es with
  |nil=>cases(andB (andB h).2).2
  |cons c cs=>exact s_call O (andB h).1 (a1l' (cs:=c::cs) (andB (andB h).2).1) hL
 |blt b es=>
  have hL:=a3E' es O (andB (andB h).2).1
  cases es with
  |nil=>cases(andB (andB (andB h).2).2).1
  |cons c cs=>exact s_blt O (blt_ok O b (andB (andB (andB h).2).2).2) (andB h).1 (a1l' (cs:=c::cs) (andB (andB h).2).1) hL
 |meth m o es=>
  have h4:=(andB (andB (andB (andB h).2).2).2).1
  exact s_meth (andB h).1 (andB (andB h).2).1 (a1l' h4) (by rw[b0d'];exact decB (andB (andB (andB (andB h).2).2).2).2) b0d'.symm (a0o' o O (andB (andB (andB h).2).2).1) (a3E' es O h4)
 |lenset a=>exact b4C' O (andB h).1 (andB (andB h).2).1 (andB (andB (andB h).2).2).2 (a0o' a O (andB (andB (andB h).2).2).1)
 |rng=>cases h
 |comp box N' fr tg it ifs body=>
  obtain⟨h1,h⟩:=andB h
  obtain⟨h2,h⟩:=andB h
  obtain⟨h3,h⟩:=andB h
  obtain⟨h4,h⟩:=andB h
  obtain⟨h5,h⟩:=andB h
  obtain⟨h6,h⟩:=andB h
  obtain⟨h7,h8⟩:=andB h
  have sc1:=b0D' O h1
  refine weakE (pe_comp (N:=N') (g:=gCT X.K tg) (tb:=tC X.K X.mg Φ Γ ifs body) O.calm sc1 (b0E' O h2) (b2n' it O h5 a6B') (fun acc env=>a6u' _ env>>=fun ok=>if ok=true then cRest _ (_::_) _ _ 0 (.ref acc) env else pure ())
   (fun it acc env=>a3f' rfl) (fun C s0 H0 fp acc=> ?_) (a2j' h6)) fun σ H Q q=>c_comp (tg0:=emT tg N' ((vw e).gs.headD dG).target) q
  have O':=b0F' O sc1.kind h3 C s0 H0 fp
  exact⟨g_pg O' h4,b4s' (a8q' ifs O' h7) (b4F' body O' rfl rfl h8)⟩
 |emit e=>cases h
 |inner a b c d=>cases h
 |seq a=>cases h
 |range a=>cases h
 |zip a=>cases h
 |enum a=>cases h
 |revl a=>cases h
 |down a=>cases h
theorem a3h' (c:CE):∀{X:Cx} {cell:Str→Bool} {N:List Str} {sc:Sc} {CX:CXT} {E:XK} {Φ:FT} {Γ:Str→Option D} {k:Nat} {e:Expr},XOk X cell N sc CX E Φ Γ k→sdE c N sc e=true→PT X (emE c N e) (tT X.K X.mg E Φ Γ c):=by
 intro X cell N sc CX E Φ Γ k e O h
 cases c with
 |var i=>
  refine weakT (t_val (σ:=[]) (s_var O (andB h).1 (andB (andB h).2).1 (andB (andB h).2).2) fun _=>rfl) fun σ H Q zz=>ex43 zz fun F μ ρ S sk en w=>⟨F,μ,ρ,S,sk,en,?_⟩
  cases e1:ρ[i]? with
  |none=>simp only[denT,e1]at w;exact w.elim
  |some o=>
   cases o with
   |none=>simp only[denT,e1]at w;exact w.elim
   |some d=>
    simp only[denT,e1]at w
    simp only[den,e1]
    exact w
 |lit d=>exact weakT (t_val (Φ:=Φ) (Γ:=Γ) (σ:=[]) (s_lit h) fun _=>rfl) fun σ H Q zz=>ex43 zz fun F μ ρ S sk en w=>⟨F,μ,ρ,S,sk,en,w⟩
 |call f es=>
  have hL:=a3E' es O (andB (andB h).2).1
  cases es with
  |nil=>cases(andB (andB h).2).2
  |cons c cs=>
   refine weakT (t_val (σ:=[]) (s_call O (andB h).1 (a1l' (cs:=c::cs) (andB (andB h).2).1) hL) fun _=>rfl) fun σ H Q zz=>ex43 zz fun F μ ρ S sk en w=>⟨F,μ,ρ,S,sk,en,?_⟩
   simp only[denT]at w
   simp only[den]
   cases e1:Φ f with
   |none=>rw[e1]at w;exact w
   |some φ=>
    rw[e1]at w
    show WantG _ _ _ _ _ _ _ (((denL Φ Γ (c::cs) ρ S).bind fun ds S1=>φ ds S1).bind _)
    cases e2:denL Φ Γ (c::cs) ρ S with
    |ok ds S1=>rw[e2]at w;exact w
    |err y S1=>rw[e2]at w;exact w
    |fail=>rw[e2]at w;exact w
 |blt b es=>
  have hL:=a3E' es O (andB (andB h).2).1
  cases es with
  |nil=>cases(andB (andB (andB h).2).2).1
  |cons c cs=>
   refine weakT (t_val (σ:=[]) (s_blt O (blt_ok O b (andB (andB (andB h).2).2).2) (andB h).1 (a1l' (cs:=c::cs) (andB (andB h).2).1) hL) fun _=>rfl) fun σ H Q zz=>ex43 zz fun F μ ρ S sk en w=>⟨F,μ,ρ,S,sk,en,?_⟩
   simp only[denT]at w
   simp only[den]
   cases e2:denL Φ Γ (c::cs) ρ S with
   |ok ds S1=>rw[e2]at w;exact w
   |err y S1=>rw[e2]at w;exact w
   |fail=>rw[e2]at w;exact w
 |cmp op a b=>exact t_cmp O.room.units (a0o' a O (andB h).1) (a0o' b O (andB (andB h).2).1) (notB (andB (andB h).2).2)
 |chain op op' a b c=>exact t_chain O.room.units (a0o' a O (andB h).1) (a0o' b O (andB (andB h).2).1) (a0o' c O (andB (andB (andB h).2).2).1) (notB (andB (andB (andB h).2).2).2)
 |band a b=>
  exact(b3i' (a3h' a O (andB h).1) (fun z=>a3h' b O (cond1 (andB h).2 z)) fun z=>by
   have g:=(andB (cond2 (andB h).2 z)).1
   obtain⟨r,rest,q⟩:=b0G' (pos:=(vw e).pos) (N:=N) (es:=(vw e).es.tail) g
   exact⟨r,rest,q,b2m' b O (andB (cond2 (andB h).2 z)).2 (by rw[g];rfl)⟩).pt
 |bor a b=>
  exact(em_orT (a3h' a O (andB h).1) (fun z=>a3h' b O (cond1 (andB h).2 z)) fun z=>by
   have g:=(andB (cond2 (andB h).2 z)).1
   obtain⟨r,rest,q⟩:=b4E' (pos:=(vw e).pos) (N:=N) (es:=(vw e).es.tail) g
   exact⟨r,rest,q,b2m' b O (andB (cond2 (andB h).2 z)).2 (by rw[g,Bool.or_true])⟩).pt
 |bnot a=>exact t_not (a3h' a O h)
 |_=>exact(tT_fail fun _ _=>by simp only[denT]).pt
theorem b2m' (c:CE):∀{X:Cx} {cell:Str→Bool} {N:List Str} {sc:Sc} {CX:CXT} {E:XK} {Φ:FT} {Γ:Str→Option D} {k:Nat} {e:Expr},XOk X cell N sc CX E Φ Γ k→sdE c N sc e=true→(b4d' c||isBor c)=true→PW X (emE c N e) (tT X.K X.mg E Φ Γ c):=by
 intro X cell N sc CX E Φ Γ k e O h hb
 cases c with
 |band a b=>
  exact b3i' (a3h' a O (andB h).1) (fun z=>a3h' b O (cond1 (andB h).2 z)) fun z=>by
   have g:=(andB (cond2 (andB h).2 z)).1
   obtain⟨r,rest,q⟩:=b0G' (pos:=(vw e).pos) (N:=N) (es:=(vw e).es.tail) g
   exact⟨r,rest,q,b2m' b O (andB (cond2 (andB h).2 z)).2 (by rw[g];rfl)⟩
 |bor a b=>
  exact em_orT (a3h' a O (andB h).1) (fun z=>a3h' b O (cond1 (andB h).2 z)) fun z=>by
   have g:=(andB (cond2 (andB h).2 z)).1
   obtain⟨r,rest,q⟩:=b4E' (pos:=(vw e).pos) (N:=N) (es:=(vw e).es.tail) g
   exact⟨r,rest,q,b2m' b O (andB (cond2 (andB h).2 z)).2 (by rw[g,Bool.or_true])⟩
 |_=>cases hb
theorem a3E' (cs:List CE):∀{X:Cx} {cell:Str→Bool} {N:List Str} {sc:Sc} {CX:CXT} {E:XK} {Φ:FT} {Γ:Str→Option D} {k:Nat} {es:List Expr},XOk X cell N sc CX E Φ Γ k→sdL cs N sc es=true→PA X (emL cs N es) (tL X.K X.mg E Φ Γ cs):=by
 intro X cell N sc CX E Φ Γ k es O h
 cases cs with
 |nil=>exact s_nil
 |cons c cs=>exact s_cons (andB (andB h).2).1 (a0o' c O (andB h).1) (a3E' cs O (andB (andB h).2).2)
theorem soundP (cs:List CE):∀{X:Cx} {cell:Str→Bool} {N:List Str} {sc:Sc} {CX:CXT} {E:XK} {Φ:FT} {Γ:Str→Option D} {k:Nat} {es:List Expr},XOk X cell N sc CX E Φ Γ k→sdL cs N sc es=true→cs.length<2→PO X (emL cs N es).head? (tPt X.K X.mg E Φ Γ cs):=by
 intro X cell N sc CX E Φ Γ k es O h hl
 cases cs with
 |nil=>exact s_part0
 |cons c cs=>cases cs with
  |nil=>exact s_part1 (a0o' c O (andB h).1)
  |cons _ _=>exact absurd hl (by simp)
theorem a8q' (cs:List CE):∀{X:Cx} {cell:Str→Bool} {N:List Str} {sc:Sc} {CX:CXT} {E:XK} {Φ:FT} {Γ:Str→Option D} {k:Nat} {es:List Expr},XOk X cell N sc CX E Φ Γ k→sdL cs N sc es=true→PTs X (emL cs N es) (cs.map (tT X.K X.mg E Φ Γ)):=by
 intro X cell N sc CX E Φ Γ k es O h
 cases cs with
 |nil=>trivial
 |cons c cs=>exact⟨a3h' c O (andB h).1,a8q' cs O (andB (andB h).2).2⟩
theorem b2n' (c:CE):∀{X:Cx} {cell:Str→Bool} {N:List Str} {sc:Sc} {CX:CXT} {E:XK} {Φ:FT} {Γ:Str→Option D} {k:Nat} {tg:CT} {t e:Expr},XOk X cell N sc CX E Φ Γ k→sdI c N sc tg e=true→(b1S' tg=true→isTup t=true)→PI X t (emI c N e) (tI X.K X.mg E Φ Γ c):=by
 intro X cell N sc CX E Φ Γ k tg t e O h ht
 cases c with
 |seq a=>exact i_seq (a0o' a O h)
 |range es=>
  have h2:=(andB (andB h).2).1
  have h3:=(andB (andB h).2).2
  have hs:=a1l' h2
  have hL:=a3E' es O h2
  cases es with
  |nil=>cases h3
  |cons a es=>cases es with
   |nil=>exact b4l' O (andB h).1 (hs _ List.mem_cons_self) rfl hL
   |cons b es=>cases es with
    |nil=>exact b4m' O (andB h).1 (hs _ List.mem_cons_self) (hs _ (List.mem_cons_of_mem _ List.mem_cons_self)) rfl hL
    |cons d es=>cases h3
 |down es=>
  have h2:=(andB (andB (andB h).2).2).1
  have h3:=(andB (andB (andB h).2).2).2
  have hs:=a1l' h2
  have hL:=a3E' es O h2
  cases es with
  |nil=>cases h3
  |cons a es=>cases es with
   |nil=>exact i_down O (andB h).1 (andB (andB h).2).1 (hs _ List.mem_cons_self) hL
   |cons b es=>cases h3
 |revl es=>
  have h2:=(andB (andB h).2).1
  have h3:=(andB (andB h).2).2
  have hs:=a1l' h2
  have hL:=a3E' es O h2
  cases es with
  |nil=>cases h3
  |cons a es=>cases es with
   |nil=>exact i_revl O (andB h).1 (hs _ List.mem_cons_self) hL
   |cons b es=>cases h3
 |enum es=>cases h
 |zip es=>
  have h2:=(andB (andB h).2).1
  have h3:=(andB (andB h).2).2
  have hs:=a1l' h2
  have hL:=a3E' es O h2
  cases es with
  |nil=>cases(andB h3).1
  |cons a es=>cases es with
   |nil=>cases(andB h3).1
   |cons b es=>cases es with
    |nil=>
     exact i_zip O (andB h).1 (ht (andB h3).2) (hs _ List.mem_cons_self) (hs _ (List.mem_cons_of_mem _ List.mem_cons_self)) hL
    |cons d es=>cases(andB h3).1
 |_=>cases h
theorem b4F' (c:CE):∀{X:Cx} {cell:Str→Bool} {N:List Str} {sc:Sc} {CX:CXT} {E:XK} {Φ:FT} {Γ:Str→Option D} {k:Nat} {el:Expr} {gens gs:List Comprehension} {scope:Scope} {pos:Pos} {d:Nat} {acc:Addr},XOk X cell N sc CX E Φ Γ k→X.xe=(fun _ _=>False)→gens.drop (d+1)=emBg c N gs→sdB c cell N sc gs el=true→
  PB X (cRest (emBe c N el) gens scope pos d (.ref acc) X.env) (tB X.K X.mg Φ Γ c acc):=by
 intro X cell N sc CX E Φ Γ k el gens gs scope pos d acc O hx hd h
 cases c with
 |emit a=>exact c_emit (b2k' hd) (a0o' a O h)
 |inner tg it ifs body=>
  obtain⟨h4,h⟩:=andB h
  obtain⟨h5,h⟩:=andB h
  obtain⟨h6,h⟩:=andB h
  obtain⟨h7,h8⟩:=andB h
  exact c_inner hx O.calm (b4D' hd) (b2n' it O h5 a6B') (a2j' h6) (g_pg O h4) (b4s' (a8q' ifs O h7) (b4F' body O hx (b2l' hd) h8))
 |_=>cases h
end
end Py
end
section
namespace Py
open PySem PySem.Spec PyProof.Rows L2
def WantS (K:PySem.W.Frag)(mg:GS)(E:XK)(D:Ends)(μ:List Addr)(H:Hp):Res Fl→Prop
 | .ok (.next ρ') S'=>∀μ' H' σ',Ext μ H μ' H'→SOk K mg μ' S' H'→EnvR K mg μ' H' ρ' σ'→D.nx σ' H'
 | .ok (.ret d) S'=>∀μ' H' v,Ext μ H μ' H'→SOk K mg μ' S' H'→Rep K mg μ' H' d v→D.rt v H'
 | .ok (.brk ρ') S'=>∀μ' H' σ',Ext μ H μ' H'→SOk K mg μ' S' H'→EnvR K mg μ' H' ρ' σ'→D.bk σ' H'
 | .ok (.cont ρ') S'=>∀μ' H' σ',Ext μ H μ' H'→SOk K mg μ' S' H'→EnvR K mg μ' H' ρ' σ'→D.ct σ' H'
 | .err x S'=>∀μ' H',Ext μ H μ' H'→SOk K mg μ' S' H'→exOf mg.mg E x H'
 | .fail=>False
def tS (K:PySem.W.Frag)(mg:Str→Option Value)(E:XK)(Φ:FT)(Γ:Str→Option D)(c:CS):TS:=fun D σ H=>∃F μ ρ S,SOk K ⟨mg,F⟩ μ S H∧EnvR K ⟨mg,F⟩ μ H ρ σ∧WantS K ⟨mg,F⟩ E D μ H (denS Φ Γ c ρ S)
def tSs (K:PySem.W.Frag)(mg:Str→Option Value)(E:XK)(Φ:FT)(Γ:Str→Option D)(cs:List CS):TS:=fun D σ H=>∃F μ ρ S,SOk K ⟨mg,F⟩ μ S H∧EnvR K ⟨mg,F⟩ μ H ρ σ∧WantS K ⟨mg,F⟩ E D μ H (denSs Φ Γ cs ρ S)
section
variable {K:PySem.W.Frag}{mg:GS}{E:XK}{μ μ':List Addr}{H H':Hp}{D D':Ends}
theorem WantS.ext {r:Res Fl}(x:Ext μ H μ' H')(w:WantS K mg E D μ H r):WantS K mg E D μ' H' r:=by
 cases r with
 |ok f S=>
  cases f with
  |next ρ=>exact fun m h s y=>w m h s (x.trans y)
  |ret d=>exact fun m h s y=>w m h s (x.trans y)
  |brk ρ=>exact fun m h s y=>w m h s (x.trans y)
  |cont ρ=>exact fun m h s y=>w m h s (x.trans y)
 |err z S=>exact fun m h y=>w m h (x.trans y)
 |fail=>exact w
theorem WantS.bind {α β:Type}{Rel:List Addr→Hp→α→β→Prop}{r:Res α}{f:α→Store→Res Fl}(w:WantS K mg E D μ H (r.bind f)):
  WantG K mg E Rel μ H (fun b H'=>∃μ' S' a,Ext μ H μ' H'∧SOk K mg μ' S' H'∧Rel μ' H' a b∧WantS K mg E D μ' H' (f a S')) r:=by
 cases r with
 |ok a S'=>exact fun μ2 H2 b x s r=>⟨μ2,S',a,x,s,r,WantS.ext x (show WantS K mg E D μ H (f a S')from w)⟩
 |err y S'=>exact w
 |fail=>exact w
theorem WantS.seq {r:Res Fl}{f:Rho→Store→Res Fl}{N:L2.St→Hp→Prop}(w:WantS K mg E D μ H (r.bind fun fl S1=>match fl with
   | .next ρ'=>f ρ' S1
   |fl=>.ok fl S1)) (hN:∀μ' H' σ' ρ' S',Ext μ H μ' H'→SOk K mg μ' S' H'→EnvR K mg μ' H' ρ' σ'→WantS K mg E D μ' H' (f ρ' S')→N σ' H'):WantS K mg E {D with nx:=N} μ H r:=by
 cases r with
 |ok fl S=>
  cases fl with
  |next ρ=>exact fun m h s x k en=>hN m h s ρ S x k en (WantS.ext x (show WantS K mg E D μ H (f ρ S)from w))
  |ret d=>exact w
  |brk ρ=>exact w
  |cont ρ=>exact w
 |err z S=>exact w
 |fail=>exact w
end
theorem weakS {X:Cx}{st:Stmt}{t t':TS}(h:PS X st t)(w:∀D σ H,t' D σ H→t D σ H):PS X st t':=fun pins s σ H D I q=>h pins s σ H D I (w D σ H q)
theorem weakSs {X:Cx}{st:List Stmt}{t t':TS}(h:PSs X st t)(w:∀D σ H,t' D σ H→t D σ H):PSs X st t':=fun pins s σ H D I q=>h pins s σ H D I (w D σ H q)
def a3w':Expr→Bool
 | .ListComp .. =>false
 | .SetComp .. =>false
 | .DictComp .. =>false
 |_=>true
def isComp:Expr→Bool
 | .ListComp .. =>true
 |_=>false
def locB (sc:Sc)(x:Str):Bool:=sc.lookup x==some .local||sc.lookup x==some .cell
def swB (sc:Sc)(x:Str)(p:Pos)(v:Expr):Bool:=sc.lookup x==some .local&&(p.line==(vw v).pos.line&& !((vw v).sc.names.any fun(n,k)=>n==x&&(k== .local||k== .cell)))
def dS:Stmt:=.Pass ⟨0,0,0,0⟩
structure NdS where
 e0:Expr:=dE
 e1:Expr:=dE
 a:List Stmt:=[]
 b:List Stmt:=[]
 pos:Pos:=⟨0,0,0,0⟩
def vs:Stmt→NdS
 | .Assign ts v p=>{e0:=ts.headD dE,e1:=v,pos:=p}
 | .Expr v p=>{e0:=v,pos:=p}
 | .Return v p=>{e0:=v.getD dE,pos:=p}
 | .Pass p=>{pos:=p}
 | .Break p=>{pos:=p}
 | .Continue p=>{pos:=p}
 | .If t x y p=>{e0:=t,a:=x,b:=y,pos:=p}
 | .For t i x _ p=>{e0:=t,e1:=i,a:=x,pos:=p}
 | .While t x _ p=>{e0:=t,a:=x,pos:=p}
 |_=>{}
def emSub (o i:CE)(N:List Str)(e:Expr):Expr:=.Subscript (emE o N (vw e).e0) (emE i N (vw e).e1) (vw e).pos
def sdSub (o i:CE)(N:List Str)(sc:Sc)(e:Expr):Bool:=a3e' (emE i N (vw e).e1)&&(sdE o N sc (vw e).e0&&sdE i N sc (vw e).e1)
mutual
def emS:CS→List Str→Stmt→Stmt
 | .asg i e,N,st=>.Assign [.Name (N.getD i "") (vw (vs st).e0).pos] (emE e N (vs st).e1) (vs st).pos
 | .asgT t e,N,st=>.Assign [emT t N (vs st).e0] (emE e N (vs st).e1) (vs st).pos
 | .par _ _,_,st=>st
 | .set o i v,N,st=>.Assign [emSub o i N (vs st).e0] (emE v N (vs st).e1) (vs st).pos
 | .set2 _ _ _ _ _,_,st=>st
 | .expr e,N,st=>.Expr (emE e N (vs st).e0) (vs st).pos
 | .ret e,N,st=>.Return (some (emE e N (vs st).e0)) (vs st).pos
 | .retN,_,st=>.Return none (vs st).pos
 | .pass,_,st=>.Pass (vs st).pos
 | .brk,_,st=>.Break (vs st).pos
 | .cont,_,st=>.Continue (vs st).pos
 | .ite c a b,N,st=>.If (emE c N (vs st).e0) (emSs a N (vs st).a) (emSs b N (vs st).b) (vs st).pos
 | .for_ t it body,N,st=>.For (emT t N (vs st).e0) (emI it N (vs st).e1) (emSs body N (vs st).a) [] (vs st).pos
 | .while_ _ c body,N,st=>.While (emE c N (vs st).e0) (emSs body N (vs st).a) [] (vs st).pos
 | .never,_,st=>st
def emSs:List CS→List Str→List Stmt→List Stmt
 | [],_,_=>[]
 |c::cs,N,st=>emS c N (st.headD dS)::emSs cs N st.tail
end
def foldB:Expr→Bool
 | .Tuple xs _ _=>xs.all (foldedForSure 8)
 |_=>true
mutual
def sdS:CS→List Str→Sc→Stmt→Bool
 | .asg i e,N,sc,st=>N[i]? ==some (N.getD i "")&&(locB sc (N.getD i "")&&(sdE e N sc (vs st).e1&&(a3w' (emE e N (vs st).e1)||(isCmp e&&(sc.lookup (N.getD i "")==some .cell||swB sc (N.getD i "") (vw (vs st).e0).pos (emE e N (vs st).e1))))))
 | .asgT t e,N,sc,st=>b1S' t&&(foldB (emE e N (vs st).e1)&&(a3w' (emE e N (vs st).e1)&&(sdT (fun _=>true) N sc t&&sdE e N sc (vs st).e1)))
 | .par _ _,_,_,_=>false
 | .set o i v,N,sc,st=>sdSub o i N sc (vs st).e0&&(a3w' (emE v N (vs st).e1)&&sdE v N sc (vs st).e1)
 | .set2 _ _ _ _ _,_,_,_=>false
 | .expr e,N,sc,st=>a3w' (emE e N (vs st).e0)&&sdE e N sc (vs st).e0
 | .ret e,N,sc,st=>sdE e N sc (vs st).e0
 | .retN,_,_,_=>true
 | .pass,_,_,_=>true
 | .brk,_,_,_=>true
 | .cont,_,_,_=>true
 | .ite c a b,N,sc,st=>sdE c N sc (vs st).e0&&(sdSs a N sc (vs st).a&&sdSs b N sc (vs st).b)
 | .for_ t it body,N,sc,st=>sdT (fun _=>true) N sc t&&(sdI it N sc t (vs st).e1&&(b1R' (emI it N (vs st).e1)&&sdSs body N sc (vs st).a))
 | .while_ _ c body,N,sc,st=>sdE c N sc (vs st).e0&&sdSs body N sc (vs st).a
 | .never,_,_,_=>true
def sdSs:List CS→List Str→Sc→List Stmt→Bool
 | [],_,_,_=>true
 |c::cs,N,sc,st=>sdS c N sc (st.headD dS)&&sdSs cs N sc st.tail
end
section
variable {X:Cx}{E:XK}{CX:CXT}{Φ:FT}{Γ:Str→Option D}{N:List Str}{sc:Sc}{k:Nat}{cell:Str→Bool}{pos:Pos}
theorem b2o' {v:Expr}{o:Option Expr}{line:Nat}{env:Env}(h:a3w' v=true):swapsWith v o line env=pure false:=by
 cases v<;>first|rfl|cases h
theorem bk_fn (O:XOk X cell N sc CX E Φ Γ k):X.env.blockKind=.function:=by
 unfold Env.blockKind
 rw[O.kd]
 rfl
theorem sw_cell (O:XOk X cell N sc CX E Φ Γ k){v:Expr}{x:Str}{p:Pos}{line:Nat}(h:isComp v=true)(hx:sc.lookup x=some .cell):swapsWith v (some (.Name x p)) line X.env=pure false:=by
 have e1:X.env.kindOf x=some .cell:=by show X.env.scope.names.lookup x=_;rw[O.sc];exact hx
 cases v<;>first| (cases h;done)|skip
 rename_i el gs scope vp
 unfold swapsWith
 show(pure (X.env.blockKind== .function&&X.env.kindOf x==some .local&&p.line==vp.line&& !_):Sem Bool)=pure false
 rw[e1]
 have e2:(some NameKind.cell==some NameKind.local)=false:=by decide
 rw[e2,Bool.and_false,Bool.false_and,Bool.false_and]
theorem sw_yes (O:XOk X cell N sc CX E Φ Γ k){el:Expr}{gs:List Comprehension}{scope:Scope}{vp p:Pos}{x:Str}{line:Nat}(h:swB sc x p (.ListComp el gs scope vp)=true):swapsWith (.ListComp el gs scope vp) (some (.Name x p)) line X.env=pure true:=by
 obtain⟨h1,h⟩:=andB h
 obtain⟨h2,h3⟩:=andB h
 have e1:X.env.kindOf x=some .local:=by show X.env.scope.names.lookup x=_;rw[O.sc];exact beq_iff_eq.mp h1
 unfold swapsWith
 show(pure (X.env.blockKind== .function&&X.env.kindOf x==some .local&&p.line==vp.line&& !_):Sem Bool)=pure true
 rw[bk_fn O,e1,show(p.line==vp.line)=true from h2]
 have h3':(!(scope.names.any fun x_1=>match x_1 with| (n,k)=>n==x&&(k== .local||k== .cell)))=true:=h3
 first|rw[h3'];rfl|simp_all
theorem loc_ok (O:XOk X (fun _=>true) N sc CX E Φ Γ k){x:Str}(h:locB sc x=true):L2.Loc X.env.scope x:=by
 unfold L2.Loc
 rw[O.sc]
 unfold locB at h
 simpa using h
theorem b3j' {σ:L2.St}{H:Hp}{D:Ends}{i:Nat}{e:CE}(h:tS X.K X.mg E Φ Γ (.asg i e) D σ H):tE X.K X.mg E Φ Γ e σ H fun v H1=>D.nx (σ.set i (some v)) H1:=by
 obtain⟨F,μ,ρ,S,sk,en,w⟩:=h
 simp only[denS]at w
 exact⟨F,μ,ρ,S,sk,en,(WantS.bind w).mono fun v H1 zz=>ex34 zz fun μ1 S1 d x1 s1 r1 w1=>w1 μ1 H1 _ .refl s1 ((en.mono x1).set r1)⟩
theorem s_asg (O:XOk X (fun _=>true) N sc CX E Φ Γ k){i:Nat}{e:CE}{st:Stmt}(h:sdS (.asg i e) N sc st=true):PS X (emS (.asg i e) N st) (tS X.K X.mg E Φ Γ (.asg i e)):=by
 obtain⟨h1,h⟩:=andB h
 obtain⟨h2,h⟩:=andB h
 obtain⟨h3,h4⟩:=andB h
 have h1:=beq_iff_eq.mp h1
 have plain:swapsWith (emE e N (vs st).e1) (some (.Name (N.getD i "") (vw (vs st).e0).pos)) (vs st).pos.line X.env=pure false→PS X (emS (.asg i e) N st) (tS X.K X.mg E Φ Γ (.asg i e)):=fun hs=>
  weakS (ps_set (i:=i) (by rw[O.n];exact O.nd) (by rw[O.n];exact h1) (loc_ok O h2) (a0o' e O h3) hs (.inl (O.fn _ rfl))) fun D σ H q=>b3j' q
 rcases Bool.or_eq_true_iff.mp h4 with h4|h4
 ·exact plain (b2o' h4)
 ·obtain⟨h4,h5⟩:=andB h4
  cases e with
  |comp box N' fr tg it ifs body=>
   rcases Bool.or_eq_true_iff.mp h5 with h5|h5
   ·exact plain (sw_cell O rfl (beq_iff_eq.mp h5))
   ·have hsw:=sw_yes O (line:=(vs st).pos.line) h5
    have hx:X.env.scope.names.lookup (N.getD i "")=some .local:=by rw[O.sc];exact beq_iff_eq.mp (andB h5).1
    obtain⟨k1,h⟩:=andB h3
    obtain⟨k2,h⟩:=andB h
    obtain⟨k3,h⟩:=andB h
    obtain⟨k4,h⟩:=andB h
    obtain⟨k5,h⟩:=andB h
    obtain⟨k6,h⟩:=andB h
    obtain⟨k7,k8⟩:=andB h
    have sc1:=b0D' O k1
    refine weakS (ps_comp (N:=N') (j:=i) (g:=gCT X.K tg) (tb:=tC X.K X.mg Φ Γ ifs body) O.calm (by rw[O.n];exact O.nd) (by rw[O.n];exact h1) hx hsw sc1 (b0E' O k2) (b2n' it O k5 a6B') (fun acc env=>a6u' _ env>>=fun ok=>if ok=true then cRest _ (_::_) _ _ 0 (.ref acc) env else pure ())
     (fun it acc env=>a3f' rfl) (fun C s0 H0 fp acc=> ?_) (a2j' k6)) fun D σ H q=>c_comp (tg0:=.Name (N.getD i "") (vw (vs st).e0).pos) (b3j' q)
    have O':=b0F' O sc1.kind k3 C s0 H0 fp
    exact⟨g_pg O' k4,b4s' (a8q' ifs O' k7) (b4F' body O' rfl rfl k8)⟩
  |_=>cases h4
end
end Py
end
section
namespace Py
open PySem PySem.Spec PyProof.Rows L2
structure YOk (X:Cx)(N:List Str)(sc:Sc)(CX:CXT)(E:XK)(Φ:FT)(Γ:Str→Option D)(k:Nat):Prop where
 x:XOk X (fun _=>true) N sc CX E Φ Γ k
 own:PassesOwn (model X.prog X.w) X.A X.env X.xe
section
variable {X:Cx}{E:XK}{CX:CXT}{Φ:FT}{Γ:Str→Option D}{N:List Str}{sc:Sc}{k:Nat}{pos:Pos}
theorem sws_tup {tg v:Expr}{env:Env}(h1:isTup tg=true)(h2:foldB v=true):swappedStores [tg] v env=pure none:=by
 cases tg<;>first| (cases h1;done)|skip
 cases v<;>first|rfl|skip
 have h:(List.all _ (foldedForSure 8))=true:=h2
 unfold swappedStores
 simp only[]
 split
 ·rfl
 ·split
  ·rfl
  ·split
   ·rfl
   ·first|rfl|rw[if_pos h]
theorem b4G' {tg:Expr}{env:Env}(h1:isTup tg=true):(assignEach [tg] env).map (·.2)=[assign tg env]:=by
 cases tg<;>first|rfl|cases h1
theorem sole {t v:Expr}{line:Nat}{env:Env}(h:swapsWith v (some t) line env=pure false):swapsWithSole [t] v line env=pure false:=h
theorem asg_sub {o i:Expr}{p:Pos}{env:Env}(h:a3e' i=true):∀v,assign (.Subscript o i p) env v=(do
   let ov ←holding [v] (eval o env)
   let iv ←holding [v,ov] (eval i env)
   standAt p
   holding [v,ov,iv] (setItem ov iv v)
   release [v,ov,iv] []):=by
 intro v
 cases i<;>first|rfl|cases h
theorem s_asgT (O:XOk X (fun _=>true) N sc CX E Φ Γ k){t:CT}{e:CE}{tg v:Expr}(h1:isTup (emT t N tg)=true)(h2:foldB v=true)(h3:a3w' v=true)(h4:sdT (fun _=>true) N sc t=true)(h5:PE X v (tE X.K X.mg E Φ Γ e)):PS X (.Assign [emT t N tg] v pos) (tS X.K X.mg E Φ Γ (.asgT t e)):=
 weakS (ps_asg h5 (g_pg O h4) (b2o' h3) (sws_tup h1 h2) (b4G' h1)) fun D σ H zz=>ex43 zz fun F μ ρ S sk en w=>by
  simp only[denS]at w
  refine⟨F,μ,ρ,S,sk,en,(WantS.bind w).mono fun v H1 zz=>ex34 zz fun μ1 S1 d x1 s1 r1 w1=> ?_⟩
  cases ea:asgCT t d ρ with
  |none=>rw[ea]at w1;exact w1.elim
  |some ρ'=>
   rw[ea]at w1
   exact g_do ea r1 (en.mono x1) fun σ' en'=>w1 μ1 H1 σ' .refl s1 en'
theorem s_set {o i v:CE}{eo ei ev:Expr}{p:Pos}(hn:a3e' ei=true)(h0:a3w' ev=true)(ho:PE X eo (tE X.K X.mg E Φ Γ o))(hi:PE X ei (tE X.K X.mg E Φ Γ i))(hv:PE X ev (tE X.K X.mg E Φ Γ v)):PS X (.Assign [.Subscript eo ei p] ev pos) (tS X.K X.mg E Φ Γ (.set o i v)):=
 weakS (ps_asg hv (pg_sub ho hi set_D (asg_sub hn)) (sole (b2o' h0)) (by cases ev<;>rfl)) fun D σ H zz=>ex43 zz fun F μ ρ S sk en w=>by
  simp only[denS]at w
  refine⟨F,μ,ρ,S,sk,en,(WantS.bind w).mono fun vv H1 zz=>ex34 zz fun μ1 S1 f x1 s1 r1 w1=> ?_⟩
  refine⟨F,μ1,ρ,S1,s1,en.mono x1,(WantS.bind w1).mono fun vo H2 zz=>ex34 zz fun μ2 S2 d x2 s2 r2 w2=> ?_⟩
  refine⟨F,μ2,ρ,S2,s2,(en.mono x1).mono x2,(WantS.bind w2).mono fun vi H3 zz=>ex34 zz fun μ3 S3 e x3 s3 r3 w3=> ?_⟩
  cases es:setD d e f S3 with
  |none=>rw[es]at w3;exact w3.elim
  |some S4=>
   rw[es]at w3
   exact⟨F,μ3,S3,d,e,f,s3,Rep.mono x3 _ _ r2,r3,Rep.mono (x2.trans x3) _ _ r1,S4,es,fun μ4 H4 x4 s4=>w3 μ4 H4 σ x4 s4 ((((en.mono x1).mono x2).mono x3).mono x4)⟩
theorem s_expr {e:CE}{v:Expr}(h0:a3w' v=true)(he:PE X v (tE X.K X.mg E Φ Γ e)):PS X (.Expr v pos) (tS X.K X.mg E Φ Γ (.expr e)):=
 weakS (ps_expr he (b2o' h0)) fun D σ H zz=>ex43 zz fun F μ ρ S sk en w=>by
  simp only[denS]at w
  exact⟨F,μ,ρ,S,sk,en,(WantS.bind w).mono fun v H1 zz=>ex34 zz fun μ1 S1 d x1 s1 r1 w1=>w1 μ1 H1 σ .refl s1 (en.mono x1)⟩
theorem s_ret {e:CE}{v:Expr}(he:PE X v (tE X.K X.mg E Φ Γ e)):PS X (.Return (some v) pos) (tS X.K X.mg E Φ Γ (.ret e)):=
 weakS (ps_ret he) fun D σ H zz=>ex43 zz fun F μ ρ S sk en w=>by
  simp only[denS]at w
  exact⟨F,μ,ρ,S,sk,en,(WantS.bind w).mono fun v H1 zz=>ex34 zz fun μ1 S1 d x1 s1 r1 w1=>w1 μ1 H1 v .refl s1 r1⟩
theorem s_retN:PS X (.Return none pos) (tS X.K X.mg E Φ Γ .retN):=weakS ps_retN fun D σ H zz=>ex43 zz fun F μ ρ S sk en w=>w μ H .non .refl sk b1G'
theorem s_pass:PS X (.Pass pos) (tS X.K X.mg E Φ Γ .pass):=weakS ps_pass fun D σ H zz=>ex43 zz fun F μ ρ S sk en w=>w μ H σ .refl sk en
theorem s_brk:PS X (.Break pos) (tS X.K X.mg E Φ Γ .brk):=weakS b3D' fun D σ H zz=>ex43 zz fun F μ ρ S sk en w=>w μ H σ .refl sk en
theorem s_cont:PS X (.Continue pos) (tS X.K X.mg E Φ Γ .cont):=weakS a8O' fun D σ H zz=>ex43 zz fun F μ ρ S sk en w=>w μ H σ .refl sk en
theorem s_if {c:CE}{a b:List CS}{t:Expr}{x y:List Stmt}(hc:PT X t (tT X.K X.mg E Φ Γ c))(ha:PSs X x (tSs X.K X.mg E Φ Γ a))(hb:PSs X y (tSs X.K X.mg E Φ Γ b)):PS X (.If t x y pos) (tS X.K X.mg E Φ Γ (.ite c a b)):=
 weakS (ps_if hc ha hb) fun D σ H zz=>ex43 zz fun F μ ρ S sk en w=>by
  simp only[denS]at w
  refine⟨F,μ,ρ,S,sk,en,(WantS.bind w).mono fun k H1 zz=>ex34 zz fun μ1 S1 k' x1 s1 e1 w1=> ?_⟩
  subst e1
  cases k' with
  |true=>rw[if_pos rfl]at w1⊢;exact⟨F,μ1,ρ,S1,s1,en.mono x1,w1⟩
  |false=>rw[if_neg (by decide)]at w1⊢;exact⟨F,μ1,ρ,S1,s1,en.mono x1,w1⟩
theorem s_nilS:PSs X [] (tSs X.K X.mg E Φ Γ []):=weakSs pss_nil fun D σ H zz=>ex43 zz fun F μ ρ S sk en w=>w μ H σ .refl sk en
theorem s_consS {c:CS}{cs:List CS}{s:Stmt}{st:List Stmt}(h1:PS X s (tS X.K X.mg E Φ Γ c))(h2:PSs X st (tSs X.K X.mg E Φ Γ cs)):PSs X (s::st) (tSs X.K X.mg E Φ Γ (c::cs)):=
 weakSs (b3C' h1 h2) fun D σ H zz=>ex43 zz fun F μ ρ S sk en w=>by
  simp only[denSs]at w
  exact⟨F,μ,ρ,S,sk,en,WantS.seq w fun μ' H' σ' ρ' S' x k en' w'=>⟨F,μ',ρ',S',k,en',w'⟩⟩
theorem a8r' {K:PySem.W.Frag}{mg:GS}{D:Ends}{μ:List Addr}{H:Hp}{r:Res Fl}{f:Rho→Store→Res Fl}{Nx:L2.St→Hp→Prop}(w:WantS K mg E D μ H (r.bind fun fl S'=>match fl with
   | .next ρ'=>f ρ' S'
   | .cont ρ'=>f ρ' S'
   | .brk ρ'=>.ok (.next ρ') S'
   | .ret d=>.ok (.ret d) S')) (hN:∀μ' H' σ' ρ' S',Ext μ H μ' H'→SOk K mg μ' S' H'→EnvR K mg μ' H' ρ' σ'→WantS K mg E D μ' H' (f ρ' S')→Nx σ' H'):WantS K mg E {D with nx:=Nx,ct:=Nx,bk:=D.nx} μ H r:=by
 cases r with
 |ok fl S=>
  cases fl with
  |next ρ=>exact fun m h s x k en=>hN m h s ρ S x k en (WantS.ext x (show WantS K mg E D μ H (f ρ S)from w))
  |ret d=>exact w
  |brk ρ=>exact w
  |cont ρ=>exact fun m h s x k en=>hN m h s ρ S x k en (WantS.ext x (show WantS K mg E D μ H (f ρ S)from w))
 |err z S=>exact w
 |fail=>exact w
theorem s_while {n:Nat}{c:CE}{body:List CS}{t:Expr}{x:List Stmt}(hp:PassesOwn (model X.prog X.w) X.A X.env X.xe)(hc:PT X t (tT X.K X.mg E Φ Γ c))(hb:PSs X x (tSs X.K X.mg E Φ Γ body)):PS X (.While t x [] pos) (tS X.K X.mg E Φ Γ (.while_ n c body)):=
 weakS (b3F' hp hc hb) fun D σ H zz=>ex43 zz fun F μ ρ S sk en w=>by
  simp only[denS]at w
  refine⟨fun m σ H=>∃μ ρ S,SOk X.K ⟨X.mg,F⟩ μ S H∧EnvR X.K ⟨X.mg,F⟩ μ H ρ σ∧WantS X.K ⟨X.mg,F⟩ E D μ H (a4K' (denT Φ Γ c) (denSs Φ Γ body) m ρ S),⟨n,μ,ρ,S,sk,en,w⟩,?_⟩
  rintro m σ H ⟨μ,ρ,S,sk,en,w⟩
  cases m with
  |zero=>exact w.elim
  |succ m=>
   unfold a4K' at w
   refine⟨F,μ,ρ,S,sk,en,(WantS.bind w).mono fun k H1 zz=>ex34 zz fun μ1 S1 k' x1 s1 e1 w1=> ?_⟩
   subst e1
   cases k' with
   |true=>
    rw[if_pos rfl]at w1⊢
    refine⟨fun σ' H'=>∃μ ρ S,SOk X.K ⟨X.mg,F⟩ μ S H'∧EnvR X.K ⟨X.mg,F⟩ μ H' ρ σ'∧WantS X.K ⟨X.mg,F⟩ E D μ H' (a4K' (denT Φ Γ c) (denSs Φ Γ body) m ρ S),fun σ' H' q=>⟨m,Nat.lt_succ_self m,q⟩,F,μ1,ρ,S1,s1,en.mono x1,?_⟩
    exact a8r' w1 fun μ' H' σ' ρ' S' x k en' w'=>⟨μ',ρ',S',k,en',w'⟩
   |false=>
    rw[if_neg (by decide)]at w1⊢
    exact w1 μ1 H1 σ .refl s1 (en.mono x1)
end
theorem a4f' (step:D→Rho→Store→Res Fl)(xs:List D):∀(n i:Nat) (ρ:Rho) (S:Store),i+n=xs.length→forB step (fun _ i=>some xs[i]?) (n+1) i ρ S=forD step (xs.drop i) ρ S
 |0,i,ρ,S,h=>by
  rw[List.drop_eq_nil_of_le (by omega)]
  unfold forB
  have:xs[i]? =none:=List.getElem?_eq_none_iff.mpr (by omega)
  rw[this]
  rfl
 |n+1,i,ρ,S,h=>by
  have hi:i<xs.length:=by omega
  rw[List.drop_eq_getElem_cons hi]
  unfold forB
  rw[List.getElem?_eq_getElem hi]
  show(step xs[i] ρ S).bind _=(step xs[i] ρ S).bind _
  congr 1
  funext fl S'
  cases fl with
  |next ρ'=>exact a4f' step xs n (i+1) ρ' S' (by omega)
  |cont ρ'=>exact a4f' step xs n (i+1) ρ' S' (by omega)
  |brk ρ'=>rfl
  |ret d=>rfl
theorem forI_eq (step:D→Rho→Store→Res Fl)(its:Its)(ρ:Rho)(S:Store):forI step its ρ S=forB step (getOf its) (b0p' its) 0 ρ S:=by
 cases its with
 |items xs=>exact(a4f' step xs xs.length 0 ρ S (by omega)).symm
 |live f get=>rfl
def stepF (Φ:FT)(Γ:Str→Option D)(t:CT)(body:List CS):D→Rho→Store→Res Fl:=fun x ρ S=>match asgCT t x ρ with
 |some ρ'=>denSs Φ Γ body ρ' S
 |none=>.fail
section
variable {X:Cx}{E:XK}{CX:CXT}{Φ:FT}{Γ:Str→Option D}{N:List Str}{sc:Sc}{k:Nat}{pos:Pos}
theorem s_for {t:CT}{it:CE}{body:List CS}{tg i:Expr}{x:List Stmt}(hp:PassesOwn (model X.prog X.w) X.A X.env X.xe)(hc:X.calm=true)(hi:PI X tg i (tI X.K X.mg E Φ Γ it))(hg:PG X tg (gCT X.K t))(hs:∀x,foldedSetIterable i X.env x=pure x)(hb:PSs X x (tSs X.K X.mg E Φ Γ body)):
  PS X (.For tg i x [] pos) (tS X.K X.mg E Φ Γ (.for_ t it body)):=
 weakS (ps_for hp hc hi hg hb hs) fun D σ H zz=>ex43 zz fun F μ ρ S sk en w=>by
  simp only[denS]at w
  refine⟨F,μ,ρ,S,sk,en,WantG.mono (Rel:=fun μ' H' its J=>ItOk X.K ⟨X.mg,F⟩ J (getOf its) μ' H') (WantS.bind w) fun J H1 h=> ?_⟩
  obtain⟨μ1,S1,its,x1,s1,ok,w1⟩:=h
  have w2:WantS X.K ⟨X.mg,F⟩ E D μ1 H1 (forI (stepF Φ Γ t body) its ρ S1):=w1
  rw[forI_eq]at w2
  refine⟨fun i m σ H=>∃μ ρ S,Chg X.K F μ1 H1 F μ H∧SOk X.K ⟨X.mg,F⟩ μ S H∧EnvR X.K ⟨X.mg,F⟩ μ H ρ σ∧WantS X.K ⟨X.mg,F⟩ E D μ H (forB (stepF Φ Γ t body) (getOf its) m i ρ S),⟨b0p' its,μ1,ρ,S1,.refl,s1,en.mono x1,w2⟩,?_⟩
  rintro i m σ H ⟨μ,ρ,S,ch,sk,en,w⟩
  cases m with
  |zero=>exact w.elim
  |succ m=>
   unfold forB at w
   obtain⟨k1,k2⟩:=ok i μ S H F ch sk
   cases e:getOf its S i with
   |none=>rw[e]at w;exact w.elim
   |some o=>
    cases o with
    |none=>rw[e]at w;exact .inl ⟨k2 e,w μ H σ .refl sk en⟩
    |some y=>
     rw[e]at w
     obtain⟨go,yld⟩:=k1 y e
     refine .inr ⟨go,fun σ' H'=>∃μ ρ S,Chg X.K F μ1 H1 F μ H'∧SOk X.K ⟨X.mg,F⟩ μ S H'∧EnvR X.K ⟨X.mg,F⟩ μ H' ρ σ'∧WantS X.K ⟨X.mg,F⟩ E D μ H' (forB (stepF Φ Γ t body) (getOf its) m (i+1) ρ S),fun σ' H' q=>⟨m,Nat.lt_succ_self m,q⟩,fun v H' hv=> ?_⟩
     obtain⟨x2,s2,r2⟩:=yld v H' hv
     have ch2:Chg X.K F μ1 H1 F μ H':=ch.trans (.of_ext x2 fun _ z=>.inl z)
     have w':=WantS.ext x2 w
     have w3:WantS X.K ⟨X.mg,F⟩ E D μ H' ((stepF Φ Γ t body y ρ S).bind fun fl S'=>match fl with
      | .next ρ'=>forB (stepF Φ Γ t body) (getOf its) m (i+1) ρ' S'
      | .cont ρ'=>forB (stepF Φ Γ t body) (getOf its) m (i+1) ρ' S'
      | .brk ρ'=>.ok (.next ρ') S'
      | .ret d=>.ok (.ret d) S'):=w'
     have w4:=a8r' (f:=fun ρ' S'=>forB (stepF Φ Γ t body) (getOf its) m (i+1) ρ' S') (Nx:=fun σ' H'=>∃μ ρ S,Chg X.K F μ1 H1 F μ H'∧SOk X.K ⟨X.mg,F⟩ μ S H'∧EnvR X.K ⟨X.mg,F⟩ μ H' ρ σ'∧WantS X.K ⟨X.mg,F⟩ E D μ H' (forB (stepF Φ Γ t body) (getOf its) m (i+1) ρ S)) w3
      fun μ' H'' σ' ρ' S' x3 k en' w''=>⟨μ',ρ',S',ch2.trans (.of_ext x3 fun _ z=>.inl z),k,en',w''⟩
     unfold stepF at w4
     cases ea:asgCT t y ρ with
     |none=>simp only[ea]at w4;exact w4.elim
     |some ρ'=>
      simp only[ea]at w4
      exact g_do ea r2 (en.mono x2) fun σ2 en2=>⟨F,μ,ρ',S,s2,en2,w4⟩
end
mutual
theorem soundS (c:CS):∀{X:Cx} {N:List Str} {sc:Sc} {CX:CXT} {E:XK} {Φ:FT} {Γ:Str→Option D} {k:Nat} {st:Stmt},YOk X N sc CX E Φ Γ k→sdS c N sc st=true→PS X (emS c N st) (tS X.K X.mg E Φ Γ c):=by
 intro X N sc CX E Φ Γ k st O h
 cases c with
 |asg i e=>exact s_asg O.x h
 |asgT t e=>exact s_asgT O.x (a6B' (andB h).1) ((andB (andB h).2).1) (andB (andB (andB h).2).2).1 (andB (andB (andB (andB h).2).2).2).1 (a0o' e O.x (andB (andB (andB (andB h).2).2).2).2)
 |par=>cases h
 |set o i v=>exact s_set (andB (andB h).1).1 (andB (andB h).2).1 (a0o' o O.x (andB (andB (andB h).1).2).1) (a0o' i O.x (andB (andB (andB h).1).2).2) (a0o' v O.x (andB (andB h).2).2)
 |set2=>cases h
 |expr e=>exact s_expr (andB h).1 (a0o' e O.x (andB h).2)
 |ret e=>exact s_ret (a0o' e O.x h)
 |retN=>exact s_retN
 |pass=>exact s_pass
 |brk=>exact s_brk
 |cont=>exact s_cont
 |ite c a b=>exact s_if (a3h' c O.x (andB h).1) (a5g' a O (andB (andB h).2).1) (a5g' b O (andB (andB h).2).2)
 |for_ t it body=>exact s_for O.own O.x.calm (b2n' it O.x (andB (andB h).2).1 a6B') (g_pg O.x (andB h).1) (a2j' (andB (andB (andB h).2).2).1) (a5g' body O (andB (andB (andB h).2).2).2)
 |while_ n c body=>exact s_while O.own (a3h' c O.x (andB h).1) (a5g' body O (andB h).2)
 |never=>exact fun pins s σ H D I zz=>ex43 zz fun F μ ρ S sk en w=>w.elim
theorem a5g' (cs:List CS):∀{X:Cx} {N:List Str} {sc:Sc} {CX:CXT} {E:XK} {Φ:FT} {Γ:Str→Option D} {k:Nat} {st:List Stmt},YOk X N sc CX E Φ Γ k→sdSs cs N sc st=true→PSs X (emSs cs N st) (tSs X.K X.mg E Φ Γ cs):=by
 intro X N sc CX E Φ Γ k st O h
 cases cs with
 |nil=>exact s_nilS
 |cons c cs=>exact s_consS (soundS c O (andB h).1) (a5g' cs O (andB h).2)
end
end Py
end
section
namespace Py
open PySem PySem.Spec PyProof.Rows L2
mutual
def lowD (k:Nat):D→Bool
 | .tup xs=>lowL k xs
 | .lst xs=>lowL k xs
 | .scr xs=>lowL k xs
 | .ref n=>decide (n<k)
 |_=>true
def lowL (k:Nat):List D→Bool
 | []=>true
 |x::xs=>lowD k x&&lowL k xs
end
def trim (k:Nat)(d:D)(S':Store):Res D:=
 if(S'.take k).all (lowL k)=true then
  (if lowD k d=true then .ok d (S'.take k)else match d with
   | .ref n=>(match S'[n]? with
    |some xs=>if lowL k xs=true∧k≤n then .ok (.ref k) (S'.take k++[xs])else .fail
    |none=>.fail)
   |_=>.fail)
 else .fail
def runD (Φ:FT)(Γ:Str→Option D)(body:List CS)(n np:Nat)(ds:List D)(S:Store):Res D:=
 if ds.length=np then
  (match denSs Φ Γ body (ds.map some++List.replicate (n-np) none) S with
  | .ok (.ret d) S'=>trim S.length d S'
  | .ok (.next _) S'=>trim S.length .non S'
  | .err x S'=>if(S'.take S.length).all (lowL S.length)=true then .err x (S'.take S.length)else .fail
  |_=>.fail)
 else .fail
section
variable {K:PySem.W.Frag}{mg:GS}{μ μ' μ'':List Addr}{H H':Hp}{k:Nat}
mutual
theorem Rep.low (hk:∀n,n<k→μ''[n]? =μ'[n]?)(hs:∀a∈μ'',a∈μ'):∀(d:D) (v:V),lowD k d=true→Rep K mg μ' H d v→Rep K mg μ'' H d v
 | .non,_,_,h=>h
 | .bl _,_,_,h=>h
 | .int _,_,_,h=>h
 | .str _,_,_,h=>h
 | .tup ds,v,l,h=>by
  unfold Rep at h⊢
  unfold lowD at l
  obtain⟨a,vs,e,q,r⟩:=h
  exact⟨a,vs,e,q,RepL.low hk hs ds vs l r⟩
 | .lst ds,v,l,h=>by
  unfold Rep at h⊢
  unfold lowD at l
  obtain⟨a,vs,e,q,n,r⟩:=h
  exact⟨a,vs,e,q,⟨fun z=>n.1 (hs a z),n.2⟩,RepL.low hk hs ds vs l r⟩
 | .scr ds,v,l,h=>by
  unfold Rep at h⊢
  unfold lowD at l
  obtain⟨a,vs,e,q,r⟩:=h
  exact⟨a,vs,e,q,RepL.low hk hs ds vs l r⟩
 | .ref n,v,l,h=>by
  unfold Rep at h⊢
  unfold lowD at l
  obtain⟨a,e,q⟩:=h
  exact⟨a,e,by rw[hk n (by simpa using l)];exact q⟩
 | .fn y,v,_,h=>h
 | .ty y,v,_,h=>h
 | .dct,v,_,h=>h
theorem RepL.low (hk:∀n,n<k→μ''[n]? =μ'[n]?)(hs:∀a∈μ'',a∈μ'):∀(ds:List D) (vs:List V),lowL k ds=true→RepL K mg μ' H ds vs→RepL K mg μ'' H ds vs
 | [],vs,_,h=>h
 |d::ds,vs,l,h=>by
  unfold RepL at h⊢
  unfold lowL at l
  simp only[Bool.and_eq_true]at l
  obtain⟨w,ws,e,r,q⟩:=h
  exact⟨w,ws,e,Rep.low hk hs d w l.1 r,RepL.low hk hs ds ws l.2 q⟩
end
theorem Ext.cut (x:Ext μ H μ' H'):Ext μ H μ H':=⟨⟨[],by simp⟩,x.keep,x.there,fun _ h=>.inl h⟩
theorem SOk.cut {S':Store}(x:Ext μ H μ' H')(hk:μ.length=k)(s:SOk K mg μ' S' H')(l:(S'.take k).all (lowL k)=true):SOk K mg μ (S'.take k) H':=by
 obtain⟨r,rfl⟩:=x.pre
 have hl:=s.len
 simp at hl
 refine⟨s.live,by rw[List.length_take];omega,(List.nodup_append.mp s.nd).1,fun n a ds h1 h2=> ?_⟩
 have hn:n<k:=by rw[←hk];exact(List.getElem?_eq_some_iff.mp h1).1
 have h2':=h2
 rw[List.getElem?_take_of_lt hn]at h2
 obtain⟨vs,q,rr⟩:=s.at_ n a ds (by rw[List.getElem?_append_left (by omega)];exact h1) h2
 exact⟨vs,q,RepL.low (k:=k) (fun m hm=>by rw[List.getElem?_append_left (by omega)]) (fun b hb=>List.mem_append_left _ hb) _ _ (List.all_eq_true.mp l ds (List.mem_of_getElem? h2')) rr⟩
theorem b3k' {E:XK}{d:D}{v:V}{S':Store}{Q:VK}(x:Ext μ H μ' H')(hk:μ.length=k)(s:SOk K mg μ' S' H')(r:Rep K mg μ' H' d v)(w:WantG K mg E (Rep K mg) μ H Q (trim k d S')):Q v H':=by
 unfold trim at w
 split at w
 ·rename_i hl
  split at w
  ·rename_i hd
   refine w μ H' v x.cut (SOk.cut x hk s hl) ?_
   obtain⟨r',rfl⟩:=x.pre
   exact Rep.low (k:=k) (fun m hm=>by rw[List.getElem?_append_left (by omega)]) (fun b hb=>List.mem_append_left _ hb) _ _ hd r
  ·split at w
   ·rename_i n hnl
    split at w
    ·rename_i xs hx
     split at w
     ·rename_i hxl
      unfold Rep at r
      obtain⟨a,rfl,ha⟩:=r
      obtain⟨vs,q,rr⟩:=s.at_ n a xs ha hx
      have s1:=SOk.cut x hk s hl
      obtain⟨r',rfl⟩:=x.pre
      have hnd:=List.nodup_append.mp s.nd
      have hn:μ.length≤n:=by omega
      have har:a∈r':=by
       rw[List.getElem?_append_right hn]at ha
       exact List.mem_of_getElem? ha
      have hna:a∉μ:=fun z=>hnd.2.2 a z a har rfl
      have hfr:H a=none:=by
       rcases x.fresh a (List.mem_append_right _ har)with z|z
       ·exact absurd z hna
       ·exact z
      have sub:∀b∈μ++[a],b∈μ++r':=fun b hb=>by
       rcases List.mem_append.mp hb with z|z
       ·exact List.mem_append_left _ z
       ·have:b=a:=by simpa using z
        subst this;exact List.mem_append_right _ har
      have same:∀m,m<k→(μ++[a])[m]? =(μ++r')[m]? :=fun m hm=>by rw[List.getElem?_append_left (by omega),List.getElem?_append_left (by omega)]
      have hl2:=s.len
      simp at hl2
      refine w (μ++[a]) H' (.ref a) ⟨⟨[a],rfl⟩,x.keep,x.there,fun b hb=> ?_⟩ ⟨s.live,?_,?_,fun m b ds h1 h2=> ?_⟩ ?_
      ·rcases List.mem_append.mp hb with z|z
       ·exact .inl z
       ·have:b=a:=by simpa using z
        subst this;exact .inr hfr
      ·rw[List.length_append,List.length_append,List.length_take];simp;omega
      ·rw[List.nodup_append]
       exact⟨hnd.1,by simp,fun b hb c hc=>by
        have:c=a:=by simpa using hc
        subst this;intro z;subst z;exact hna hb⟩
      ·by_cases hm:m<μ.length
       ·rw[List.getElem?_append_left hm]at h1
        rw[List.getElem?_append_left (by rw[List.length_take];omega)]at h2
        have h2':=h2
        rw[List.getElem?_take_of_lt (by omega)]at h2
        obtain⟨ws,q',rr'⟩:=s.at_ m b ds (by rw[List.getElem?_append_left hm];exact h1) h2
        exact⟨ws,q',RepL.low (k:=k) same sub _ _ (List.all_eq_true.mp hl ds (List.mem_of_getElem? h2')) rr'⟩
       ·have e1:m=μ.length:=by
         have:=(List.getElem?_eq_some_iff.mp h1).1
         simp at this;omega
        subst e1
        rw[List.getElem?_append_right (Nat.le_refl _)]at h1
        rw[List.getElem?_append_right (by rw[List.length_take];omega)]at h2
        have e2:μ.length-(S'.take k).length=0:=by rw[List.length_take];omega
        rw[e2]at h2
        simp at h1 h2
        subst h1;subst h2
        exact⟨vs,q,RepL.low (k:=k) same sub _ _ hxl.1 rr⟩
      ·unfold Rep
       exact⟨a,rfl,by rw[←hk,List.getElem?_append_right (Nat.le_refl _)];simp⟩
     ·exact w.elim
    ·exact w.elim
   ·exact w.elim
 ·exact w.elim
end
theorem b2p' {K:PySem.W.Frag}{mg:GS}{μ:List Addr}{H:Hp}{N:List Str}{ds:List D}{vs:List V}(r:RepL K mg μ H ds vs):EnvR K mg μ H (ds.map some++List.replicate (N.length-ds.length) none) (L2.start N vs):=by
 unfold L2.start
 have hl:=r.length
 refine⟨by simp[hl],fun i d e=> ?_⟩
 by_cases hi:i<ds.length
 ·rw[List.getElem?_append_left (by simpa using hi),List.getElem?_map]at e
  cases e1:ds[i]? with
  |none=>rw[e1]at e;cases e
  |some d'=>
   rw[e1]at e
   cases e
   obtain⟨v,h1,h2⟩:=r.get e1
   exact⟨v,by rw[List.getElem?_append_left (by simp;omega),List.getElem?_map,h1];rfl,h2⟩
 ·rw[List.getElem?_append_right (by simpa using hi),List.getElem?_replicate]at e
  split at e<;>cases e
section
variable {P:Program}{w:World}{K:PySem.W.Frag}{mg:Str→Option Value}{base:Heap}{Φ:FT}{Γ:Str→Option D}{k:Nat}
theorem FOk.mono {CX:CXT}{j:Nat}{f:Str}{φ:List D→Store→Res D}(F:FOk P w K mg base CX j f φ)(h:j≤k):FOk P w K mg base CX k f φ:=by
 obtain⟨fa,fd,ps,m1,m2,m3,m4,m5⟩:=F.ex
 exact⟨fa,fd,ps,m1,m2,m3,m4.mono h,m5⟩
theorem fnok {x qual:Str}{st:Stmt}{f:Addr}{fd:FuncData}{N ps:List Str}{body:List CS}(F:Fun K x qual st f fd)(S:FnScope N ps (a0k' st))(M:MOk P w K mg base CX0 Φ Γ k)(he:emSs body N (a0P' st)=a0P' st)(hc:sdSs body N (a0k' st).names (a0P' st)=true):
  FnOk P w K mg base CX0 (k+1) f fd ps (spOf K mg ps.length (runD Φ Γ body N.length ps.length)):=by
 refine F.ok S (fun vs H Q E h=>h.1) (fun cdv A outer s H vs Q E hr h=> ?_)
 ·obtain⟨hl,F',μ,S0,ds,sk,r,wt⟩:=h
  have O:YOk (cxOf CX0 P w K mg base N qual (a0k' st) f cdv A outer s H E).nox N (a0k' st).names CX0 E Φ Γ k:=⟨⟨rfl,S.nd,rfl,S.kind,rfl,hr,fun _ _=>rfl,M,fun _ _ _ _ _ _ _ z=>z.elim,fun _ _ _ _ _ z=>z⟩,PassesOwn.never⟩
  refine⟨_,he▸a5g' body O hc,F',μ,ds.map some++List.replicate (N.length-ds.length) none,S0,sk,b2p' r,?_⟩
  have hl2:ds.length=ps.length:=by rw[r.length];exact hl
  unfold runD at wt
  rw[if_pos hl2,←hl2]at wt
  have hkl:μ.length=S0.length:=sk.len
  show WantS K ⟨mg,F'⟩ E _ μ H (denSs Φ Γ body (ds.map some++List.replicate (N.length-ds.length) none) S0)
  cases e:denSs Φ Γ body (ds.map some++List.replicate (N.length-ds.length) none) S0 with
  |ok fl S'=>
   rw[e]at wt
   cases fl with
   |next ρ=>exact fun μ' H' σ' x s' _=>b3k' x hkl s' b1G' wt
   |ret d=>exact fun μ' H' v x s' r'=>b3k' x hkl s' r' wt
   |brk ρ=>exact wt.elim
   |cont ρ=>exact wt.elim
  |err y S'=>
   rw[e]at wt
   intro μ' H' x s'
   by_cases hz:(S'.take S0.length).all (lowL S0.length)=true
   ·simp only[hz,if_true]at wt
    exact wt μ H' x.cut (SOk.cut x hkl s' hz)
   ·simp only[hz]at wt
    exact wt.elim
  |fail=>rw[e]at wt;exact wt.elim
theorem fok {x qual:Str}{st:Stmt}{f:Addr}{fd:FuncData}{N ps:List Str}{body:List CS}(F:Fun K x qual st f fd)(S:FnScope N ps (a0k' st))(hm:mg x=some (.ref f))(hb:Binds K fd ps [])(M:MOk P w K mg base CX0 Φ Γ k)(he:emSs body N (a0P' st)=a0P' st)(hc:sdSs body N (a0k' st).names (a0P' st)=true):
  FOk P w K mg base CX0 (k+1) x (runD Φ Γ body N.length ps.length):=by
 refine⟨f,fd,ps,hm,F.kp,hb,fnok F S M he hc,fun ds S' hne=> ?_⟩
 unfold runD at hne
 by_cases h:ds.length=ps.length
 ·exact h
 ·rw[if_neg h]at hne;exact absurd rfl hne
theorem fok0 {x qual:Str}{st:Stmt}{f:Addr}{fd:FuncData}{N ps:List Str}(F:Fun K x qual st f fd)(S:FnScope N ps (a0k' st))(hm:mg x=some (.ref f))(hb:Binds K fd ps []):FOk P w K mg base CX0 k x (fun _ _=>.fail):=
 ⟨f,fd,ps,hm,F.kp,hb,⟨fun vs H Q E h=>h.1,fun A outer s H args us vs Q E _ _ _ _ h=>by obtain⟨_,_,_,_,_,_,_,z⟩:=h;exact z.elim⟩,fun _ _ h=>absurd rfl h⟩
theorem len1 {P:List Value→Prop}(h:∀a,P [a]):∀us:List Value,us.length=1→P us:=fun us hl=>by
 obtain⟨a,rfl⟩:=List.length_eq_one_iff.mp hl
 exact h a
theorem len2 {P:List Value→Prop}(h:∀a b,P [a,b]):∀us:List Value,us.length=2→P us:=fun us hl=>by
 cases us with
 |nil=>cases hl
 |cons a us=>exact len1 (P:=fun us=>P (a::us)) (h a) us (Nat.succ.inj hl)
theorem len3 {P:List Value→Prop}(h:∀a b c,P [a,b,c]):∀us:List Value,us.length=3→P us:=fun us hl=>by
 cases us with
 |nil=>cases hl
 |cons a us=>exact len2 (P:=fun us=>P (a::us)) (h a) us (Nat.succ.inj hl)
def tbl (l:List (Str×(List D→Store→Res D))):FT:=fun f=>l.lookup f
theorem mok {l:List (Str×(List D→Store→Res D))}(h:∀p∈l,FOk P w K mg base CX0 k p.1 p.2)(hg:∀x d,Γ x=some d→∃v u,mg x=some u∧RelV v u∧∀F μ H,Rep K ⟨mg,F⟩ μ H d v)(hb:∀x∈a1O',mg x=none):MOk P w K mg base CX0 (tbl l) Γ k:=
 ⟨fun f φ e=>h (f,φ) (PySem.mem_of_lookup e),hg,hb⟩
end
end Py
end
section
namespace K15
open PySem PySem.Spec PyProof.Rows L2 Py
def G0:Str→Option D:=fun x=>[(("MOST_PLACES":Str),D.int 8)].lookup x
def a9d':List Str:=["thing"]
def a9e':List CS:=[.ret (.band (.blt .isinst [.var 0,.ty "int"]) (.bnot (.blt .isinst [.var 0,.ty "bool"])))]
def a9f':FT:=tbl []
def a2k':List D→Store→Res D:=runD a9f' G0 a9e' a9d'.length 1
def a1S':List Str:=["thing","low","high"]
def a1T':List CS:=[.ret (.band (.call "is_number" [.var 0]) (.chain .LtE .LtE (.var 1) (.var 0) (.var 2)))]
def a1U':FT:=tbl [("is_number",a2k')]
theorem a1e':a1U' "is_number"=some a2k':=rfl
def a0h':List D→Store→Res D:=runD a1U' G0 a1T' a1S'.length 3
def a6C':List Str:=["many","thing"]
def a6D':List CS:=[.ret (.call "is_number_from" [.var 1,.lit (.int 0),.bin .Sub (.var 0) (.lit (.int 1))])]
def a6E':FT:=tbl [("is_number_from",a0h')]
theorem a1m':a6E' "is_number_from"=some a0h':=rfl
def a2O':List D→Store→Res D:=runD a6E' G0 a6D' a6C'.length 2
def a5h':List Str:=["things"]
def a5i':List CS:=[.ret (.blt .all [.comp false ["one","other"] [none,none] (.tup [.var 0,.var 1]) (.zip [.var 0,.sl (.var 0) [.lit (.int 1)] []]) [] (.emit (.cmp .Lt (.var 0) (.var 1)))])]
def a9g':FT:=tbl []
def a0r':List D→Store→Res D:=runD a9g' G0 a5i' a5h'.length 1
def a4g':List Str:=["many","thing"]
def a4h':List CS:=[.ret (.band (.blt .isinst [.var 1,.ty "tuple"]) (.blt .all [.comp false ["place","many"] [none,some 0] (.var 0) (.seq (.var 1)) [] (.emit (.call "is_place" [.var 1,.var 0]))]))]
def a4i':FT:=tbl [("is_place",a2O')]
theorem a1V':a4i' "is_place"=some a2O':=rfl
def a0Z':List D→Store→Res D:=runD a4i' G0 a4h' a4g'.length 2
def a4j':List Str:=["things"]
def a4k':List CS:=[.ret (.cmp .Eq (.lenset (.var 0)) (.blt .len [.var 0]))]
def a7C':FT:=tbl []
def a1y':List D→Store→Res D:=runD a7C' G0 a4k' a4j'.length 1
def b0H':List Str:=["many","thing"]
def b0I':List CS:=[.ret (.band (.call "are_places" [.var 0,.var 1]) (.band (.cmp .Eq (.blt .len [.var 1]) (.lit (.int 2))) (.call "is_rising" [.var 1])))]
def a7D':FT:=tbl [("are_places",a0Z'),("is_rising",a0r')]
theorem a2A':a7D' "are_places"=some a0Z':=rfl
theorem a2P':a7D' "is_rising"=some a0r':=rfl
def a3i':List D→Store→Res D:=runD a7D' G0 b0I' b0H'.length 2
def b0J':List Str:=["thing","many","ties"]
def b0K':List CS:=[.ite (.bor (.bnot (.blt .isinst [.var 0,.ty "tuple"])) (.cmp .NotEq (.blt .len [.var 0]) (.lit (.int 2)))) [.ret (.lit (.bl false))] [],.asgT (.tup [.var 1,.var 2]) (.var 0),.ite (.bor (.bnot (.call "is_number_from" [.var 1,.lit (.int 1),.glob "MOST_PLACES"])) (.bnot (.blt .isinst [.var 2,.ty "tuple"]))) [.ret (.lit (.bl false))] [],.ret (.band (.blt .all [.comp false ["tie","many"] [none,some 1] (.var 0) (.seq (.var 2)) [] (.emit (.call "is_tie" [.var 1,.var 0]))]) (.call "is_rising" [.var 2]))]
def a5S':FT:=tbl [("is_rising",a0r'),("is_number_from",a0h'),("is_tie",a3i')]
theorem a2Q':a5S' "is_rising"=some a0r':=rfl
theorem a1z':a5S' "is_number_from"=some a0h':=rfl
theorem a1W':a5S' "is_tie"=some a3i':=rfl
def a5T':List D→Store→Res D:=runD a5S' G0 b0K' b0J'.length 1
def a6F':List Str:=["web","thing"]
def a6G':List CS:=[.ite (.bnot (.blt .isinst [.var 1,.ty "tuple"])) [.ret (.lit (.bl false))] [],.ret (.band (.blt .all [.comp false ["tie","web"] [none,some 0] (.var 0) (.seq (.var 1)) [] (.emit (.band (.call "is_tie" [.idx (.var 1) (.lit (.int 0)),.var 0]) (.cmp .In (.var 0) (.idx (.var 1) (.lit (.int 1))))))]) (.call "is_rising" [.var 1]))]
def a4l':FT:=tbl [("is_rising",a0r'),("is_tie",a3i')]
theorem a2s':a4l' "is_rising"=some a0r':=rfl
theorem a3j':a4l' "is_tie"=some a3i':=rfl
def a2R':List D→Store→Res D:=runD a4l' G0 a6G' a6F'.length 2
def a3x':List Str:=["thing"]
def a3y':List CS:=[.ite (.bnot (.call "is_web" [.var 0])) [.never] []]
def a3z':FT:=tbl [("is_web",a5T')]
theorem a2t':a3z' "is_web"=some a5T':=rfl
def a0v':List D→Store→Res D:=runD a3z' G0 a3y' a3x'.length 1
def a4m':List Str:=["web","thing"]
def a4n':List CS:=[.expr (.call "must_be_web" [.var 0]),.ret (.band (.call "are_ties" [.var 0,.var 1]) (.call "are_unlike" [.comp false ["tie","place"] [none,none] (.var 0) (.seq (.var 1)) [] (.inner (.var 1) (.seq (.var 0)) [] (.emit (.var 1)))]))]
def a1A':FT:=tbl [("must_be_web",a0v'),("are_ties",a2R'),("are_unlike",a1y')]
theorem a1s':a1A' "must_be_web"=some a0v':=rfl
theorem a1X':a1A' "are_ties"=some a2R':=rfl
theorem a1B':a1A' "are_unlike"=some a1y':=rfl
def a1C':List D→Store→Res D:=runD a1A' G0 a4n' a4m'.length 2
def a1J':List Str:=["web","thing"]
def a1K':List CS:=[.ite (.bnot (.call "is_pairing" [.var 0,.var 1])) [.never] []]
def a1L':FT:=tbl [("is_pairing",a1C')]
theorem a0W':a1L' "is_pairing"=some a1C':=rfl
def a0G':List D→Store→Res D:=runD a1L' G0 a1K' a1J'.length 2
def a8s':List Str:=["pairing","place","low","high"]
def a8t':List CS:=[.for_ (.tup [.var 2,.var 3]) (.seq (.var 0)) [.ite (.cmp .Eq (.var 1) (.var 2)) [.ret (.var 3)] [],.ite (.cmp .Eq (.var 1) (.var 3)) [.ret (.var 2)] []],.ret (.lit (.non))]
def a2S':FT:=tbl []
def a1D':List D→Store→Res D:=runD a2S' G0 a8t' a8s'.length 2
def a6H':List Str:=["web","ties"]
def a6I':List CS:=[.ret (.blt .tuple [.comp false ["place","ties"] [none,some 1] (.var 0) (.range [.idx (.var 0) (.lit (.int 0))]) [.cmp .Is (.call "mate_of" [.var 1,.var 0]) (.lit (.non))] (.emit (.var 0))])]
def a6J':FT:=tbl [("mate_of",a1D')]
theorem a2T':a6J' "mate_of"=some a1D':=rfl
def a2U':List D→Store→Res D:=runD a6J' G0 a6I' a6H'.length 2
def b3l':List Str:=["web","pairing"]
def b3m':List CS:=[.expr (.call "must_be_pairing" [.var 0,.var 1]),.ret (.call "loose_of" [.var 0,.var 1])]
def b0L':FT:=tbl [("must_be_pairing",a0G'),("loose_of",a2U')]
theorem a1E':b0L' "must_be_pairing"=some a0G':=rfl
theorem a3F':b0L' "loose_of"=some a2U':=rfl
def a4o':List D→Store→Res D:=runD b0L' G0 b3m' b3l'.length 2
def a5U':List Str:=["web","found","place","ties"]
def a1F':List CS:=[.expr (.call "must_be_web" [.var 0]),.asg 1 (.lst false [.tup []]),.for_ (.var 2) (.down [.idx (.var 0) (.lit (.int 0))]) [.asg 3 (.comp false ["tie","place"] [none,some 2] (.var 0) (.seq (.idx (.var 0) (.lit (.int 1)))) [.cmp .Eq (.idx (.var 0) (.lit (.int 0))) (.var 1)] (.emit (.var 0))),.asg 1 (.bin .Add (.var 1) (.comp false ["tie","pairing","found"] [none,none,some 1] (.var 0) (.seq (.var 3)) [] (.inner (.var 1) (.seq (.var 2)) [.cmp .Is (.call "mate_of" [.var 1,.idx (.var 0) (.lit (.int 1))]) (.lit (.non))] (.emit (.bin .Add (.tup [.var 0]) (.var 1))))))],.ret (.blt (.sorted true (.seq (.seq .int))) [.var 1])]
def a0f':FT:=tbl [("must_be_web",a0v'),("mate_of",a1D')]
theorem a1f':a0f' "must_be_web"=some a0v':=rfl
theorem a1M':a0f' "mate_of"=some a1D':=rfl
def a0C':List D→Store→Res D:=runD a0f' G0 a1F' a5U'.length 1
def a4p':List Str:=["web","found","many"]
def a1Y':List CS:=[.asg 1 (.call "all_pairings" [.var 0]),.asg 2 (.blt .max [.comp false ["pairing"] [none] (.var 0) (.seq (.var 1)) [] (.emit (.blt .len [.var 0]))]),.ret (.comp true ["pairing","many"] [none,some 2] (.var 0) (.seq (.var 1)) [.cmp .Eq (.blt .len [.var 0]) (.var 1)] (.emit (.var 0)))]
def a0q':FT:=tbl [("all_pairings",a0C')]
theorem a1G':a0q' "all_pairings"=some a0C':=rfl
def a2V':List D→Store→Res D:=runD a0q' G0 a1Y' a4p'.length 1
def a1a':List Str:=["web"]
def a0w':List CS:=[.ret (.idx (.call "greatest" [.var 0]) (.lit (.int 0)))]
def a0x':FT:=tbl [("greatest",a2V')]
theorem a1n':a0x' "greatest"=some a2V':=rfl
def a0n':List D→Store→Res D:=runD a0x' G0 a0w' a1a'.length 1
def b0M':List Str:=["web","pairing"]
def a4q':List CS:=[.ret (.bnot (.call "loose" [.var 0,.var 1]))]
def a4r':FT:=tbl [("loose",a4o')]
theorem a3G':a4r' "loose"=some a4o':=rfl
def a1t':List D→Store→Res D:=runD a4r' G0 a4q' b0M'.length 2
def a9h':List Str:=["web"]
def a3k':List CS:=[.ret (.call "is_whole" [.var 0,.call "first_greatest" [.var 0]])]
def a2l':FT:=tbl [("is_whole",a1t'),("first_greatest",a0n')]
theorem a2u':a2l' "is_whole"=some a1t':=rfl
theorem a1g':a2l' "first_greatest"=some a0n':=rfl
def a2m':List D→Store→Res D:=runD a2l' G0 a3k' a9h'.length 1
def a4N':List Str:=["thing","least"]
def a4O':List CS:=[.ite (.bnot (.call "is_number_from" [.var 0,.var 1,.glob "MOST_PLACES"])) [.never] []]
def a4P':FT:=tbl [("is_number_from",a0h')]
def a0O':List D→Store→Res D:=runD a4P' G0 a4O' a4N'.length 2
def n_row:List Str:=["n"]
def c_row:List CS:=[.expr (.call "must_be_count" [.var 0,.lit (.int 1)]),.ret (.tup [.var 0,.blt .tuple [.comp false ["place"] [none] (.var 0) (.range [.bin .Sub (.var 0) (.lit (.int 1))]) [] (.emit (.tup [.var 0,.bin .Add (.var 0) (.lit (.int 1))]))]])]
def t_row:FT:=tbl [("must_be_count",a0O')]
def f_row:List D→Store→Res D:=runD t_row G0 c_row n_row.length 1
def n_ring:List Str:=["n","many","ties"]
def c_ring:List CS:=[.expr (.call "must_be_count" [.var 0,.lit (.int 3)]),.asgT (.tup [.var 1,.var 2]) (.call "row" [.var 0]),.ret (.tup [.var 1,.blt .tuple [.blt (.sorted false (.seq .int)) [.bin .Add (.var 2) (.tup [.tup [.lit (.int 0),.bin .Sub (.var 0) (.lit (.int 1))]])]]])]
def t_ring:FT:=tbl [("must_be_count",a0O'),("row",f_row)]
def f_ring:List D→Store→Res D:=runD t_ring G0 c_ring n_ring.length 1
def n_star:List Str:=["n"]
def c_star:List CS:=[.expr (.call "must_be_count" [.var 0,.lit (.int 1)]),.ret (.tup [.var 0,.blt .tuple [.comp false ["place"] [none] (.var 0) (.range [.lit (.int 1),.var 0]) [] (.emit (.tup [.lit (.int 0),.var 0]))]])]
def t_star:FT:=tbl [("must_be_count",a0O')]
def f_star:List D→Store→Res D:=runD t_star G0 c_star n_star.length 1
def a4s':List Str:=["_law_found","_law_due","_law_one","_law_other"]
def a6K':List CS:=[.ite (.cmp .Is (.var 1) (.lit (.non))) [.ret (.cmp .Is (.var 0) (.lit (.non)))] [],.ite (.blt .isinst [.var 1,.ty "bool"]) [.ret (.band (.blt .isinst [.var 0,.ty "bool"]) (.cmp .Eq (.var 0) (.var 1)))] [],.ite (.blt .isinst [.var 1,.ty "int"]) [.ret (.band (.blt .isinst [.var 0,.ty "int"]) (.band (.bnot (.blt .isinst [.var 0,.ty "bool"])) (.cmp .Eq (.var 0) (.var 1))))] [],.ite (.blt .isinst [.var 1,.ty "str"]) [.ret (.band (.blt .isinst [.var 0,.ty "str"]) (.cmp .Eq (.var 0) (.var 1)))] [],.ite (.bor (.cmp .NotEq (.blt .isinst [.var 1,.ty "list"]) (.blt .isinst [.var 0,.ty "list"])) (.cmp .NotEq (.blt .isinst [.var 1,.ty "tuple"]) (.blt .isinst [.var 0,.ty "tuple"]))) [.ret (.lit (.bl false))] [],.ite (.cmp .NotEq (.blt .len [.var 0]) (.blt .len [.var 1])) [.ret (.lit (.bl false))] [],.for_ (.tup [.var 2,.var 3]) (.zip [.var 0,.var 1]) [.ite (.bnot (.call "_law_same" [.var 2,.var 3])) [.ret (.lit (.bl false))] []],.ret (.lit (.bl true))]
def a1H':Nat→List D→Store→Res D
 |0=>fun _ _=>.fail
 |n+1=>runD (tbl [("_law_same",a1H' n)]) G0 a6K' a4s'.length 2
def a2W':List D→Store→Res D:=a1H' 6
def a6L':List Str:=["_law_script","_law_k"]
def a6M':List CS:=[.ite (.cmp .Lt (.var 1) (.blt .len [.var 0])) [.ret (.idx (.var 0) (.var 1))] [],.ret (.lit (.int 0))]
def b0N':FT:=tbl []
def a1u':List D→Store→Res D:=runD b0N' G0 a6M' a6L'.length 2
def a3R':List Str:=["_law_cell_here"]
def a3S':List CS:=[.ret (.lst true [.var 0,.blt .int [.cmp .GtE (.var 0) (.bin .Pow (.lit (.int 10)) (.lit (.int 18)))]])]
def a5V':FT:=tbl []
def a2n':List D→Store→Res D:=runD a5V' G0 a3S' a3R'.length 1
def a4t':List Str:=["_law_pen_here","_law_many","_law_found"]
def a4u':List CS:=[.ite (.cmp .Eq (.idx (.var 0) (.lit (.int 1))) (.lit (.int 1))) [.asg 2 (.bin .Mod (.idx (.var 0) (.lit (.int 0))) (.var 1)),.set (.var 0) (.lit (.int 0)) (.bin .FloorDiv (.idx (.var 0) (.lit (.int 0))) (.var 1)),.ret (.var 2)] [],.set (.var 0) (.lit (.int 0)) (.bin .Mod (.bin .Add (.bin .Mult (.bin .Mod (.idx (.var 0) (.lit (.int 0))) (.lit (.int 2147483629))) (.lit (.int 48271))) (.lit (.int 11))) (.lit (.int 2147483629))),.ret (.bin .Mod (.bin .FloorDiv (.bin .Mod (.bin .Add (.bin .Mult (.idx (.var 0) (.lit (.int 0))) (.idx (.var 0) (.lit (.int 0)))) (.bin .Mult (.lit (.int 40692)) (.idx (.var 0) (.lit (.int 0))))) (.lit (.int 2147483647))) (.lit (.int 8))) (.var 1))]
def b0O':FT:=tbl []
def a0y':List D→Store→Res D:=runD b0O' G0 a4u' a4t'.length 2
def a5j':List Str:=["_law_many","_law_found","_law_one"]
def a5k':List CS:=[.asg 1 (.lst false []),.for_ (.var 2) (.range [.var 0]) [.asg 1 (.bin .Add (.var 1) (.comp false ["_law_other","_law_one"] [none,some 2] (.var 0) (.range [.bin .Add (.var 2) (.lit (.int 1)),.var 0]) [] (.emit (.tup [.var 1,.var 0]))))],.ret (.var 1)]
def a5l':FT:=tbl []
def a2o':List D→Store→Res D:=runD a5l' G0 a5k' a5j'.length 1
def b2q':List Str:=["_law_pen_here","_law_upto","_law_many","_law_way","_law_rest","_law_mids","_law_often"]
def a5W':List CS:=[.asg 2 (.bin .Sub (.bin .Sub (.bin .Add (.lit (.int 1)) (.var 1)) (.lit (.int 1))) (.bin .Mod (.idx (.lst false [.lit (.int 0),.lit (.int 0),.lit (.int 1),.lit (.int 0),.lit (.int 2),.lit (.int 1),.lit (.int 3),.lit (.int 4),.lit (.int 5),.lit (.int 6),.lit (.int 7),.lit (.int 0)]) (.call "_law_draw" [.var 0,.lit (.int 12)])) (.var 1))),.asg 3 (.call "_law_draw" [.var 0,.lit (.int 9)]),.ite (.band (.cmp .Eq (.var 3) (.lit (.int 0))) (.cmp .Gt (.var 2) (.lit (.int 2)))) [.ret (.tup [.var 2,.blt .tuple [.blt (.sorted false (.seq .int)) [.bin .Add (.comp false ["_law_k"] [none] (.var 0) (.range [.bin .Sub (.var 2) (.lit (.int 1))]) [] (.emit (.tup [.var 0,.bin .Add (.var 0) (.lit (.int 1))]))) (.lst false [.tup [.lit (.int 0),.bin .Sub (.var 2) (.lit (.int 1))]])]]])] [],.ite (.band (.cmp .Eq (.var 3) (.lit (.int 1))) (.cmp .Gt (.var 2) (.lit (.int 5)))) [.asg 4 (.bin .Add (.comp false ["_law_k"] [none] (.var 0) (.range [.lit (.int 3),.bin .Sub (.var 2) (.lit (.int 1))]) [] (.emit (.tup [.var 0,.bin .Add (.var 0) (.lit (.int 1))]))) (.lst false [.tup [.lit (.int 3),.bin .Sub (.var 2) (.lit (.int 1))],.tup [.lit (.int 2),.lit (.int 3)]])),.ret (.tup [.var 2,.blt .tuple [.blt (.sorted false (.seq .int)) [.bin .Add (.lst false [.tup [.lit (.int 0),.lit (.int 1)],.tup [.lit (.int 0),.lit (.int 2)],.tup [.lit (.int 1),.lit (.int 2)]]) (.var 4)]]])] [],.ite (.band (.cmp .Eq (.var 3) (.lit (.int 2))) (.cmp .Gt (.var 2) (.lit (.int 2)))) [.asg 5 (.bin .Add (.lit (.int 1)) (.call "_law_draw" [.var 0,.lit (.int 2)])),.ret (.tup [.var 2,.blt .tuple [.comp false ["_law_tie","_law_mids"] [none,some 5] (.var 0) (.seq (.call "_law_pairs" [.var 2])) [.chain .Lt .LtE (.idx (.var 0) (.lit (.int 0))) (.var 1) (.idx (.var 0) (.lit (.int 1)))] (.emit (.var 0))]])] [],.ite (.cmp .Eq (.var 3) (.lit (.int 3))) [.ret (.tup [.var 2,.blt .tuple [.blt (.sorted false (.seq .int)) [.comp false ["_law_place","_law_pen_here"] [none,some 0] (.var 0) (.range [.lit (.int 1),.var 2]) [] (.emit (.tup [.call "_law_draw" [.var 1,.var 0],.var 0]))]]])] [],.asg 6 (.idx (.lst false [.lit (.int 2),.lit (.int 3),.lit (.int 4),.lit (.int 6),.lit (.int 8)]) (.call "_law_draw" [.var 0,.lit (.int 5)])),.ret (.tup [.var 2,.blt .tuple [.comp false ["_law_tie","_law_pen_here","_law_often"] [none,some 0,some 6] (.var 0) (.seq (.call "_law_pairs" [.var 2])) [.cmp .Lt (.call "_law_draw" [.var 1,.lit (.int 8)]) (.var 2)] (.emit (.var 0))]])]
def a0H':FT:=tbl [("_law_draw",a0y'),("_law_pairs",a2o')]
theorem a0e':a0H' "_law_draw"=some a0y':=rfl
theorem a1b':a0H' "_law_pairs"=some a2o':=rfl
def a2p':List D→Store→Res D:=runD a0H' G0 a5W' b2q'.length 2
def a6N':List Str:=["_law_web_here","_law_place"]
def a6O':List CS:=[.ret (.blt (.sorted false (.int)) [.comp false ["_law_one","_law_other","_law_place"] [none,none,some 1] (.tup [.var 0,.var 1]) (.seq (.idx (.var 0) (.lit (.int 1)))) [.cmp .In (.var 2) (.tup [.var 0,.var 1])] (.emit (.bin .Sub (.bin .Add (.var 0) (.var 1)) (.var 2)))])]
def b0P':FT:=tbl []
def a0K':List D→Store→Res D:=runD b0P' G0 a6O' a6N'.length 2
def a4v':List Str:=["_law_web_here","_law_best","_law_used","_law_low","_law_rest","_law_found","_law_other"]
def a1Z':List CS:=[.asg 1 (.lst true [.lit (.int 0)]),.for_ (.var 2) (.range [.lit (.int 1),.bin .LShift (.lit (.int 1)) (.idx (.var 0) (.lit (.int 0)))]) [.asg 3 (.idx (.comp false ["_law_place","_law_used"] [none,some 2] (.var 0) (.range [.idx (.var 0) (.lit (.int 0))]) [.cmp .Eq (.bin .Mod (.bin .RShift (.var 1) (.var 0)) (.lit (.int 2))) (.lit (.int 1))] (.emit (.var 0))) (.lit (.int 0))),.asg 4 (.bin .Sub (.var 2) (.bin .LShift (.lit (.int 1)) (.var 3))),.asg 5 (.idx (.var 1) (.var 4)),.for_ (.var 6) (.seq (.call "_law_near" [.var 0,.var 3])) [.ite (.cmp .Eq (.bin .Mod (.bin .RShift (.var 4) (.var 6)) (.lit (.int 2))) (.lit (.int 1))) [.asg 5 (.blt .max [.var 5,.bin .Add (.lit (.int 1)) (.idx (.var 1) (.bin .Sub (.var 4) (.bin .LShift (.lit (.int 1)) (.var 6))))])] []],.expr (.meth .append (.var 1) [.var 5])],.ret (.idx (.var 1) (.neg (.lit (.int 1))))]
def a0d':FT:=tbl [("_law_near",a0K')]
theorem a2B':a0d' "_law_near"=some a0K':=rfl
def a1v':List D→Store→Res D:=runD a0d' G0 a1Z' a4v'.length 1
def a3l':List Str:=["_law_web_here","_law_rows","_law_place","_law_more","_law_chain","_law_used","_law_other"]
def a1w':List CS:=[.asg 1 (.lst false [.tup [.tup [],.lit (.int 0)]]),.for_ (.var 2) (.range [.idx (.var 0) (.lit (.int 0))]) [.asg 3 (.lst true []),.for_ (.tup [.var 4,.var 5]) (.seq (.var 1)) [.expr (.meth .append (.var 3) [.tup [.var 4,.var 5]]),.ite (.cmp .Eq (.bin .Mod (.bin .RShift (.var 5) (.var 2)) (.lit (.int 2))) (.lit (.int 0))) [.for_ (.var 6) (.seq (.call "_law_near" [.var 0,.var 2])) [.ite (.band (.cmp .Gt (.var 6) (.var 2)) (.cmp .Eq (.bin .Mod (.bin .RShift (.var 5) (.var 6)) (.lit (.int 2))) (.lit (.int 0)))) [.expr (.meth .append (.var 3) [.tup [.bin .Add (.var 4) (.tup [.tup [.var 2,.var 6]]),.bin .Add (.bin .Add (.var 5) (.bin .LShift (.lit (.int 1)) (.var 2))) (.bin .LShift (.lit (.int 1)) (.var 6))]])] []]] []],.asg 1 (.var 3)],.ret (.blt (.sorted false (.seq (.seq .int))) [.comp false ["_law_chain","_law_used"] [none,none] (.tup [.var 0,.var 1]) (.seq (.var 1)) [] (.emit (.var 0))])]
def a0b':FT:=tbl [("_law_near",a0K')]
theorem a2v':a0b' "_law_near"=some a0K':=rfl
def a0Y':List D→Store→Res D:=runD a0b' G0 a1w' a3l'.length 1
def a2a':List Str:=["_law_pen_here","_law_web_here","_law_left","_law_found","_law_tie"]
def a0Q':List CS:=[.asg 2 (.blt (.list true) [.idx (.var 1) (.lit (.int 1))]),.asg 3 (.lst true []),.while_ 40 (.cmp .NotEq (.var 2) (.lst false [])) [.asg 4 (.meth .pop (.var 2) [.call "_law_draw" [.var 0,.blt .len [.var 2]]]),.ite (.band (.blt .all [.comp false ["_law_one","_law_tie"] [none,some 4] (.var 0) (.seq (.var 3)) [] (.emit (.band (.cmp .NotIn (.idx (.var 1) (.lit (.int 0))) (.var 0)) (.cmp .NotIn (.idx (.var 1) (.lit (.int 1))) (.var 0))))]) (.cmp .Gt (.call "_law_draw" [.var 0,.lit (.int 4)]) (.lit (.int 0)))) [.expr (.meth .append (.var 3) [.var 4])] []],.ret (.blt .tuple [.blt (.sorted false (.seq .int)) [.var 3]])]
def a0a':FT:=tbl [("_law_draw",a0y')]
theorem a0L':a0a' "_law_draw"=some a0y':=rfl
def a0z':List D→Store→Res D:=runD a0a' G0 a0Q' a2a'.length 2
def n_law:List Str:=["_law_script","_law_many","_law_cell_here","_law_pen_here","_law_web_here","_law_best","_law_pairing_here"]
def c_law:List CS:=[.for_ (.var 1) (.range [.lit (.int 1),.lit (.int 9)]) [.ite (.bor (.bnot (.call "_law_same" [.call "has_whole" [.call "row" [.var 1]],.cmp .Eq (.bin .Mod (.var 1) (.lit (.int 2))) (.lit (.int 0))])) (.bnot (.call "_law_same" [.call "has_whole" [.call "star" [.var 1]],.cmp .Eq (.var 1) (.lit (.int 2))]))) [.ret (.lit (.bl false))] [],.ite (.band (.cmp .Gt (.var 1) (.lit (.int 2))) (.cmp .NotEq (.call "has_whole" [.call "ring" [.var 1]]) (.cmp .Eq (.bin .Mod (.var 1) (.lit (.int 2))) (.lit (.int 0))))) [.ret (.lit (.bl false))] []],.for_ (.var 2) (.seq (.bin .Add (.lst false [.call "_law_cell" [.var 0,.lit (.int 0)]]) (.sl (.var 0) [.lit (.int 1)] [.lit (.int 6)]))) [.asg 3 (.call "_law_pen" [.var 2]),.asg 4 (.call "_law_web" [.var 3,.lit (.int 8)]),.asg 1 (.call "_law_most" [.var 4]),.asg 5 (.idx (.comp false ["_law_pairing_here","_law_many"] [none,some 1] (.var 0) (.seq (.call "_law_every" [.var 4])) [.cmp .Eq (.blt .len [.var 0]) (.var 1)] (.emit (.var 0))) (.neg (.lit (.int 1)))),.for_ (.var 6) (.seq (.lst false [.call "_law_pairing" [.var 3,.var 4],.call "_law_pairing" [.var 3,.var 4],.tup [],.var 5])) [.ite (.bnot (.call "_law_same" [.call "is_whole" [.var 4,.var 6],.cmp .Eq (.bin .Mult (.lit (.int 2)) (.blt .len [.var 6])) (.idx (.var 4) (.lit (.int 0)))])) [.ret (.lit (.bl false))] []],.ite (.bnot (.call "_law_same" [.call "has_whole" [.var 4],.cmp .Eq (.bin .Mult (.lit (.int 2)) (.var 1)) (.idx (.var 4) (.lit (.int 0)))])) [.ret (.lit (.bl false))] []],.ret (.lit (.bl true))]
def t_law:FT:=tbl [("_law_pen",a2n'),("_law_web",a2p'),("_law_most",a1v'),("_law_cell",a1u'),("_law_pairing",a0z'),("_law_same",a2W'),("has_whole",a2m'),("ring",f_ring),("_law_every",a0Y'),("is_whole",a1t'),("row",f_row),("star",f_star)]
theorem a5X':t_law "_law_pen"=some a2n':=rfl
theorem a5Y':t_law "_law_web"=some a2p':=rfl
theorem a4Q':t_law "_law_most"=some a1v':=rfl
theorem a4R':t_law "_law_cell"=some a1u':=rfl
theorem a3m':t_law "_law_pairing"=some a0z':=rfl
theorem a2x':t_law "_law_same"=some a2W':=rfl
theorem a4w':t_law "has_whole"=some a2m':=rfl
theorem a4x':t_law "_law_every"=some a0Y':=rfl
theorem a4S':t_law "is_whole"=some a1t':=rfl
def f_law:List D→Store→Res D:=runD t_law G0 c_law n_law.length 1
end K15
end
section
namespace K15
open PySem PySem.Spec PyProof.Rows L2 Py
def top (i:Nat):Stmt:=PySem.Challenge.pw_pairwebs_k15_whole_pairings.main.body.getD i (.Pass ⟨0,0,0,0⟩)
def DefIn (K:PySem.W.Frag)(x:Str)(st:Stmt):Prop:=∃f fd,PySem.W.nsIn K mainGlobals x=some (some (.ref f))∧Fun K x x st f fd
theorem dm {K:PySem.W.Frag}{x:Str}{st:Stmt}{f:Addr}{oc:Value}{od an:Option Addr}{osl:Array (Option Value)}{kV doc pm cdv ct:Value}(a:PySem.W.nsIn K mainGlobals x=some (some (.ref f)))(l:K.lookup f=some ⟨oc,od,.func (PySem.W.fnOf x x (a3V' st) (a0P' st) (a0k' st) .none kV doc pm an cdv ct),osl⟩)
  (c:PySem.W.codeIn K cdv x=true) (k:PySem.W.keepIn K (.ref f)=true):DefIn K x st:=⟨f,_,a,fun_mk l c k⟩
def b2r' (N P:List Str)(sc:Scope):Bool:=(sc.kind== .function)&& !sc.isCoroutine&& !sc.isGenerator&&a8S' N&&(N.take P.length==P)&&P.all (fun x=>sc.names.lookup x==some .local||sc.names.lookup x==some .cell)&&sc.names.all (fun y=>y.2 !=.free)
theorem a3n' {N P:List Str}{sc:Scope}(h:b2r' N P sc=true):FnScope N P sc:=by
 unfold b2r' at h
 simp only[Bool.and_eq_true,beq_iff_eq,List.all_eq_true,Bool.or_eq_true,bne_iff_ne,Bool.not_eq_true']at h
 obtain⟨⟨⟨⟨⟨⟨h1,h2⟩,h3⟩,h4⟩,h5⟩,h6⟩,h7⟩:=h
 exact⟨h1,h2,h3,a3g' h4,h5,h6,h7⟩
structure En (K:PySem.W.Frag)(mg:Str→Option Value)(h:Heap):Prop where
 X:K.In h
 G:h.Ns mainGlobals mg
 hg:∀x d,G0 x=some d→∃v u,mg x=some u∧RelV v u∧∀F μ H,Rep K ⟨mg,F⟩ μ H d v
 hb:∀x∈a1O',mg x=none
section
variable {P:Program}{w:World}{K:PySem.W.Frag}{mg:Str→Option Value}{base h:Heap}{Φ:FT}{Γ:Str→Option D}{k j:Nat}
theorem fe {x:Str}{st:Stmt}{N ps:List Str}{body:List CS}{l:List (Str×(List D→Store→Res D))}(E:En K mg h)(d:DefIn K x st)
  (hb:∀(kV doc pm:Value) (an:Option Addr) (cdv ct:Value) (us:List Value),us.length=ps.length→bindArgs (PySem.W.fnOf x x (a3V' st) (a0P' st) (a0k' st) .none kV doc pm an cdv ct) ⟨us,[]⟩=pure (ps.zip us))
  (H:∀p∈l,FOk P w K mg base CX0 k p.1 p.2) (he:emSs body N (a0P' st)=a0P' st) (S:(b2r' N ps (a0k' st)&&sdSs body N (a0k' st).names (a0P' st))=true):FOk P w K mg base CX0 (k+1) x (runD (tbl l) G0 body N.length ps.length):=by
 obtain⟨f,fd,a,F⟩:=d
 have S:=Bool.and_eq_true_iff.mp S
 exact fok F (a3n' S.1) (PySem.W.mg_of E.X E.G a) (F.binds hb) (mok H E.hg E.hb) he S.2
theorem f0 {x:Str}{st:Stmt}{N ps:List Str}(E:En K mg h)(d:DefIn K x st)(S:b2r' N ps (a0k' st)=true)
  (hb:∀(kV doc pm:Value) (an:Option Addr) (cdv ct:Value) (us:List Value),us.length=ps.length→bindArgs (PySem.W.fnOf x x (a3V' st) (a0P' st) (a0k' st) .none kV doc pm an cdv ct) ⟨us,[]⟩=pure (ps.zip us)):FOk P w K mg base CX0 k x (fun _ _=>.fail):=by
 obtain⟨f,fd,a,F⟩:=d
 exact fok0 F (a3n' S) (PySem.W.mg_of E.X E.G a) (F.binds hb)
theorem an:∀p∈([]:List (Str×(List D→Store→Res D))),FOk P w K mg base CX0 k p.1 p.2:=fun p h=>(List.not_mem_nil h).elim
theorem ac {x:Str}{φ:List D→Store→Res D}{l:List (Str×(List D→Store→Res D))}(F:FOk P w K mg base CX0 j x φ)(hj:j≤k)(r:∀p∈l,FOk P w K mg base CX0 k p.1 p.2):∀p∈(x,φ)::l,FOk P w K mg base CX0 k p.1 p.2:=fun p hp=>by
 rcases List.mem_cons.mp hp with rfl|h
 ·exact F.mono hj
 ·exact r p h
end
structure Df (K:PySem.W.Frag):Prop where
 d_is_number:DefIn K "is_number" (top 7)
 d_is_number_from:DefIn K "is_number_from" (top 8)
 d_is_place:DefIn K "is_place" (top 9)
 d_is_rising:DefIn K "is_rising" (top 10)
 d_are_places:DefIn K "are_places" (top 11)
 d_are_unlike:DefIn K "are_unlike" (top 12)
 d_is_tie:DefIn K "is_tie" (top 13)
 d_is_web:DefIn K "is_web" (top 14)
 d_are_ties:DefIn K "are_ties" (top 15)
 d_must_be_web:DefIn K "must_be_web" (top 16)
 d_is_pairing:DefIn K "is_pairing" (top 18)
 d_must_be_pairing:DefIn K "must_be_pairing" (top 19)
 d_mate_of:DefIn K "mate_of" (top 20)
 d_loose_of:DefIn K "loose_of" (top 21)
 d_loose:DefIn K "loose" (top 22)
 d_all_pairings:DefIn K "all_pairings" (top 23)
 d_greatest:DefIn K "greatest" (top 25)
 d_first_greatest:DefIn K "first_greatest" (top 26)
 d_is_whole:DefIn K "is_whole" (top 27)
 d_has_whole:DefIn K "has_whole" (top 28)
 d_must_be_count:DefIn K "must_be_count" (top 30)
 d_row:DefIn K "row" (top 31)
 d_ring:DefIn K "ring" (top 32)
 d_star:DefIn K "star" (top 33)
 d_law_same:DefIn K "_law_same" (top 35)
 d_law_cell:DefIn K "_law_cell" (top 36)
 d_law_pen:DefIn K "_law_pen" (top 37)
 d_law_draw:DefIn K "_law_draw" (top 38)
 d_law_pairs:DefIn K "_law_pairs" (top 39)
 d_law_web:DefIn K "_law_web" (top 40)
 d_law_near:DefIn K "_law_near" (top 41)
 d_law_most:DefIn K "_law_most" (top 42)
 d_law_every:DefIn K "_law_every" (top 43)
 d_law_pairing:DefIn K "_law_pairing" (top 44)
 d_law:DefIn K "law" (top 45)
section
variable {P:Program}{w:World}{K:PySem.W.Frag}{mg:Str→Option Value}{base h:Heap}(E:En K mg h)(D:Df K)
include E D
theorem a7E':FOk P w K mg base CX0 1 "is_number" a2k':=fe (ps:=["thing"]) E D.d_is_number (fun _ _ _ _ _ _=>len1 fun _=>rfl) an rfl (by decide+kernel)
theorem a0U':FOk P w K mg base CX0 2 "is_number_from" a0h':=fe (ps:=["thing","low","high"]) E D.d_is_number_from (fun _ _ _ _ _ _=>len3 fun _ _ _=>rfl) (ac (a7E' E D) (by decide) an) rfl (by decide+kernel)
theorem a9i':FOk P w K mg base CX0 3 "is_place" a2O':=fe (ps:=["many","thing"]) E D.d_is_place (fun _ _ _ _ _ _=>len2 fun _ _=>rfl) (ac (a0U' E D) (by decide) an) rfl (by decide+kernel)
theorem a2C':FOk P w K mg base CX0 1 "is_rising" a0r':=fe (ps:=["things"]) E D.d_is_rising (fun _ _ _ _ _ _=>len1 fun _=>rfl) an rfl (by decide+kernel)
theorem a6P':FOk P w K mg base CX0 4 "are_places" a0Z':=fe (ps:=["many","thing"]) E D.d_are_places (fun _ _ _ _ _ _=>len2 fun _ _=>rfl) (ac (a9i' E D) (by decide) an) rfl (by decide+kernel)
theorem a6Q':FOk P w K mg base CX0 1 "are_unlike" a1y':=fe (ps:=["things"]) E D.d_are_unlike (fun _ _ _ _ _ _=>len1 fun _=>rfl) an rfl (by decide+kernel)
theorem a8u':FOk P w K mg base CX0 5 "is_tie" a3i':=fe (ps:=["many","thing"]) E D.d_is_tie (fun _ _ _ _ _ _=>len2 fun _ _=>rfl) (ac (a6P' E D) (by decide) (ac (a2C' E D) (by decide) an)) rfl (by decide+kernel)
theorem b2s':FOk P w K mg base CX0 6 "is_web" a5T':=fe (ps:=["thing"]) E D.d_is_web (fun _ _ _ _ _ _=>len1 fun _=>rfl) (ac (a2C' E D) (by decide) (ac (a0U' E D) (by decide) (ac (a8u' E D) (by decide) an))) rfl (by decide+kernel)
theorem a9j':FOk P w K mg base CX0 6 "are_ties" a2R':=fe (ps:=["web","thing"]) E D.d_are_ties (fun _ _ _ _ _ _=>len2 fun _ _=>rfl) (ac (a2C' E D) (by decide) (ac (a8u' E D) (by decide) an)) rfl (by decide+kernel)
theorem a2X':FOk P w K mg base CX0 7 "must_be_web" a0v':=fe (ps:=["thing"]) E D.d_must_be_web (fun _ _ _ _ _ _=>len1 fun _=>rfl) (ac (b2s' E D) (by decide) an) rfl (by decide+kernel)
theorem a6R':FOk P w K mg base CX0 8 "is_pairing" a1C':=fe (ps:=["web","thing"]) E D.d_is_pairing (fun _ _ _ _ _ _=>len2 fun _ _=>rfl) (ac (a2X' E D) (by decide) (ac (a9j' E D) (by decide) (ac (a6Q' E D) (by decide) an))) rfl (by decide+kernel)
theorem a3o':FOk P w K mg base CX0 9 "must_be_pairing" a0G':=fe (ps:=["web","thing"]) E D.d_must_be_pairing (fun _ _ _ _ _ _=>len2 fun _ _=>rfl) (ac (a6R' E D) (by decide) an) rfl (by decide+kernel)
theorem a6S':FOk P w K mg base CX0 1 "mate_of" a1D':=fe (ps:=["pairing","place"]) E D.d_mate_of (fun _ _ _ _ _ _=>len2 fun _ _=>rfl) an rfl (by decide+kernel)
theorem a9k':FOk P w K mg base CX0 2 "loose_of" a2U':=fe (ps:=["web","ties"]) E D.d_loose_of (fun _ _ _ _ _ _=>len2 fun _ _=>rfl) (ac (a6S' E D) (by decide) an) rfl (by decide+kernel)
theorem b4H':FOk P w K mg base CX0 10 "loose" a4o':=fe (ps:=["web","pairing"]) E D.d_loose (fun _ _ _ _ _ _=>len2 fun _ _=>rfl) (ac (a3o' E D) (by decide) (ac (a9k' E D) (by decide) an)) rfl (by decide+kernel)
theorem a4T':FOk P w K mg base CX0 8 "all_pairings" a0C':=fe (ps:=["web"]) E D.d_all_pairings (fun _ _ _ _ _ _=>len1 fun _=>rfl) (ac (a2X' E D) (by decide) (ac (a6S' E D) (by decide) an)) rfl (by decide+kernel)
theorem a9l':FOk P w K mg base CX0 9 "greatest" a2V':=fe (ps:=["web"]) E D.d_greatest (fun _ _ _ _ _ _=>len1 fun _=>rfl) (ac (a4T' E D) (by decide) an) rfl (by decide+kernel)
theorem a3H':FOk P w K mg base CX0 10 "first_greatest" a0n':=fe (ps:=["web"]) E D.d_first_greatest (fun _ _ _ _ _ _=>len1 fun _=>rfl) (ac (a9l' E D) (by decide) an) rfl (by decide+kernel)
theorem a3p':FOk P w K mg base CX0 11 "is_whole" a1t':=fe (ps:=["web","pairing"]) E D.d_is_whole (fun _ _ _ _ _ _=>len2 fun _ _=>rfl) (ac (b4H' E D) (by decide) an) rfl (by decide+kernel)
theorem a4y':FOk P w K mg base CX0 12 "has_whole" a2m':=fe (ps:=["web"]) E D.d_has_whole (fun _ _ _ _ _ _=>len1 fun _=>rfl) (ac (a3p' E D) (by decide) (ac (a3H' E D) (by decide) an)) rfl (by decide+kernel)
theorem a1c':FOk P w K mg base CX0 3 "must_be_count" a0O':=fe (ps:=["thing","least"]) E D.d_must_be_count (fun _ _ _ _ _ _=>len2 fun _ _=>rfl) (ac (a0U' E D) (by decide) an) rfl (by decide+kernel)
theorem b4I':FOk P w K mg base CX0 4 "row" f_row:=fe (ps:=["n"]) E D.d_row (fun _ _ _ _ _ _=>len1 fun _=>rfl) (ac (a1c' E D) (by decide) an) rfl (by decide+kernel)
theorem b3n':FOk P w K mg base CX0 5 "ring" f_ring:=fe (ps:=["n"]) E D.d_ring (fun _ _ _ _ _ _=>len1 fun _=>rfl) (ac (a1c' E D) (by decide) (ac (b4I' E D) (by decide) an)) rfl (by decide+kernel)
theorem b3o':FOk P w K mg base CX0 4 "star" f_star:=fe (ps:=["n"]) E D.d_star (fun _ _ _ _ _ _=>len1 fun _=>rfl) (ac (a1c' E D) (by decide) an) rfl (by decide+kernel)
theorem a3A':∀n,FOk P w K mg base CX0 (0+n) "_law_same" (a1H' n)
 |0=>f0 (N:=a4s') (ps:=["_law_found","_law_due"]) E D.d_law_same (by decide+kernel) (fun _ _ _ _ _ _=>len2 fun _ _=>rfl)
 |n+1=>fe (ps:=["_law_found","_law_due"]) (k:=0+n) E D.d_law_same (fun _ _ _ _ _ _=>len2 fun _ _=>rfl) (ac (a3A' n) (Nat.le_refl _) an) rfl (by decide+kernel)
theorem a5m':FOk P w K mg base CX0 6 "_law_same" a2W':=a3A' E D 6
theorem a5n':FOk P w K mg base CX0 1 "_law_cell" a1u':=fe (ps:=["_law_script","_law_k"]) E D.d_law_cell (fun _ _ _ _ _ _=>len2 fun _ _=>rfl) an rfl (by decide+kernel)
theorem a6T':FOk P w K mg base CX0 1 "_law_pen" a2n':=fe (ps:=["_law_cell_here"]) E D.d_law_pen (fun _ _ _ _ _ _=>len1 fun _=>rfl) an rfl (by decide+kernel)
theorem a5o':FOk P w K mg base CX0 1 "_law_draw" a0y':=fe (ps:=["_law_pen_here","_law_many"]) E D.d_law_draw (fun _ _ _ _ _ _=>len2 fun _ _=>rfl) an rfl (by decide+kernel)
theorem a7F':FOk P w K mg base CX0 1 "_law_pairs" a2o':=fe (ps:=["_law_many"]) E D.d_law_pairs (fun _ _ _ _ _ _=>len1 fun _=>rfl) an rfl (by decide+kernel)
theorem a6U':FOk P w K mg base CX0 2 "_law_web" a2p':=fe (ps:=["_law_pen_here","_law_upto"]) E D.d_law_web (fun _ _ _ _ _ _=>len2 fun _ _=>rfl) (ac (a5o' E D) (by decide) (ac (a7F' E D) (by decide) an)) rfl (by decide+kernel)
theorem a5p':FOk P w K mg base CX0 1 "_law_near" a0K':=fe (ps:=["_law_web_here","_law_place"]) E D.d_law_near (fun _ _ _ _ _ _=>len2 fun _ _=>rfl) an rfl (by decide+kernel)
theorem a5q':FOk P w K mg base CX0 2 "_law_most" a1v':=fe (ps:=["_law_web_here"]) E D.d_law_most (fun _ _ _ _ _ _=>len1 fun _=>rfl) (ac (a5p' E D) (by decide) an) rfl (by decide+kernel)
theorem a4z':FOk P w K mg base CX0 2 "_law_every" a0Y':=fe (ps:=["_law_web_here"]) E D.d_law_every (fun _ _ _ _ _ _=>len1 fun _=>rfl) (ac (a5p' E D) (by decide) an) rfl (by decide+kernel)
theorem a2Y':FOk P w K mg base CX0 2 "_law_pairing" a0z':=fe (ps:=["_law_pen_here","_law_web_here"]) E D.d_law_pairing (fun _ _ _ _ _ _=>len2 fun _ _=>rfl) (ac (a5o' E D) (by decide) an) rfl (by decide+kernel)
theorem ok_law:FOk P w K mg base CX0 13 "law" f_law:=fe (ps:=["_law_script"]) E D.d_law (fun _ _ _ _ _ _=>len1 fun _=>rfl) (ac (a6T' E D) (by decide) (ac (a6U' E D) (by decide) (ac (a5q' E D) (by decide) (ac (a5n' E D) (by decide) (ac (a2Y' E D) (by decide) (ac (a5m' E D) (by decide) (ac (a4y' E D) (by decide) (ac (b3n' E D) (by decide) (ac (a4z' E D) (by decide) (ac (a3p' E D) (by decide) (ac (b4I' E D) (by decide) (ac (b3o' E D) (by decide) an)))))))))))) rfl (by decide+kernel)
end
def spLaw (K:PySem.W.Frag):Sp:=fun vs H Q _=>∃(a:Addr) (ns:List Int),vs=[.ref a]∧Only H∧SqL K H a (ns.map V.int)∧ns.length≤63∧∀H',Q (.bl true) H'
def Good (f:List D→Store→Res D):Prop:=∀ns:List Int,ns.length≤63→∃S',f [.scr (ns.map D.int)] []=.ok (.bl true) S'
theorem a8v' {K:PySem.W.Frag}{mg:GS}{μ:List Addr}{H:Hp}:∀ns:List Int,RepL K mg μ H (ns.map D.int) (ns.map V.int)
 | []=>.nil
 |n::ns=>.cons a0T' (a8v' ns)
theorem sp_of {K:PySem.W.Frag}{mg:Str→Option Value}{f:List D→Store→Res D}(g:Good f):∀vs H Q E,spLaw K vs H Q E→spOf K mg 1 f vs H Q E:=by
 rintro vs H Q E ⟨a,ns,rfl,ho,hs,hl,q⟩
 refine⟨rfl,[],[],[],[.scr (ns.map D.int)],⟨fun a h=>(by cases h),rfl,List.nodup_nil,fun n a ds h=>(by cases h)⟩,.cons ?_ .nil,?_⟩
 ·unfold Rep
  refine⟨a,ns.map V.int,rfl,?_,a8v' ns⟩
  rcases hs with(h| ⟨o,h⟩)|h
  ·rcases ho a with z| ⟨o,xs,z⟩<;>rw[z]at h<;>cases h
  ·exact .inl ⟨o,h⟩
  ·exact .inr h
 ·obtain⟨S',e⟩:=g ns hl
  rw[e]
  intro μ' H' b x s r
  unfold Rep at r
  rw[r]
  exact q H'
theorem all_mk {l:PySem.W.OpenLaw}{w:World}{K:PySem.W.Frag}{h:Heap}{mg:Str→Option Value}{fa:Addr}(X:K.In h)(G:h.Ns mainGlobals mg)(hfa:mg "law"=some (.ref fa))(good:Good f_law)(D:Df K)(Z:∀x∈a1O',PySem.W.nsIn K mainGlobals x=some none)
  {gi0:Tok} (mp0:PySem.W.nsIn K mainGlobals "MOST_PLACES"=some (some (.int 8 gi0))):
  ∃fd:FuncData,(∀(s:Shared) (v:Value),BindsTo s fd ⟨[v],[]⟩ [("_law_script",v)])∧∀base:Heap,K.In base→base.Ns mainGlobals mg→FnOk l.prog w K mg base CX0 13 fa fd ["_law_script"] (spLaw K):=by
 have hg:∀x d,G0 x=some d→∃v u,mg x=some u∧RelV v u∧∀F μ H,Rep K ⟨mg,F⟩ μ H d v:=fun x d e=>by
  unfold G0 at e
  rw[List.lookup_cons]at e
  split at e
  ·rename_i hx
   cases e
   have hx':x="MOST_PLACES":=by simpa using hx
   subst hx'
   exact⟨.int 8,_,PySem.W.mg_of X G mp0,⟨_,rfl⟩,fun _ _ _=>a0T'⟩
  cases e
 have E:En K mg h:=⟨X,G,hg,fun x hx=>PySem.W.mg_none_of X G (Z x hx)⟩
 obtain⟨f,fd,a,F⟩:=D.d_law
 have e:=hfa.symm.trans (PySem.W.mg_of X G a)
 cases e
 have S:FnScope n_law ["_law_script"] (a0k' (top 45)):=a3n' (by decide+kernel)
 refine⟨fd,fun s v=> ?_,fun base _ _=> ?_⟩
 ·obtain⟨oc,od,kV,doc,pm,an,cdv,ct,osl,rfl,lk,hcd⟩:=F.ex
  exact .of_eq rfl
 ·exact FnOk.imp (fnok (k:=12) F S (mok (ac (a6T' E D) (by decide) (ac (a6U' E D) (by decide) (ac (a5q' E D) (by decide) (ac (a5n' E D) (by decide) (ac (a2Y' E D) (by decide) (ac (a5m' E D) (by decide) (ac (a4y' E D) (by decide) (ac (b3n' E D) (by decide) (ac (a4z' E D) (by decide) (ac (a3p' E D) (by decide) (ac (b4I' E D) (by decide) (ac (b3o' E D) (by decide) an)))))))))))) hg E.hb) rfl (by decide+kernel)) (sp_of good)
end K15
end
section
namespace K15
open PySem PySem.Spec PyProof.Rows L2 Py
mutual
theorem a8w' {k:Nat}:∀(d:D),lowD 0 d=true→lowD k d=true
 | .non,_=>rfl
 | .bl _,_=>rfl
 | .int _,_=>rfl
 | .str _,_=>rfl
 | .tup ds,h=>by unfold lowD at h⊢;exact a1I' ds h
 | .lst ds,h=>by unfold lowD at h⊢;exact a1I' ds h
 | .scr ds,h=>by unfold lowD at h⊢;exact a1I' ds h
 | .ref n,h=>by unfold lowD at h;simp at h
 | .fn y,_=>rfl
 | .ty y,_=>rfl
 | .dct,_=>rfl
theorem a1I' {k:Nat}:∀(ds:List D),lowL 0 ds=true→lowL k ds=true
 | [],_=>rfl
 |d::ds,h=>by
  unfold lowL at h⊢
  simp only[Bool.and_eq_true]at h⊢
  exact⟨a8w' d h.1,a1I' ds h.2⟩
end
def Flat (S:Store):Prop:=∀xs∈S,lowL 0 xs=true
theorem Flat.all {S:Store}{k:Nat}(h:Flat S):S.all (lowL k)=true:=List.all_eq_true.mpr fun xs hx=>a1I' xs (h xs hx)
theorem Flat.nil:Flat []:=fun _ h=>by cases h
theorem Flat.snoc {S:Store}{xs:List D}(h:Flat S)(hx:lowL 0 xs=true):Flat (S++[xs]):=fun ys hy=>by
 rcases List.mem_append.mp hy with z|z
 ·exact h ys z
 ·have:ys=xs:=by simpa using z
  subst this;exact hx
theorem Flat.set {S:Store}{n:Nat}{xs:List D}(h:Flat S)(hx:lowL 0 xs=true):Flat (S.set n xs):=fun ys hy=>by
 rcases List.mem_or_eq_of_mem_set hy with z|z
 ·exact h ys z
 ·subst z;exact hx
theorem a2Z' {k:Nat}{d:D}{S':Store}(h:Flat (S'.take k))(hd:lowD 0 d=true):trim k d S'=.ok d (S'.take k):=by
 unfold trim
 rw[if_pos h.all,if_pos (a8w' d hd)]
theorem b2t' {d:D}{S:Store}(h:Flat S)(hd:lowD 0 d=true):trim S.length d S=.ok d S:=by
 rw[a2Z' (by rw[List.take_length];exact h) hd,List.take_length]
theorem a7G' {k:Nat}{d:D}{S:Store}(hk:S.length=k)(h:Flat S)(hd:lowD 0 d=true):trim k d S=.ok d S:=by
 subst hk;exact b2t' h hd
theorem a6V' {step:D→List D→Store→Res (List D)}{S:Store}(g:D→Option D):∀(xs acc:List D),(∀x∈xs,∀acc,acc.length<big→step x acc S=.ok (acc++(g x).toList) S)→acc.length+xs.length≤big→compD step xs acc S=.ok (acc++xs.filterMap g) S
 | [],acc,_,_=>by simp[compD]
 |x::xs,acc,h,hl=>by
  simp only[List.length_cons]at hl
  unfold compD
  rw[h x List.mem_cons_self acc (by omega)]
  unfold Res.bind
  dsimp only
  rw[a6V' g xs _ (fun y hy=>h y (List.mem_cons_of_mem _ hy)) (by
   have:(g x).toList.length≤1:=by cases g x<;>simp
   simp only[List.length_append];omega)]
  cases e:g x<;>simp[e]
theorem b2u' {α:Type}{l:List α}{f:α→Option Bool}(h:∀x∈l,f x=some true):allO (l.map f)=some true:=by
 induction l with
 |nil=>rfl
 |cons x l ih=>
  simp only[List.map_cons]
  unfold allO
  rw[h x List.mem_cons_self,ih fun y hy=>h y (List.mem_cons_of_mem _ hy)]
  rfl
theorem allO_map {α:Type}{l:List α}{f:α→Bool}:allO (l.map fun x=>some (f x))=some (l.all f):=by
 induction l with
 |nil=>rfl
 |cons x l ih=>
  simp only[List.map_cons]
  unfold allO
  rw[ih]
  rfl
theorem b4J' {α:Type}{l:List α}{f:α→Bool}:anyO (l.map fun x=>some (f x))=some (l.any f):=by
 unfold anyO
 rw[List.map_map]
 have e:(fun o:Option Bool=>o.map not)∘(fun x:α=>some (f x))=fun x=>some (!f x):=rfl
 rw[e,allO_map]
 simp[List.not_all_eq_any_not]
def tieD (t:Int×Int):D:=.tup [.int t.1,.int t.2]
def tiesD (ts:List (Int×Int)):List D:=ts.map tieD
def webD (m:Int)(ts:List (Int×Int)):D:=.tup [.int m,.tup (tiesD ts)]
theorem low_tie (t:Int×Int):lowD 0 (tieD t)=true:=rfl
theorem a1d':∀(ts:List (Int×Int)),lowL 0 (tiesD ts)=true
 | []=>rfl
 |t::ts=>by
  show(lowD 0 (tieD t)&&lowL 0 (tiesD ts))=true
  rw[low_tie,a1d' ts];rfl
theorem a5Z':∀(ns:List Int),lowL 0 (ns.map D.int)=true
 | []=>rfl
 |t::ts=>by
  show(lowD 0 (.int t)&&lowL 0 (ts.map D.int))=true
  rw[a5Z' ts];rfl
theorem low_web (m:Int)(ts:List (Int×Int)):lowD 0 (webD m ts)=true:=by
 show(true&&((lowL 0 (tiesD ts))&&true))=true
 rw[a1d'];rfl
def lexlt (a b:Int×Int):Prop:=a.1<b.1∨(a.1=b.1∧a.2<b.2)
instance (a b:Int×Int):Decidable (lexlt a b):=by unfold lexlt;exact inferInstance
theorem b3p' (S:Store)(n:Nat)(a b:Int):eqF S (n+1) (.int a) (.int b)=some (a==b):=rfl
theorem eqF_tie (S:Store)(n:Nat)(a b:Int×Int):eqF S (n+2) (tieD a) (tieD b)=some (decide (a=b)):=by
 have e:eqF S (n+2) (tieD a) (tieD b)=some ((a.1==b.1&&(a.2==b.2&&true))&&true):=rfl
 rw[e]
 obtain⟨a1,a2⟩:=a
 obtain⟨b1,b2⟩:=b
 simp[Prod.ext_iff]
 by_cases h1:a1=b1<;>by_cases h2:a2=b2<;>simp[h1,h2]
theorem ltF_tie (S:Store)(n:Nat)(a b:Int×Int):ltF S (n+2) (tieD a) (tieD b)=some (decide (lexlt a b)):=by
 have e:ltF S (n+2) (tieD a) (tieD b)=(match eqF S (n+1) (.int a.1) (.int b.1)with
  |some true=>(match eqF S (n+1) (.int a.2) (.int b.2)with
   |some true=>some false
   |some false=>some (decide (a.2<b.2))
   |none=>none)
  |some false=>some (decide (a.1<b.1))
  |none=>none):=rfl
 rw[e,b3p',b3p']
 obtain⟨a1,a2⟩:=a
 obtain⟨b1,b2⟩:=b
 unfold lexlt
 dsimp only
 by_cases h1:a1=b1
 ·subst h1
  by_cases h2:a2=b2
  ·subst h2;simp
  ·have:(a2==b2)=false:=by simpa using h2
   simp[this]
 ·have:(a1==b1)=false:=by simpa using h1
  simp[this,h1]
theorem in_ties (S:Store)(t:Int×Int)(ts:List (Int×Int)):inD (tieD t) (.tup (tiesD ts)) S=some (decide (t∈ts)):=by
 have e:inD (tieD t) (.tup (tiesD ts)) S=anyO ((tiesD ts).map fun y=>eqF S deep y (tieD t)):=rfl
 rw[e]
 unfold tiesD
 rw[List.map_map]
 have e2:((fun y=>eqF S deep y (tieD t))∘tieD)=fun u=>some (decide (u=t)):=by
  funext u
  exact eqF_tie S 38 u t
 rw[e2,b4J']
 congr 1
 clear e e2
 induction ts with
 |nil=>rfl
 |cons u us ih=>
  rw[List.any_cons,ih]
  by_cases h:u=t
  ·subst h;simp
  ·have h':¬t=u:=fun z=>h z.symm
   by_cases h2:t∈us<;>simp[h,h',h2]
theorem b4K' (S:Store)(p:Int)(t:Int×Int):inD (.int p) (tieD t) S=some (decide (p=t.1∨p=t.2)):=by
 have e:inD (.int p) (tieD t) S=some (!((!(t.1==p))&&((!(t.2==p))&&true))):=rfl
 rw[e]
 congr 1
 by_cases h1:p=t.1
 ·subst h1;simp
 ·by_cases h2:p=t.2
  ·subst h2;simp
  ·have e1:(t.1==p)=false:=by simpa using fun z=>h1 z.symm
   have e2:(t.2==p)=false:=by simpa using fun z=>h2 z.symm
   rw[e1,e2];simp[h1,h2]
def PenAt (S:Store)(n:Nat):Prop:=∃a b,S[n]? =some [.int a,.int b]
theorem PenAt.set {S:Store}{n m:Nat}{a b:Int}(h:PenAt S n):PenAt (S.set m [.int a,.int b]) n:=by
 obtain⟨x,y,h⟩:=h
 by_cases e:m=n
 ·subst e
  have hl:=(List.getElem?_eq_some_iff.mp h).1
  exact⟨a,b,by rw[List.getElem?_set_self hl]⟩
 ·exact⟨x,y,by rw[List.getElem?_set_ne e];exact h⟩
theorem draw_ok {S:Store}{n:Nat}{m:Int}(hS:Flat S)(hp:PenAt S n)(h0:0<m)(h1:m<1000):∃r a b,0≤r∧r<m∧a0y' [.ref n,.int m] S=.ok (.int r) (S.set n [.int a,.int b]):=by
 obtain⟨a,b,h⟩:=hp
 have hl:=(List.getElem?_eq_some_iff.mp h).1
 have fl:∀x y:Int,Flat (S.set n [.int x,.int y]):=fun x y=>hS.set rfl
 have tr:∀(r x y:Int),trim S.length (.int r) (S.set n [.int x,.int y])=.ok (.int r) (S.set n [.int x,.int y]):=fun r x y=>a7G' (by simp) (fl x y) rfl
 by_cases hb:b=1
 ·subst hb
  refine⟨a%m,a/m,1,Int.emod_nonneg _ (by omega),Int.emod_lt_of_pos _ h0,?_⟩
  rw[←tr]
  have hm:m<1073741824:=by omega
  simp[a0y',runD,a4u',a4t',denSs,denS,denT,den,denL,Res.bind,Res.noErr,onBl,idxD,seqOf,h,atI,ixN,cmpD,boolR,eqF,sh,eqS,deep,opD,modD,fdivD,setD,h0,hm]
 ·have hb':(b==1)=false:=by simpa using hb
  have hp0:0≤(a%2147483629*48271+11)%2147483629:=Int.emod_nonneg _ (by omega)
  have hp1:(a%2147483629*48271+11)%2147483629<2147483629:=Int.emod_lt_of_pos _ (by omega)
  have e0:∀p:Int,(a%2147483629*48271+11)%2147483629=p→a0y' [.ref n,.int m] S=.ok (.int ((p*p+40692*p)%2147483647/8%m)) (S.set n [.int p,.int b]):=fun p hp=>by
   rw[hp]at hp0 hp1
   have h2: -(18446744073709551616:Int)<p:=by omega
   have h3:p<(18446744073709551616:Int):=by omega
   have hs:∀x,(S.set n x)[n]? =some x:=fun x=>List.getElem?_set_self hl
   have hss:∀x y:List D,(S.set n x).set n y=S.set n y:=fun x y=>List.set_set ..
   clear hl
   rw[←tr]
   simp[a0y',runD,a4u',a4t',denSs,denS,denT,den,denL,Res.bind,Res.noErr,onBl,idxD,seqOf,h,atI,ixN,cmpD,boolR,eqF,sh,eqS,deep,opD,modD,fdivD,mulD,addD,setD,h0,hb',hb,hs,hss,hp,h2,h3]
  exact⟨_,_,b,Int.emod_nonneg _ (show m≠0 by omega),Int.emod_lt_of_pos _ h0,e0 _ rfl⟩
structure Web (m:Int)(ts:List (Int×Int)):Prop where
 lo:1≤m
 hi:m≤8
 ris:ts.Pairwise lexlt
 tie:∀t∈ts,0≤t.1∧t.1<t.2∧t.2<m
 few:ts.length≤28
structure Pairing (ts ps:List (Int×Int)):Prop where
 ris:ps.Pairwise lexlt
 sub:∀t∈ps,t∈ts
 un:(ps.flatMap fun t=>[t.1,t.2]).Nodup
theorem a0E' {Φ:FT}{Γ:Str→Option D}{body:List CS}{n np:Nat}{ds:List D}{S S':Store}{d:D}(hl:ds.length=np)(h:denSs Φ Γ body (ds.map some++List.replicate (n-np) none) S=.ok (.ret d) S')(hk:S'.length=S.length)(hf:Flat S')(hd:lowD 0 d=true):runD Φ Γ body n np ds S=.ok d S':=by
 unfold runD
 rw[if_pos hl,h]
 exact a7G' hk hf hd
theorem b0Q' {Φ:FT}{Γ:Str→Option D}{body:List CS}{n np:Nat}{ds:List D}{S S':Store}{ρ:Rho}(hl:ds.length=np)(h:denSs Φ Γ body (ds.map some++List.replicate (n-np) none) S=.ok (.next ρ) S')(hk:S'.length=S.length)(hf:Flat S'):runD Φ Γ body n np ds S=.ok .non S':=by
 unfold runD
 rw[if_pos hl,h]
 exact a7G' hk hf rfl
theorem a6W' {S:Store}(hS:Flat S)(i:Int):a2k' [.int i] S=.ok (.bl true) S:=a0E' rfl rfl rfl hS rfl
theorem a1x' {S:Store}(hS:Flat S)(i lo hi:Int):a0h' [.int i,.int lo,.int hi] S=.ok (.bl (decide (lo≤i∧i≤hi))) S:=by
 refine a0E' rfl ?_ rfl hS rfl
 simp[a1T',a1S',denSs,denS,denT,den,denL,Res.bind,Res.noErr,onBl,a1e',a6W' hS,cmpD,leD]
 by_cases h:lo≤i<;>simp[h]
theorem a7H' {S:Store}(hS:Flat S)(m i:Int):a2O' [.int m,.int i] S=.ok (.bl (decide (0≤i∧i<m))) S:=by
 refine a0E' rfl ?_ rfl hS rfl
 have e:(i≤m-1)=(i<m):=propext (by omega)
 simp[a6D',a6C',denSs,denS,denT,den,denL,Res.bind,Res.noErr,onBl,a1m',a1x' hS,opD,subD,e]
theorem a3a' {step:D→List D→Store→Res (List D)}{S:Store}{xs:List D}(h:∀x∈xs,∀acc,acc.length<big→step x acc S=.ok (acc++[.bl true]) S)(hl:xs.length≤big):compD step xs [] S=.ok (xs.map fun _=>D.bl true) S:=by
 rw[a6V' (fun _=>some (.bl true)) xs [] (fun x hx acc ha=>h x hx acc ha) (by simpa using hl)]
 simp
theorem a6a' {S:Store}{xs:List D}:allD [.lst (xs.map fun _=>D.bl true)] S=.ok (.bl true) S:=by
 unfold allD
 simp only[seqOf]
 rw[List.map_map,show allO (xs.map (asB∘fun x=>D.bl true))=some true from b2u' fun x hx=>rfl]
 rfl
theorem cut1 (xs:List D):cutL xs (some 1) none=xs.drop 1:=by
 unfold cutL
 have e1:HT.sIx xs.length 0 (some 1)=min 1 xs.length:=by
  unfold HT.sIx
  simp
  try omega
 have e2:HT.sIx xs.length xs.length none=xs.length:=rfl
 rw[e1,e2]
 cases xs with
 |nil=>rfl
 |cons x r=>simp
theorem a5r' {S:Store}(hS:Flat S){xs:List D}(hl:xs.length≤1000)(h:∀(i:Nat) x y,xs[i]? =some x→xs[i+1]? =some y→ltF S deep x y=some true):a0r' [.tup xs] S=.ok (.bl true) S:=by
 refine a0E' rfl ?_ rfl hS rfl
 have hz:zipOf S (.tup xs) (.tup (xs.drop 1))=some (.items (List.zipWith (fun x y=>.tup [x,y]) xs (xs.drop 1))):=rfl
 have hc:=cut1 xs
 simp[a5i',a5h',denSs,denS,denT,den,denL,denI,Res.bind,Res.noErr,onBl,slD,optL,toOpt,bltD]
 simp only[hc,hz,compI]
 rw[a3a']
 ·simp only[Res.noErr]
  rw[a6a']
 ·intro z hz acc ha
  obtain⟨i,hi⟩:=List.mem_iff_getElem?.mp hz
  rw[List.getElem?_zipWith]at hi
  cases e1:xs[i]? with
  |none=>rw[e1]at hi;cases hi
  |some x=>
   cases e2:(xs.drop 1)[i]? with
   |none=>rw[e1,e2]at hi;cases hi
   |some y=>
    rw[e1,e2]at hi
    cases hi
    rw[List.getElem?_drop,Nat.add_comm]at e2
    have hlt:=h i x y e1 e2
    simp[a0m',isNew,slots,a2J',asgCT,asgVs,denTs,denB,den,Res.bind,cmpD,hlt,boolR,Res.noErr]
    unfold big at ha
    omega
 ·simp;unfold big;omega
theorem a4U' {S:Store}(hS:Flat S){m:Int}{ns:List Int}(hl:ns.length≤1000)(h:∀n∈ns,0≤n∧n<m):a0Z' [.int m,.tup (ns.map D.int)] S=.ok (.bl true) S:=by
 refine a0E' rfl ?_ rfl hS rfl
 have hi:a3s' [.tup (ns.map D.int),.ty "tuple"] S=.ok (.bl true) S:=rfl
 simp[a4h',a4g',denSs,denS,denT,den,denL,denI,Res.bind,Res.noErr,onBl,bltD,hi,a0u']
 simp only[compI]
 rw[a3a']
 ·simp only[Res.noErr]
  rw[a6a']
 ·intro z hz acc ha
  obtain⟨n,hn,rfl⟩:=List.mem_map.mp hz
  have hp:=a7H' hS m n
  have hd:decide (0≤n∧n<m)=true:=decide_eq_true (h n hn)
  rw[hd]at hp
  simp[a0m',isNew,slots,a2J',asgCT,asgVs,denTs,denB,den,denL,Res.bind,a1V',hp,Res.noErr]
  unfold big at ha
  omega
 ·simp;unfold big;omega
theorem a5s' {S:Store}(hS:Flat S){m:Int}{t:Int×Int}(h:0≤t.1∧t.1<t.2∧t.2<m):a3i' [.int m,tieD t] S=.ok (.bl true) S:=by
 refine a0E' rfl ?_ rfl hS rfl
 have h1:a0Z' [.int m,tieD t] S=.ok (.bl true) S:=a4U' hS (ns:=[t.1,t.2]) (by simp) (by intro n hn;simp at hn;rcases hn with rfl|rfl<;>omega)
 have h2:a0r' [tieD t] S=.ok (.bl true) S:=a5r' hS (xs:=[.int t.1,.int t.2]) (by simp) (by
  intro i x y e1 e2
  have hi:i=0:=by
   have:=(List.getElem?_eq_some_iff.mp e2).1
   simp at this;omega
  subst hi
  simp at e1 e2
  subst e1;subst e2
  show some (decide (t.1<t.2))=some true
  simp[h.2.1])
 have h3:bltD .len [tieD t] S=.ok (.int 2) S:=rfl
 have h4:cmpD .Eq (.int 2) (.int 2) S=.ok (.bl true) S:=rfl
 simp[b0I',b0H',denSs,denS,denT,den,denL,Res.bind,Res.noErr,onBl,a2A',a2P',h1,h2,h3,h4]
theorem b0R' {ts:List (Int×Int)}{i:Nat}{x:D}(h:(tiesD ts)[i]? =some x):∃t,ts[i]? =some t∧x=tieD t:=by
 unfold tiesD at h
 rw[List.getElem?_map]at h
 cases e:ts[i]? with
 |none=>rw[e]at h;cases h
 |some t=>rw[e]at h;cases h;exact⟨t,rfl,rfl⟩
theorem a5t' {S:Store}(hS:Flat S){ts:List (Int×Int)}(hl:ts.length≤1000)(h:ts.Pairwise lexlt):a0r' [.tup (tiesD ts)] S=.ok (.bl true) S:=
 a5r' hS (by unfold tiesD;simpa using hl) fun i x y e1 e2=>by
  obtain⟨t,f1,rfl⟩:=b0R' e1
  obtain⟨u,f2,rfl⟩:=b0R' e2
  rw[show ltF S deep (tieD t) (tieD u)=some (decide (lexlt t u))from ltF_tie S 38 t u]
  obtain⟨g1,rfl⟩:=List.getElem?_eq_some_iff.mp f1
  obtain⟨g2,rfl⟩:=List.getElem?_eq_some_iff.mp f2
  rw[decide_eq_true (List.pairwise_iff_getElem.mp h i (i+1) g1 g2 (by omega))]
theorem a9m' {S:Store}(hS:Flat S){m:Int}{ts:List (Int×Int)}(W:Web m ts):a5T' [webD m ts] S=.ok (.bl true) S:=by
 have hf:=W.few
 refine a0E' rfl ?_ rfl hS rfl
 have h1:a3s' [webD m ts,.ty "tuple"] S=.ok (.bl true) S:=rfl
 have h2:lenD [webD m ts] S=.ok (.int 2) S:=rfl
 have h3:cmpD .NotEq (.int 2) (.int 2) S=.ok (.bl false) S:=rfl
 have h4:=a1x' hS m 1 8
 rw[decide_eq_true (⟨W.lo,W.hi⟩:1≤m∧m≤8)]at h4
 have h5:a3s' [.tup (tiesD ts),.ty "tuple"] S=.ok (.bl true) S:=rfl
 have h6:=a5t' hS (show ts.length≤1000 by omega) W.ris
 have h7:G0 "MOST_PLACES"=some (.int 8):=rfl
 have h8:asgCT (.tup [.var 1,.var 2]) (webD m ts) [some (webD m ts),none,none]=some [some (webD m ts),some (.int m),some (.tup (tiesD ts))]:=rfl
 simp[b0K',b0J',denSs,denS,denT,den,denL,denI,Res.bind,Res.noErr,onBl,bltD,h1,h2,h3,a2Q',a1z',a1W',h4,h5,truD,h6,h7,h8,a0u']
 simp only[compI]
 rw[a3a']
 ·simp only[Res.noErr]
  rw[a6a']
  simp[h6]
 ·intro z hz acc ha
  obtain⟨t,ht,rfl⟩:=List.mem_map.mp hz
  have hp:=a5s' hS (W.tie t ht)
  simp[a0m',isNew,slots,a2J',asgCT,asgVs,denTs,denB,den,denL,Res.bind,a1W',hp,Res.noErr]
  unfold big at ha
  omega
 ·unfold tiesD big;simp;omega
theorem a2b' {S:Store}(hS:Flat S){m:Int}{ts:List (Int×Int)}(W:Web m ts):a0v' [webD m ts] S=.ok .non S:=by
 refine b0Q' (ρ:=[some (webD m ts)]) rfl ?_ rfl hS
 simp[a3y',a3x',denSs,denS,denT,den,denL,Res.bind,a2t',a9m' hS W,truD]
theorem a2c' {α:Type}{f e:α→D}{p:α→Bool}{step:D→List D→Store→Res (List D)}{S:Store}:∀(xs:List α) (acc:List D),(∀x∈xs,∀acc,acc.length<big→step (f x) acc S=.ok (if p x=true then acc++[e x]else acc) S)→acc.length+xs.length≤big→compD step (xs.map f) acc S=.ok (acc++(xs.filter p).map e) S
 | [],acc,_,_=>by simp[compD]
 |x::xs,acc,h,hl=>by
  simp only[List.length_cons]at hl
  simp only[List.map_cons]
  unfold compD
  rw[h x List.mem_cons_self acc (by omega)]
  unfold Res.bind
  dsimp only
  have ih:=fun a=>a2c' (f:=f) (e:=e) (p:=p) (step:=step) xs a (fun y hy=>h y (List.mem_cons_of_mem _ hy))
  by_cases hp:p x=true
  ·rw[if_pos hp,ih _ (by simp;omega)]
   simp[hp]
  ·rw[if_neg hp,ih _ (by omega)]
   simp[hp]
theorem a0A' {α:Type}{f e:α→D}{p:α→Bool}{step:D→List D→Store→Res (List D)}{S:Store}{xs:List α}(h:∀x∈xs,∀acc,acc.length<big→step (f x) acc S=.ok (if p x=true then acc++[e x]else acc) S)(hl:xs.length≤big):compD step (xs.map f) [] S=.ok ((xs.filter p).map e) S:=by
 rw[a2c' xs [] h (by simpa using hl)]
 simp
theorem a0j' {Φ:FT}{Γ:Str→Option D}{c:CS}{cs:List CS}{ρ ρ':Rho}{S S':Store}(h:denS Φ Γ c ρ S=.ok (.next ρ') S'):denSs Φ Γ (c::cs) ρ S=denSs Φ Γ cs ρ' S':=by
 rw[denSs,h];rfl
theorem a3b' {Φ:FT}{Γ:Str→Option D}{c:CS}{cs:List CS}{ρ:Rho}{S S':Store}{d:D}(h:denS Φ Γ c ρ S=.ok (.ret d) S'):denSs Φ Γ (c::cs) ρ S=.ok (.ret d) S':=by
 rw[denSs,h];rfl
theorem a6b' {Φ:FT}{Γ:Str→Option D}{t:CT}{it:CE}{body:List CS}{ρ:Rho}{S S1:Store}{its:Its}(h:denI Φ Γ it ρ S=.ok its S1):denS Φ Γ (.for_ t it body) ρ S=forI (fun x ρ S=>match asgCT t x ρ with
   |some ρ'=>denSs Φ Γ body ρ' S
   |none=>.fail) its ρ S1:=by
 rw[denS,h];rfl
theorem a0X' {Φ:FT}{Γ:Str→Option D}{i:Nat}{e:CE}{cs:List CS}{ρ:Rho}{S S':Store}{d:D}(h:den Φ Γ e ρ S=.ok d S'):denSs Φ Γ (.asg i e::cs) ρ S=denSs Φ Γ cs (ρ.set i (some d)) S':=
 a0j' (by rw[denS,h];rfl)
def a0p' (lo:Int):Nat→List Int
 |0=>[]
 |n+1=>lo::a0p' (lo+1) n
theorem a2d' (lo:Int)(n:Nat):a3d' lo n=(a0p' lo n).map D.int:=by
 induction n generalizing lo with
 |zero=>rfl
 |succ n ih=>unfold a3d' a0p';rw[ih];rfl
theorem a2e' {lo x:Int}{n:Nat}:x∈a0p' lo n→lo≤x∧x<lo+n:=by
 induction n generalizing lo with
 |zero=>intro h;cases h
 |succ n ih=>
  intro h
  unfold a0p' at h
  rcases List.mem_cons.mp h with rfl|h
  ·omega
  ·have:=ih h;omega
theorem a0R' {lo:Int}{n:Nat}:(a0p' lo n).length=n:=by
 induction n generalizing lo with
 |zero=>rfl
 |succ n ih=>unfold a0p';simp[ih]
def hasP (p:Int)(t:Int×Int):Bool:=decide (p=t.1∨p=t.2)
def mateI:List (Int×Int)→Int→Option Int
 | [],_=>none
 |t::ts,p=>if p=t.1 then some t.2 else if p=t.2 then some t.1 else mateI ts p
def optD:Option Int→D
 |some i=>.int i
 |none=>.non
theorem low_opt (o:Option Int):lowD 0 (optD o)=true:=by cases o<;>rfl
theorem a8x' {S:Store}{step:D→Rho→Store→Res Fl}{p:Int}{P:D}
  (hs:∀(t:Int×Int) (x y:Option D),step (tieD t) [some P,some (.int p),x,y] S=.ok (if p=t.1 then .ret (.int t.2)else if p=t.2 then .ret (.int t.1)else .next [some P,some (.int p),some (.int t.1),some (.int t.2)]) S):
  ∀(ts:List (Int×Int)) (x y:Option D),(∃v,mateI ts p=some v∧forD step (tiesD ts) [some P,some (.int p),x,y] S=.ok (.ret (.int v)) S)∨(mateI ts p=none∧∃x' y',forD step (tiesD ts) [some P,some (.int p),x,y] S=.ok (.next [some P,some (.int p),x',y']) S)
 | [],x,y=>.inr ⟨rfl,x,y,rfl⟩
 |t::ts,x,y=>by
  unfold tiesD
  simp only[List.map_cons]
  unfold forD mateI
  rw[hs]
  by_cases h1:p=t.1
  ·rw[if_pos h1,if_pos h1]
   exact .inl ⟨_,rfl,rfl⟩
  ·rw[if_neg h1,if_neg h1]
   by_cases h2:p=t.2
   ·rw[if_pos h2,if_pos h2]
    exact .inl ⟨_,rfl,rfl⟩
   ·rw[if_neg h2,if_neg h2]
    exact a8x' hs ts _ _
theorem a6X' {S:Store}(hS:Flat S)(ps:List (Int×Int))(p:Int):a1D' [.tup (tiesD ps),.int p] S=.ok (optD (mateI ps p)) S:=by
 refine a0E' rfl ?_ rfl hS (low_opt _)
 have hl:=a8x' (S:=S) (p:=p) (P:=.tup (tiesD ps)) (step:=fun x ρ S=>match asgCT (.tup [.var 2,.var 3]) x ρ with
   |some ρ'=>denSs a2S' G0 [.ite (.cmp .Eq (.var 1) (.var 2)) [.ret (.var 3)] [],.ite (.cmp .Eq (.var 1) (.var 3)) [.ret (.var 2)] []] ρ' S
   |none=>.fail) (fun t x y=>by
    simp only[tieD,asgCT,asgVs]
    by_cases h1:p=t.1
    ·simp[denSs,denS,denT,den,Res.bind,Res.noErr,cmpD,eqF,deep,sh,eqS,boolR,onBl,h1]
    ·by_cases h2:p=t.2
     ·have h1':¬t.2=t.1:=fun z=>h1 (h2.trans z)
      simp[denSs,denS,denT,den,Res.bind,Res.noErr,cmpD,eqF,deep,sh,eqS,boolR,onBl,h1,h2,h1']
      try omega
     ·simp[denSs,denS,denT,den,Res.bind,Res.noErr,cmpD,eqF,deep,sh,eqS,boolR,onBl,h1,h2]) ps none none
 have e:denSs a2S' G0 a8t' ([D.tup (tiesD ps),D.int p].map some++List.replicate (a8s'.length-2) none) S=(forD (fun x ρ S=>match asgCT (.tup [.var 2,.var 3]) x ρ with
   |some ρ'=>denSs a2S' G0 [.ite (.cmp .Eq (.var 1) (.var 2)) [.ret (.var 3)] [],.ite (.cmp .Eq (.var 1) (.var 3)) [.ret (.var 2)] []] ρ' S
   |none=>.fail) (tiesD ps) [some (.tup (tiesD ps)),some (.int p),none,none] S).bind fun f S1=>match f with
    | .next ρ'=>denSs a2S' G0 [.ret (.lit .non)] ρ' S1
    |f=>.ok f S1:=rfl
 rw[e]
 rcases hl with⟨v,h1,h2⟩| ⟨h1,x',y',h2⟩
 ·rw[h2,h1];rfl
 ·rw[h2,h1];rfl
def a6c' (m:Int)(ps:List (Int×Int)):List Int:=(a0p' 0 m.toNat).filter fun i=>(mateI ps i).isNone
theorem b2v' (o:Option Int):isNon (optD o)=o.isNone:=by cases o<;>rfl
theorem a9n' {S:Store}(hS:Flat S){m:Int}(h1:1≤m)(h2:m≤8)(ts ps:List (Int×Int)):a2U' [webD m ts,.tup (tiesD ps)] S=.ok (.tup ((a6c' m ps).map D.int)) S:=by
 refine a0E' rfl ?_ rfl hS (a5Z' _)
 have hi:idxD (webD m ts) (.int 0) S=.ok (.int m) S:=rfl
 have hr:(-4611686018427387904:Int)≤m∧m<4611686018427387904:=by omega
 simp[a6I',a6H',denSs,denS,denT,den,denL,denI,Res.bind,Res.noErr,onBl,bltD,compI,hi,hr,a2d']
 rw[a0A' (f:=D.int) (p:=fun i=>(mateI ps i).isNone) (e:=D.int)]
 ·simp[Res.noErr,a9S',seqOf,a6c']
 ·intro i hi acc ha
  have ha':acc.length<16777216:=ha
  have hq:=a6X' hS ps i
  have hn:=b2v' (mateI ps i)
  cases e:(mateI ps i).isNone<;>rw[e]at hn<;>simp[a0m',isNew,slots,a2J',asgCT,asgVs,denTs,denT,denB,den,denL,Res.bind,cmpD,isD,boolR,Res.noErr,onBl,a2T',hq,hn,ha']
 ·rw[a0R'];unfold big;omega
theorem a4A' {α:Type}{f:α→D}{g:α→List D}{c:Nat}{step:D→List D→Store→Res (List D)}{S:Store}(hg:∀x,(g x).length≤c):∀(xs:List α) (acc:List D),(∀x∈xs,∀acc,acc.length+c≤big→step (f x) acc S=.ok (acc++g x) S)→acc.length+c*xs.length≤big→compD step (xs.map f) acc S=.ok (acc++xs.flatMap g) S
 | [],acc,_,_=>by simp[compD]
 |x::xs,acc,h,hl=>by
  simp only[List.length_cons,Nat.mul_add,Nat.mul_one]at hl
  simp only[List.map_cons]
  unfold compD
  rw[h x List.mem_cons_self acc (by omega)]
  unfold Res.bind
  dsimp only
  rw[a4A' hg xs _ (fun y hy=>h y (List.mem_cons_of_mem _ hy)) (by have:=hg x;simp only[List.length_append];omega)]
  simp
theorem a8y':∀(ns acc:List Int),(acc++ns).Nodup→ns.foldl step_dedup acc=acc++ns
 | [],acc,_=>by simp
 |n::ns,acc,h=>by
  simp only[List.foldl_cons]
  have hn:acc.any (· ==n)=false:=by
   rw[List.any_eq_false]
   intro x hx z
   have:x=n:=by simpa using z
   subst this
   have:=(List.nodup_append.mp h).2.2 x hx x List.mem_cons_self
   exact this rfl
  have e:step_dedup acc n=acc++[n]:=by unfold step_dedup;rw[hn];rfl
  rw[e,a8y' ns (acc++[n]) (by rw[List.append_assoc];exact h),List.append_assoc]
  rfl
theorem a9o' {S:Store}(hS:Flat S){ns:List Int}(hl:ns.length<1000)(h:ns.Nodup):a1y' [.lst (ns.map D.int)] S=.ok (.bl true) S:=by
 refine a0E' rfl ?_ rfl hS rfl
 have h1:a8e' (.lst (ns.map D.int)) S=.ok (.int ns.length) S:=by
  have e1:(ns.map D.int).all (hasTy .int)=true:=by
   rw[List.all_eq_true]
   intro x hx
   obtain⟨n,_,rfl⟩:=List.mem_map.mp hx
   rfl
  have e2:(ns.map D.int).filterMap asInt=ns:=by
   rw[List.filterMap_map]
   exact List.filterMap_some
  have e3:dedI ns=ns:=by
   unfold dedI
   have:=a8y' ns [] (by simpa using h)
   simpa using this
  show(if(ns.map D.int).all (hasTy .int)=true∧(ns.map D.int).length<1000 then Res.ok (D.int ((dedI ((ns.map D.int).filterMap asInt)).length:Nat)) S else .fail)=_
  rw[if_pos ⟨e1,by simpa using hl⟩,e2,e3]
 have h2:lenD [.lst (ns.map D.int)] S=.ok (.int ns.length) S:=by simp[lenD,seqOf]
 have h3:cmpD .Eq (.int ns.length) (.int ns.length) S=.ok (.bl true) S:=by
  have:cmpD .Eq (.int ns.length) (.int ns.length) S=.ok (.bl ((ns.length:Int)==ns.length)) S:=rfl
  rw[this];simp
 simp[a4k',a4j',denSs,denS,den,denL,Res.bind,Res.noErr,bltD,h1,h2,h3]
def a0S' (ps:List (Int×Int)):List Int:=ps.flatMap fun t=>[t.1,t.2]
theorem b4L' (ps:List (Int×Int)):ps.flatMap (fun t=>[D.int t.1,D.int t.2])=(a0S' ps).map D.int:=by
 unfold a0S'
 rw[List.map_flatMap]
 rfl
theorem a3B' (ps:List (Int×Int)):(a0S' ps).length=2*ps.length:=by
 unfold a0S'
 induction ps with
 |nil=>rfl
 |cons t ts ih=>simp only[List.flatMap_cons,List.length_append,ih,List.length_cons];simp;omega
theorem a6Y' {S:Store}(hS:Flat S){m:Int}{ts ps:List (Int×Int)}(W:Web m ts)(P:Pairing ts ps)(hl:ps.length≤100):a2R' [webD m ts,.tup (tiesD ps)] S=.ok (.bl true) S:=by
 refine a0E' rfl ?_ rfl hS rfl
 have h0:idxD (webD m ts) (.int 0) S=.ok (.int m) S:=rfl
 have h0':idxD (webD m ts) (.int 1) S=.ok (.tup (tiesD ts)) S:=rfl
 have h2:a3s' [.tup (tiesD ps),.ty "tuple"] S=.ok (.bl true) S:=rfl
 have h3:=a5t' hS (show ps.length≤1000 by omega) P.ris
 unfold a6G'
 refine(a0j' (ρ':=[some (webD m ts),some (.tup (tiesD ps))]) (S':=S) (by simp[a6F',denS,denSs,denT,den,denL,Res.bind,Res.noErr,bltD,h2,truD])).trans ?_
 refine a3b' ?_
 simp[denS,den,denL,denI,Res.bind,Res.noErr,onBl,bltD,a0u',compI]
 rw[a3a']
 ·simp only[Res.noErr]
  rw[a6a']
  simp[a2s',h3]
 ·intro z hz acc ha
  obtain⟨t,ht,rfl⟩:=List.mem_map.mp hz
  have hp:=a5s' hS (W.tie t (P.sub t ht))
  have hin:=in_ties S t ts
  rw[decide_eq_true (P.sub t ht)]at hin
  have ha':acc.length<16777216:=ha
  simp[a0m',isNew,slots,a2J',asgCT,asgVs,denTs,denB,den,denL,Res.bind,a3j',hp,Res.noErr,h0,h0',cmpD,hin,boolR,onBl,ha']
 ·unfold tiesD big;simp;omega
theorem a4V' {S:Store}(hS:Flat S){m:Int}{ts ps:List (Int×Int)}(W:Web m ts)(P:Pairing ts ps)(hl:ps.length≤100):a1C' [webD m ts,.tup (tiesD ps)] S=.ok (.bl true) S:=by
 refine a0E' rfl ?_ rfl hS rfl
 have h1:=a2b' hS W
 have h3:=a6Y' hS W P hl
 have h4:=a9o' hS (ns:=a0S' ps) (by rw[a3B'];omega) P.un
 unfold a4n'
 refine(a0j' (ρ':=[some (webD m ts),some (.tup (tiesD ps))]) (S':=S) (by simp[a4m',denS,den,denL,Res.bind,a1s',h1])).trans ?_
 refine a3b' ?_
 simp[denS,den,denL,denI,Res.bind,Res.noErr,onBl,a1X',a1B',h3,a0u',compI]
 unfold tiesD
 rw[a4A' (f:=tieD) (g:=fun t=>[.int t.1,.int t.2]) (c:=2) (fun x=>by simp)]
 ·rw[b4L']
  simp[Res.noErr,h4]
 ·intro t ht acc ha
  have ha':acc.length+2≤16777216:=ha
  have e:a0m' (.var 0) (tieD t) [none,none]=some [some (tieD t),none]:=rfl
  have e2:a0u' S (tieD t)=some (.items [.int t.1,.int t.2]):=rfl
  simp[e,a0m',isNew,slots,a2J',asgCT,asgVs,denTs,denB,den,denI,Res.bind,Res.noErr,e2,compI,compD,show acc.length<16777216 by omega,show acc.length+1<16777216 by omega]
 ·unfold big;simp;omega
theorem a2D' {S:Store}(hS:Flat S){m:Int}{ts ps:List (Int×Int)}(W:Web m ts)(P:Pairing ts ps)(hl:ps.length≤100):a0G' [webD m ts,.tup (tiesD ps)] S=.ok .non S:=by
 refine b0Q' (ρ:=[some (webD m ts),some (.tup (tiesD ps))]) rfl ?_ rfl hS
 simp[a1K',a1J',denSs,denS,denT,den,denL,Res.bind,a0W',a4V' hS W P hl,truD]
theorem b4M' {S:Store}(hS:Flat S){m:Int}{ts ps:List (Int×Int)}(W:Web m ts)(P:Pairing ts ps)(hl:ps.length≤100):a4o' [webD m ts,.tup (tiesD ps)] S=.ok (.tup ((a6c' m ps).map D.int)) S:=by
 refine a0E' rfl ?_ rfl hS (a5Z' _)
 simp[b3m',b3l',denSs,denS,denT,den,denL,Res.bind,a1E',a3F',a2D' hS W P hl,a9n' hS W.lo W.hi]
def insI (x:Int×Int):List (Int×Int)→List (Int×Int)
 | []=>[x]
 |y::ys=>if lexlt x y then x::y::ys else y::insI x ys
def sortI (l:List (Int×Int)):List (Int×Int):=l.foldl (fun acc x=>insI x acc) []
theorem ltK_tie (a b:Int×Int):ltK (.seq .int) (tieD a) (tieD b)=decide (lexlt a b):=by
 have e:ltK (.seq .int) (tieD a) (tieD b)=(if decide (a.1<b.1)=true then true else if decide (b.1<a.1)=true then false else if decide (a.2<b.2)=true then true else if decide (b.2<a.2)=true then false else false):=rfl
 rw[e]
 simp only[decide_eq_true_eq]
 by_cases h:lexlt a b
 ·rw[decide_eq_true h]
  unfold lexlt at h
  repeat' split
  all_goals first|rfl|omega
 ·rw[decide_eq_false h]
  unfold lexlt at h
  repeat' split
  all_goals first|rfl|omega
theorem b0S' (x:Int×Int):∀l:List (Int×Int),insB (ltK (.seq .int)) (tieD x) (tiesD l)=tiesD (insI x l)
 | []=>rfl
 |y::ys=>by
  show(if ltK (.seq .int) (tieD x) (tieD y)=true then tieD x::tieD y::tiesD ys else tieD y::insB (ltK (.seq .int)) (tieD x) (tiesD ys))=tiesD (insI x (y::ys))
  have e:insI x (y::ys)=if lexlt x y then x::y::ys else y::insI x ys:=rfl
  rw[ltK_tie,b0S' x ys,e]
  by_cases h:lexlt x y
  ·rw[decide_eq_true h,if_pos rfl,if_pos h];rfl
  ·rw[decide_eq_false h,if_neg Bool.false_ne_true,if_neg h];rfl
theorem a8z':∀(l acc:List (Int×Int)),(tiesD l).foldl (fun acc x=>insB (ltK (.seq .int)) x acc) (tiesD acc)=tiesD (l.foldl (fun acc x=>insI x acc) acc)
 | [],acc=>rfl
 |x::l,acc=>by
  show(tiesD l).foldl (fun acc x=>insB (ltK (.seq .int)) x acc) (insB (ltK (.seq .int)) (tieD x) (tiesD acc))=_
  rw[b0S',a8z' l]
  rfl
theorem b2w' (l:List (Int×Int)):a4J' (ltK (.seq .int)) (tiesD l)=tiesD (sortI l):=a8z' l []
theorem a3T' (x:Int×Int):∀l,(insI x l).Perm (x::l)
 | []=>.refl _
 |y::ys=>by
  unfold insI
  split
  ·exact .refl _
  ·exact((a3T' x ys).cons y).trans (.swap x y ys)
theorem a6Z':∀(l acc:List (Int×Int)),(l.foldl (fun acc x=>insI x acc) acc).Perm (l++acc)
 | [],acc=>.refl _
 |x::l,acc=>by
  refine(a6Z' l (insI x acc)).trans ?_
  exact((a3T' x acc).append_left l).trans List.perm_middle
theorem a2f' (l:List (Int×Int)):(sortI l).Perm l:=by
 have:=a6Z' l []
 rw[List.append_nil]at this
 exact this
theorem lex_tot {x y:Int×Int}(h:¬lexlt x y)(n:x≠y):lexlt y x:=by
 unfold lexlt at h⊢
 have:¬(x.1=y.1∧x.2=y.2):=fun z=>n (Prod.ext z.1 z.2)
 omega
theorem b2x' {x y z:Int×Int}(a:lexlt x y)(b:lexlt y z):lexlt x z:=by
 unfold lexlt at*
 omega
theorem a5u' (x:Int×Int):∀l,l.Pairwise lexlt→x∉l→(insI x l).Pairwise lexlt
 | [],_,_=>List.pairwise_singleton _ _
 |y::ys,h,n=>by
  obtain⟨h1,h2⟩:=List.pairwise_cons.mp h
  unfold insI
  by_cases e:lexlt x y
  ·rw[if_pos e]
   refine List.pairwise_cons.mpr ⟨fun z hz=> ?_,h⟩
   rcases List.mem_cons.mp hz with rfl|hz
   ·exact e
   ·exact b2x' e (h1 z hz)
  ·rw[if_neg e]
   refine List.pairwise_cons.mpr ⟨fun z hz=> ?_,a5u' x ys h2 fun z=>n (List.mem_cons_of_mem _ z)⟩
   rcases List.mem_cons.mp ((a3T' x ys).mem_iff.mp hz)with rfl|hz
   ·exact lex_tot e fun z=>n (by subst z;exact List.mem_cons_self)
   ·exact h1 z hz
theorem a4B':∀(l acc:List (Int×Int)),acc.Pairwise lexlt→(l++acc).Nodup→(l.foldl (fun acc x=>insI x acc) acc).Pairwise lexlt
 | [],acc,h,_=>h
 |x::l,acc,h,n=>by
  have n':(x::(l++acc)).Nodup:=n
  obtain⟨n1,n2⟩:=List.nodup_cons.mp n'
  refine a4B' l (insI x acc) (a5u' x acc h fun z=>n1 (List.mem_append_right _ z)) ?_
  exact(((a3T' x acc).append_left l).trans List.perm_middle).nodup_iff.mpr n'
theorem a4C' {l:List (Int×Int)}(h:l.Nodup):(sortI l).Pairwise lexlt:=a4B' l [] .nil (by simpa using h)
theorem a4D' {S:Store}{d:D}{l:List (Int×Int)}(hd:seqOf S d=some (tiesD l))(hl:l.length<64):a2K' false (.seq .int) [d] S=.ok (.lst (tiesD (sortI l))) S:=by
 have e1:(tiesD l).all (hasTy (.seq .int))=true:=by
  rw[List.all_eq_true]
  intro x hx
  obtain⟨t,_,rfl⟩:=List.mem_map.mp hx
  rfl
 have e2:a4a' (.seq .int) (tiesD l)=true:=by
  have:((tiesD l).all fun d=> !isNil d)=true:=by
   rw[List.all_eq_true]
   intro x hx
   obtain⟨t,_,rfl⟩:=List.mem_map.mp hx
   rfl
  show(true&&(((tiesD l).all fun d=> !isNil d)||isNil ((tiesD l).headD .non)))=true
  rw[this]
  rfl
 have e3:(tiesD l).length<65536:=by unfold tiesD;rw[List.length_map];omega
 unfold a2K'
 simp only[hd]
 rw[if_pos ⟨e1,e3,e2⟩,b2w']
 rfl
theorem a7I' {m:Int}{l:List (Int×Int)}(h1:1≤m)(h2:m≤8)(hn:l.Nodup)(hv:∀t∈l,0≤t.1∧t.1<t.2∧t.2<m)(hl:l.length≤28):Web m (sortI l):=
 ⟨h1,h2,a4C' hn,fun t ht=>hv t ((a2f' l).mem_iff.mp ht),by rw[(a2f' l).length_eq];exact hl⟩
def a9p' (m:Nat):List (Int×Int):=(a0p' 0 m).flatMap fun i=>(a0p' (i+1) (m-1-i.toNat)).map fun j=>(i,j)
theorem eight {m:Int}(h1:1≤m)(h2:m≤8):m=1∨m=2∨m=3∨m=4∨m=5∨m=6∨m=7∨m=8:=by omega
theorem b2y' {S:Store}{m:Int}(h1:1≤m)(h2:m≤8):denSs a5l' G0 a5k' ([D.int m].map some++List.replicate (a5j'.length-1) none) S=.ok (.ret (.lst (tiesD (a9p' m.toNat)))) S:=by
 rcases eight h1 h2 with rfl|rfl|rfl|rfl|rfl|rfl|rfl|rfl<;>rfl
theorem b0T' {S:Store}(hS:Flat S){m:Int}(h1:1≤m)(h2:m≤8):a2o' [.int m] S=.ok (.lst (tiesD (a9p' m.toNat))) S:=
 a0E' rfl (b2y' h1 h2) rfl hS (a1d' _)
theorem b2z' {m:Int}(h1:1≤m)(h2:m≤8):Web m (a9p' m.toNat):=by
 rcases eight h1 h2 with rfl|rfl|rfl|rfl|rfl|rfl|rfl|rfl<;>exact⟨by decide,by decide,by decide+kernel,by decide+kernel,by decide+kernel⟩
theorem b3q' {m:Int}{ts us:List (Int×Int)}(W:Web m ts)(h:us.Sublist ts):Web m us:=
 ⟨W.lo,W.hi,W.ris.sublist h,fun t ht=>W.tie t (h.subset ht),Nat.le_trans h.length_le W.few⟩
def Drawn (n:Nat)(S S':Store):Prop:=∃a b:Int,S'=S.set n [.int a,.int b]
theorem Drawn.refl {n:Nat}{S:Store}(h:PenAt S n):Drawn n S S:=by
 obtain⟨a,b,h⟩:=h
 obtain⟨hl,e⟩:=List.getElem?_eq_some_iff.mp h
 exact⟨a,b,by rw[←e,List.set_getElem_self]⟩
theorem Drawn.trans {n:Nat}{S S1 S2:Store}(a:Drawn n S S1)(b:Drawn n S1 S2):Drawn n S S2:=by
 obtain⟨x,y,rfl⟩:=a
 obtain⟨z,w,rfl⟩:=b
 exact⟨z,w,by rw[List.set_set]⟩
theorem Drawn.flat {n:Nat}{S S':Store}(h:Drawn n S S')(hS:Flat S):Flat S':=by
 obtain⟨a,b,rfl⟩:=h
 exact hS.set rfl
theorem Drawn.pen {n:Nat}{S S':Store}(h:Drawn n S S')(hS:PenAt S n):PenAt S' n:=by
 obtain⟨a,b,rfl⟩:=h
 exact hS.set
theorem Drawn.len {n:Nat}{S S':Store}(h:Drawn n S S'):S'.length=S.length:=by
 obtain⟨a,b,rfl⟩:=h
 simp
theorem a7J' {S:Store}{n:Nat}{m:Int}(hS:Flat S)(hp:PenAt S n)(h0:0<m)(h1:m<1000):∃r S',0≤r∧r<m∧Drawn n S S'∧a0y' [.ref n,.int m] S=.ok (.int r) S':=by
 obtain⟨r,a,b,x,y,e⟩:=draw_ok hS hp h0 h1
 exact⟨r,_,x,y,⟨a,b,rfl⟩,e⟩
theorem a6d' {n:Nat}{step:D→List D→Store→Res (List D)}{f:Int×Int→D}:∀(ts:List (Int×Int)) (acc:List D) (S:Store),Flat S→PenAt S n→acc.length+ts.length≤1000→
  (∀t∈ts,∀acc S,Flat S→PenAt S n→acc.length≤1000→∃k S',Drawn n S S'∧step (f t) acc S=.ok (if k=true then acc++[f t]else acc) S')→
  ∃(us:List (Int×Int)) (S':Store),us.Sublist ts∧Drawn n S S'∧compD step (ts.map f) acc S=.ok (acc++us.map f) S'
 | [],acc,S,hS,hp,_,_=>⟨[],S,.slnil,.refl hp,by simp[compD]⟩
 |t::ts,acc,S,hS,hp,hl,h=>by
  simp only[List.length_cons]at hl
  obtain⟨k,S1,d1,e1⟩:=h t List.mem_cons_self acc S hS hp (by omega)
  simp only[List.map_cons]
  unfold compD
  rw[e1]
  cases k with
  |true=>
   obtain⟨us,S2,s2,d2,e2⟩:=a6d' ts (acc++[f t]) S1 (d1.flat hS) (d1.pen hp) (by simp;omega) fun u hu=>h u (List.mem_cons_of_mem _ hu)
   exact⟨t::us,S2,s2.cons_cons t,d1.trans d2,by
    show compD step (ts.map f) (acc++[f t]) S1=_
    rw[e2];simp⟩
  |false=>
   obtain⟨us,S2,s2,d2,e2⟩:=a6d' ts acc S1 (d1.flat hS) (d1.pen hp) (by omega) fun u hu=>h u (List.mem_cons_of_mem _ hu)
   exact⟨us,S2,s2.cons t,d1.trans d2,by
    show compD step (ts.map f) acc S1=_
    rw[e2]⟩
theorem a8A' {n:Nat}{step:D→List D→Store→Res (List D)}:∀(k:Nat) (lo:Int) (acc:List D) (S:Store),1≤lo→lo+k≤100→Flat S→PenAt S n→acc.length+k≤1000→
  (∀p:Int,1≤p→p<100→∀acc S,Flat S→PenAt S n→acc.length≤1000→∃r S',0≤r∧r<p∧Drawn n S S'∧step (.int p) acc S=.ok (acc++[tieD (r,p)]) S')→
  ∃(us:List (Int×Int)) (S':Store),us.map (·.2)=a0p' lo k∧(∀t∈us,0≤t.1∧t.1<t.2∧lo≤t.2∧t.2<lo+k)∧Drawn n S S'∧compD step ((a0p' lo k).map D.int) acc S=.ok (acc++tiesD us) S'
 |0,lo,acc,S,_,_,hS,hp,_,_=>⟨[],S,rfl,fun t h=>(by cases h),.refl hp,by simp[compD,a0p',tiesD]⟩
 |k+1,lo,acc,S,h1,h2,hS,hp,hl,h=>by
  obtain⟨r,S1,r0,r1,d1,e1⟩:=h lo h1 (by omega) acc S hS hp (by omega)
  obtain⟨us,S2,s2,v2,d2,e2⟩:=a8A' k (lo+1) (acc++[tieD (r,lo)]) S1 (by omega) (by omega) (d1.flat hS) (d1.pen hp) (by simp;omega) h
  refine⟨(r,lo)::us,S2,?_,fun t ht=> ?_,d1.trans d2,?_⟩
  ·simp only[List.map_cons,s2];rfl
  ·rcases List.mem_cons.mp ht with rfl|ht
   ·dsimp only;omega
   ·have:=v2 t ht;omega
  ·show compD step (D.int lo::(a0p' (lo+1) k).map D.int) acc S=_
   unfold compD
   rw[e1]
   show compD step _ (acc++[tieD (r,lo)]) S1=_
   rw[e2]
   simp[tiesD]
theorem a2E' {lo:Int}{n:Nat}:(a0p' lo n).Nodup:=by
 induction n generalizing lo with
 |zero=>exact List.nodup_nil
 |succ n ih=>
  unfold a0p'
  refine List.nodup_cons.mpr ⟨fun h=> ?_,ih⟩
  have:=a2e' h
  omega
end K15
end
section
namespace K15
open PySem PySem.Spec PyProof.Rows L2 Py
theorem a3I' {Φ:FT}{Γ:Str→Option D}{c:CE}{a b:List CS}{ρ:Rho}{S S1:Store}{k:Bool}(h:denT Φ Γ c ρ S=.ok k S1):denS Φ Γ (.ite c a b) ρ S=if k=true then denSs Φ Γ a ρ S1 else denSs Φ Γ b ρ S1:=by
 rw[denS,h];rfl
theorem a2g' {Φ:FT}{Γ:Str→Option D}{N:List Str}{fr:List (Option Nat)}{tg:CT}{it:CE}{ifs:List CE}{body:CE}{ρ:Rho}{S S1 S5:Store}{its:Its}{ys:List D}(hI:denI Φ Γ it ρ S=.ok its S1)
  (hc:compI (fun x acc S2=>match a0m' tg x (fr.map fun j=>j.bind fun j=>(ρ[j]?).join)with
    |some ρ'=>(denTs Φ Γ ifs ρ' S2).bind fun k S3=>if k=true then denB Φ Γ body ρ' acc S3 else .ok acc S3
    |none=>.fail) its [] S1=.ok ys S5):den Φ Γ (.comp false N fr tg it ifs body) ρ S=.ok (.lst ys) S5:=by
 rw[den,hI]
 exact Eq.trans (congrArg (fun r=>Res.bind (Res.noErr r) (fun ys S5=>if false=true then Res.ok (D.ref S5.length) (S5++[ys])else Res.ok (.lst ys) S5)) hc) rfl
section
variable {Φ:FT}{Γ:Str→Option D}{ρ:Rho}{S S1 S2 S3:Store}{d d2 r x y:D}{e a b:CE}
theorem den_v {i:Nat}(h:ρ[i]? =some (some d)):den Φ Γ (.var i) ρ S=.ok d S:=by rw[den,h]
theorem a4E' {k:Blt}(h:den Φ Γ e ρ S=.ok d S1)(hb:bltD k [d] S1=.ok r S2):den Φ Γ (.blt k [e]) ρ S=.ok r S2:=by simp[den,denL,h,Res.bind,hb,Res.noErr]
theorem b0U' (h1:den Φ Γ a ρ S=.ok x S1)(h2:den Φ Γ b ρ S1=.ok y S2):den Φ Γ (.tup [a,b]) ρ S=.ok (.tup [x,y]) S2:=by simp[den,denL,h1,h2,Res.bind]
theorem b4N' (h:den Φ Γ e ρ S=.ok d S1):denS Φ Γ (.ret e) ρ S=.ok (.ret d) S1:=by rw[denS,h];rfl
end
theorem a2q' {Φ:FT}{Γ:Str→Option D}{ρ:Rho}{S:Store}{w m k j:Int}(h2:ρ[2]? =some (some (.int m)))(h3:ρ[3]? =some (some (.int w))):denT Φ Γ (.band (.cmp .Eq (.var 3) (.lit (.int k))) (.cmp .Gt (.var 2) (.lit (.int j)))) ρ S=.ok (decide (w=k∧j<m)) S:=by
 have e1:cmpD .Eq (.int w) (.int k) S=.ok (.bl (w==k)) S:=rfl
 have e2:cmpD .Gt (.int m) (.int j) S=.ok (.bl (decide (j<m))) S:=rfl
 by_cases h:w=k
 ·subst h
  have h':(w==w)=true:=by simp
  rw[h']at e1
  simp[denT,den,Res.bind,Res.noErr,onBl,h2,h3,e1,e2]
 ·have h':(w==k)=false:=by simpa using h
  rw[h']at e1
  simp[denT,den,Res.bind,Res.noErr,onBl,h2,h3,e1,e2,h]
theorem b0V' {Φ:FT}{Γ:Str→Option D}{ρ:Rho}{S:Store}{w k:Int}(h3:ρ[3]? =some (some (.int w))):denT Φ Γ (.cmp .Eq (.var 3) (.lit (.int k))) ρ S=.ok (decide (w=k)) S:=by
 have e1:cmpD .Eq (.int w) (.int k) S=.ok (.bl (w==k)) S:=rfl
 have e2:(w==k)=decide (w=k):=rfl
 simp[denT,den,Res.bind,Res.noErr,onBl,h3,e1,e2]
theorem a6e' {Φ:FT}{Γ:Str→Option D}{c:CE}{a:List CS}{cs:List CS}{ρ:Rho}{S:Store}{P:Prop} [Decidable P] (h:denT Φ Γ c ρ S=.ok (decide P) S)(hn:¬P):denSs Φ Γ (.ite c a []::cs) ρ S=denSs Φ Γ cs ρ S:=
 a0j' (by rw[a3I' h,decide_eq_false hn,if_neg Bool.false_ne_true,denSs])
theorem a6f' {Φ:FT}{Γ:Str→Option D}{c:CE}{a:List CS}{cs:List CS}{ρ:Rho}{S S':Store}{d:D}{P:Prop} [Decidable P] (h:denT Φ Γ c ρ S=.ok (decide P) S)(hn:P)(ha:denSs Φ Γ a ρ S=.ok (.ret d) S'):denSs Φ Γ (.ite c a []::cs) ρ S=.ok (.ret d) S':=
 a3b' (by rw[a3I' h,decide_eq_true hn,if_pos rfl,ha])
theorem b4O' {S:Store}{r:Int}(h0:0≤r)(h1:r<12):∃v,0≤v∧v<8∧idxD (.lst [.int 0,.int 0,.int 1,.int 0,.int 2,.int 1,.int 3,.int 4,.int 5,.int 6,.int 7,.int 0]) (.int r) S=.ok (.int v) S:=by
 have:r=0∨r=1∨r=2∨r=3∨r=4∨r=5∨r=6∨r=7∨r=8∨r=9∨r=10∨r=11:=by omega
 rcases this with rfl|rfl|rfl|rfl|rfl|rfl|rfl|rfl|rfl|rfl|rfl|rfl<;>exact⟨_,by decide,by decide,rfl⟩
theorem b2A' {S:Store}{r:Int}(h0:0≤r)(h1:r<5):∃v:Int,idxD (.lst [.int 2,.int 3,.int 4,.int 6,.int 8]) (.int r) S=.ok (.int v) S:=by
 have:r=0∨r=1∨r=2∨r=3∨r=4:=by omega
 rcases this with rfl|rfl|rfl|rfl|rfl<;>exact⟨_,rfl⟩
def ringI (m:Nat):List (Int×Int):=(a0p' 0 (m-1)).map (fun k=>(k,k+1))++[(0,(m:Int)-1)]
def ring2I (m:Nat):List (Int×Int):=[(0,1),(0,2),(1,2)]++((a0p' 3 (m-4)).map (fun k=>(k,k+1))++[(3,(m:Int)-1),(2,3)])
theorem web_eq {S:Store}{n:Nat}(hS:Flat S)(hp:PenAt S n):∃m ts S',Web m ts∧Drawn n S S'∧a2p' [.ref n,.int 8] S=.ok (webD m ts) S':=by
 suffices h:∃m ts S',Web m ts∧Drawn n S S'∧denSs a0H' G0 a5W' [some (.ref n),some (.int 8),none,none,none,none,none] S=.ok (.ret (webD m ts)) S' by
  obtain⟨m,ts,S',W,d,e⟩:=h
  exact⟨m,ts,S',W,d,a0E' rfl e d.len (d.flat hS) (low_web m ts)⟩
 obtain⟨r,S1,r0,r1,d1,e1⟩:=a7J' hS hp (m:=12) (by decide) (by decide)
 have hS1:=d1.flat hS
 have hp1:=d1.pen hp
 obtain⟨v,v0,v1,ev⟩:=b4O' (S:=S1) r0 r1
 obtain⟨w,S2,w0,w1,d2,e2⟩:=a7J' hS1 hp1 (m:=9) (by decide) (by decide)
 have hS2:=d2.flat hS1
 have hp2:=d2.pen hp1
 have d12:=d1.trans d2
 have hm:∃m:Int,1≤m∧m≤8∧1+8-1-v%8=m:=⟨8-v,by omega,by omega,by omega⟩
 obtain⟨m,m0,m1,em⟩:=hm
 unfold a5W'
 rw[a0X' (d:=.int m) (S':=S1) (by
  simp[den,denL,Res.bind,Res.noErr,a0e',e1,ev,opD,addD,subD,modD]
  omega)]
 rw[a0X' (d:=.int w) (S':=S2) (by simp[den,denL,Res.bind,Res.noErr,a0e',e2])]
 simp only[List.set_cons_succ,List.set_cons_zero]
 by_cases c1:w=0∧2<m
 ·refine⟨m,sortI (ringI m.toNat),S2,?_,d12,?_⟩
  ·have:m=3∨m=4∨m=5∨m=6∨m=7∨m=8:=by omega
   rcases this with rfl|rfl|rfl|rfl|rfl|rfl<;>exact a7I' (by decide) (by decide) (by decide+kernel) (by decide+kernel) (by decide+kernel)
  ·refine a6f' (a2q' rfl rfl) c1 ?_
   have:m=3∨m=4∨m=5∨m=6∨m=7∨m=8:=by omega
   rcases this with rfl|rfl|rfl|rfl|rfl|rfl<;>rfl
 rw[a6e' (a2q' rfl rfl) c1]
 by_cases c2:w=1∧5<m
 ·refine⟨m,sortI (ring2I m.toNat),S2,?_,d12,?_⟩
  ·have:m=6∨m=7∨m=8:=by omega
   rcases this with rfl|rfl|rfl<;>exact a7I' (by decide) (by decide) (by decide+kernel) (by decide+kernel) (by decide+kernel)
  ·refine a6f' (a2q' rfl rfl) c2 ?_
   have:m=6∨m=7∨m=8:=by omega
   rcases this with rfl|rfl|rfl<;>rfl
 rw[a6e' (a2q' rfl rfl) c2]
 have hpw:=b2z' m0 m1
 by_cases c3:w=2∧2<m
 ·obtain⟨q,S3,q0,q1,d3,e3⟩:=a7J' hS2 hp2 (m:=2) (by decide) (by decide)
  have hS3:=d3.flat hS2
  refine⟨m,(a9p' m.toNat).filter (fun t=>decide (t.1<1+q∧1+q≤t.2)),S3,b3q' hpw List.filter_sublist,d12.trans d3,?_⟩
  refine a6f' (a2q' rfl rfl) c3 ?_
  rw[a0X' (d:=.int (1+q)) (S':=S3) (by simp[den,denL,Res.bind,Res.noErr,a0e',e3,opD,addD])]
  refine a3b' ?_
  simp[denS,den,denL,denI,Res.bind,Res.noErr,onBl,bltD,compI,a1b',b0T' hS3 m0 m1,a0u']
  unfold tiesD
  rw[a0A' (f:=tieD) (e:=tieD) (p:=fun t=>decide (t.1<1+q∧1+q≤t.2))]
  ·simp[Res.noErr,a9S',seqOf,webD,tiesD]
  ·intro t ht acc ha
   have ha':acc.length<16777216:=ha
   have x0:idxD (tieD t) (.int 0) S3=.ok (.int t.1) S3:=rfl
   have x1:idxD (tieD t) (.int 1) S3=.ok (.int t.2) S3:=rfl
   have x2:cmpD .Lt (.int t.1) (.int (1+q)) S3=.ok (.bl (decide (t.1<1+q))) S3:=rfl
   have x3:cmpD .LtE (.int (1+q)) (.int t.2) S3=.ok (.bl (decide (1+q≤t.2))) S3:=rfl
   by_cases y1:t.1<1+q<;>by_cases y2:1+q≤t.2<;>simp[a0m',isNew,slots,a2J',asgCT,asgVs,denTs,denT,denB,den,Res.bind,Res.noErr,onBl,x0,x1,x2,x3,y1,y2,ha']
  ·have:=hpw.few;unfold big;omega
 rw[a6e' (a2q' rfl rfl) c3]
 by_cases c4:w=3
 ·obtain⟨us,S3,s3,v3,d3,e3⟩:=a8A' (n:=n) (step:=fun x acc S2=>match a0m' (.var 0) x [none,some (.ref n)]with
    |some ρ'=>(denTs a0H' G0 [] ρ' S2).bind fun k S3=>if k=true then denB a0H' G0 (.emit (.tup [.call "_law_draw" [.var 1,.var 0],.var 0])) ρ' acc S3 else .ok acc S3
    |none=>.fail) (m-1).toNat 1 [] S2 (by decide) (by omega) hS2 hp2 (by simp;omega) (fun p p0 p1 acc S hS hp ha=>by
     obtain⟨r,S',r0,r1,d,e⟩:=a7J' hS hp (m:=p) (by omega) (by omega)
     refine⟨r,S',r0,r1,d,?_⟩
     have ha':acc.length<16777216:=by omega
     simp[a0m',isNew,slots,a2J',asgCT,asgVs,denTs,denB,den,denL,Res.bind,a0e',e,tieD,ha'])
  have hl:us.length=(m-1).toNat:=by
   have:=congrArg List.length s3
   simpa[a0R']using this
  have hn:us.Nodup:=by
   have h:(us.map (·.2)).Nodup:=by rw[s3];exact a2E'
   exact(List.pairwise_map.mp h).imp fun z e=>z (by rw[e])
  refine⟨m,sortI us,S3,a7I' m0 m1 hn (fun t ht=>by have:=v3 t ht;omega) (by omega),d12.trans d3,?_⟩
  refine a6f' (b0V' rfl) c4 (a3b' ?_)
  have hr:denI a0H' G0 (.range [.lit (.int 1),.var 2]) [some (.ref n),some (.int 8),some (.int m),some (.int w),none,none,none] S2=.ok (.items (a3d' 1 (m-1).toNat)) S2:=by
   simp[denI,denL,den,Res.bind]
   omega
  have hc:den a0H' G0 (.comp false ["_law_place","_law_pen_here"] [none,some 0] (.var 0) (.range [.lit (.int 1),.var 2]) [] (.emit (.tup [.call "_law_draw" [.var 1,.var 0],.var 0]))) [some (.ref n),some (.int 8),some (.int m),some (.int w),none,none,none] S2=.ok (.lst (tiesD us)) S3:=by
   rw[a2d']at hr
   exact a2g' hr e3
  have hsrt:=a4D' (S:=S3) (d:=.lst (tiesD us)) (l:=us) rfl (by omega)
  exact b4N' (b0U' (den_v rfl) (a4E' (a4E' hc hsrt) rfl))
 rw[a6e' (b0V' rfl) c4]
 obtain⟨q,S3,q0,q1,d3,e3⟩:=a7J' hS2 hp2 (m:=5) (by decide) (by decide)
 have hS3:=d3.flat hS2
 have hp3:=d3.pen hp2
 obtain⟨o,eo⟩:=b2A' (S:=S3) q0 q1
 rw[a0X' (d:=.int o) (S':=S3) (by simp[den,denL,Res.bind,Res.noErr,a0e',e3,eo])]
 simp only[List.set_cons_succ,List.set_cons_zero]
 obtain⟨us,S4,s4,d4,e4⟩:=a6d' (n:=n) (f:=tieD) (step:=fun x acc S2=>match a0m' (.var 0) x [none,some (.ref n),some (.int o)]with
    |some ρ'=>(denTs a0H' G0 [.cmp .Lt (.call "_law_draw" [.var 1,.lit (.int 8)]) (.var 2)] ρ' S2).bind fun k S3=>if k=true then denB a0H' G0 (.emit (.var 0)) ρ' acc S3 else .ok acc S3
    |none=>.fail) (a9p' m.toNat) [] S3 hS3 hp3 (by have:=hpw.few;simp;omega) (fun t ht acc S hS hp ha=>by
     obtain⟨r,S',r0,r1,d,e⟩:=a7J' hS hp (m:=8) (by decide) (by decide)
     refine⟨decide (r<o),S',d,?_⟩
     have x2:cmpD .Lt (.int r) (.int o) S'=.ok (.bl (decide (r<o))) S':=rfl
     have ha':acc.length<16777216:=by omega
     by_cases y:r<o<;>simp[a0m',isNew,slots,a2J',asgCT,asgVs,denTs,denT,denB,den,denL,Res.bind,Res.noErr,onBl,a0e',e,x2,y,ha'])
 refine⟨m,us,S4,b3q' hpw s4,(d12.trans d3).trans d4,a3b' ?_⟩
 have hc:den a0H' G0 (.comp false ["_law_tie","_law_pen_here","_law_often"] [none,some 0,some 6] (.var 0) (.seq (.call "_law_pairs" [.var 2])) [.cmp .Lt (.call "_law_draw" [.var 1,.lit (.int 8)]) (.var 2)] (.emit (.var 0))) [some (.ref n),some (.int 8),some (.int m),some (.int w),none,none,some (.int o)] S3=.ok (.lst (tiesD us)) S4:=by
  have hr:denI a0H' G0 (.seq (.call "_law_pairs" [.var 2])) [some (.ref n),some (.int 8),some (.int m),some (.int w),none,none,some (.int o)] S3=.ok (.items ((a9p' m.toNat).map tieD)) S3:=by
   simp[denI,denL,den,Res.bind,a1b',b0T' hS3 m0 m1,a0u',tiesD]
  exact a2g' hr e4
 exact b4N' (b0U' (den_v rfl) (a4E' hc rfl))
end K15
end
section
namespace K15
open PySem PySem.Spec PyProof.Rows L2 Py
section
variable {S:Store}{A B:List D}
theorem box0:(S++[A,B])[S.length]? =some A:=by rw[List.getElem?_append_right (Nat.le_refl _)];simp
theorem box1:(S++[A,B])[S.length+1]? =some B:=by rw[List.getElem?_append_right (by omega)];simp
theorem set0 {X:List D}:(S++[A,B]).set S.length X=S++[X,B]:=by rw[List.set_append_right _ _ (Nat.le_refl _)];simp
theorem set1 {X:List D}:(S++[A,B]).set (S.length+1) X=S++[A,X]:=by rw[List.set_append_right _ _ (by omega)];simp
theorem flat2 (h:Flat S)(ha:lowL 0 A=true)(hb:lowL 0 B=true):Flat (S++[A,B]):=by
 have:=(h.snoc ha).snoc hb
 simpa using this
theorem pen2 {n:Nat}(h:PenAt S n):PenAt (S++[A,B]) n:=by
 obtain⟨a,b,h⟩:=h
 exact⟨a,b,by rw[List.getElem?_append_left (List.getElem?_eq_some_iff.mp h).1];exact h⟩
theorem draw2 {n:Nat}{m:Int}(hS:Flat S)(hp:PenAt S n)(ha:lowL 0 A=true)(hb:lowL 0 B=true)(h0:0<m)(h1:m<1000):∃r S',0≤r∧r<m∧Drawn n S S'∧a0y' [.ref n,.int m] (S++[A,B])=.ok (.int r) (S'++[A,B]):=by
 obtain⟨r,T,r0,r1,⟨a,b,rfl⟩,e⟩:=a7J' (flat2 hS ha hb) (pen2 hp) h0 h1
 obtain⟨x,y,h⟩:=hp
 refine⟨r,S.set n [.int a,.int b],r0,r1,⟨a,b,rfl⟩,?_⟩
 rw[e,List.set_append_left _ _ (List.getElem?_eq_some_iff.mp h).1]
end
theorem a7a':∀(l:List (Int×Int)) (k:Nat),(tiesD l).eraseIdx k=tiesD (l.eraseIdx k)
 | [],k=>by simp[tiesD]
 |t::l,0=>rfl
 |t::l,k+1=>by
  show tieD t::(tiesD l).eraseIdx k=tieD t::tiesD (l.eraseIdx k)
  rw[a7a' l k]
theorem a6g' (l:List (Int×Int)):(tiesD l).length=l.length:=by unfold tiesD;simp
theorem a8B' {step:D→List D→Store→Res (List D)}{S:Store}{k:Nat}{xs:List D}(hk:S[k]? =some xs)(hs:∀x∈xs,∀acc,acc.length<big→step x acc S=.ok (acc++[.bl true]) S∨step x acc S=.ok (acc++[.bl false]) S):
  ∀(f i:Nat) (acc:List D),xs.length<f+i→i≤xs.length→compB step (a1k' k) f i acc S=compD step (xs.drop i) acc S∨big≤acc.length+(xs.length-i)
 |0,i,acc,h1,h2=>absurd h1 (by omega)
 |f+1,i,acc,h1,h2=>by
  unfold compB
  have hg:a1k' k S i=some xs[i]? :=by unfold a1k';rw[hk];rfl
  rw[hg]
  by_cases hi:i<xs.length
  ·rw[List.getElem?_eq_getElem hi,List.drop_eq_getElem_cons hi]
   by_cases hb:acc.length<big
   ·dsimp only
    unfold compD
    rcases hs xs[i] (List.getElem_mem hi) acc hb with e|e<;>rw[e]<;>dsimp only[Res.bind]
    all_goals
     rcases a8B' hk hs f (i+1) (acc++[_]) (by omega) (by omega)with z|z
     ·exact .inl z
     ·right;simp at z;omega
   ·right;omega
  ·rw[List.getElem?_eq_none (by omega),List.drop_eq_nil_of_le (by omega)]
   exact .inl rfl
def fits (t:Int×Int)(fs:List (Int×Int)):Bool:=fs.all fun o=> !hasP t.1 o&& !hasP t.2 o
def pgOne:CE:=.comp false ["_law_one","_law_tie"] [none,some 4] (.var 0) (.seq (.var 3)) [] (.emit (.band (.cmp .NotIn (.idx (.var 1) (.lit (.int 0))) (.var 0)) (.cmp .NotIn (.idx (.var 1) (.lit (.int 1))) (.var 0))))
def a9q':List CS:=[.asg 4 (.meth .pop (.var 2) [.call "_law_draw" [.var 0,.blt .len [.var 2]]]),.ite (.band (.blt .all [pgOne]) (.cmp .Gt (.call "_law_draw" [.var 0,.lit (.int 4)]) (.lit (.int 0)))) [.expr (.meth .append (.var 3) [.var 4])] []]
def b0W':CE:=.cmp .NotEq (.var 2) (.lst false [])
theorem one_den {S:Store}{n:Nat}{w:D}{t:Int×Int}{fs:List (Int×Int)}{A:List D}(hl:fs.length≤100):den a0a' G0 pgOne [some (.ref n),some w,some (.ref S.length),some (.ref (S.length+1)),some (tieD t)] (S++[A,tiesD fs])=.ok (.lst (fs.map fun o=>D.bl (!hasP t.1 o&& !hasP t.2 o))) (S++[A,tiesD fs]):=by
 have hst:∀(x:Int×Int) (acc:List D),acc.length<big→(fun x acc S2=>match a0m' (.var 0) x (([none,some 4]:List (Option Nat)).map fun j=>j.bind fun j=>(([some (.ref n),some w,some (.ref S.length),some (.ref (S.length+1)),some (tieD t)]:Rho)[j]?).join)with
    |some ρ'=>(denTs a0a' G0 [] ρ' S2).bind fun k S3=>if k=true then denB a0a' G0 (.emit (.band (.cmp .NotIn (.idx (.var 1) (.lit (.int 0))) (.var 0)) (.cmp .NotIn (.idx (.var 1) (.lit (.int 1))) (.var 0)))) ρ' acc S3 else .ok acc S3
    |none=>.fail) (tieD x) acc (S++[A,tiesD fs])=.ok (acc++[.bl (!hasP t.1 x&& !hasP t.2 x)]) (S++[A,tiesD fs]):=by
  intro x acc ha
  generalize S++[A,tiesD fs]=T
  have ha':acc.length<16777216:=ha
  have x0:idxD (tieD t) (.int 0) T=.ok (.int t.1) T:=rfl
  have x1:idxD (tieD t) (.int 1) T=.ok (.int t.2) T:=rfl
  have i0:inD (.int t.1) (tieD x) T=some (hasP t.1 x):=b4K' T t.1 x
  have i1:inD (.int t.2) (tieD x) T=some (hasP t.2 x):=b4K' T t.2 x
  cases y1:hasP t.1 x<;>cases y2:hasP t.2 x<;>rw[y1]at i0<;>rw[y2]at i1<;>simp[a0m',isNew,slots,a2J',asgCT,asgVs,denTs,denB,den,Res.bind,Res.noErr,onBl,x0,x1,cmpD,i0,i1,boolR,ha']
 refine a2g' (its:=.live ((tiesD fs).length+1) (a1k' (S.length+1))) (S1:=S++[A,tiesD fs]) ?_ ?_
 ·simp only[denI,den,Res.bind,List.getElem?_cons_succ,List.getElem?_cons_zero,a0u',box1]
  rfl
 ·rcases a8B' (step:=fun x acc S2=>match a0m' (.var 0) x (([none,some 4]:List (Option Nat)).map fun j=>j.bind fun j=>(([some (.ref n),some w,some (.ref S.length),some (.ref (S.length+1)),some (tieD t)]:Rho)[j]?).join)with
    |some ρ'=>(denTs a0a' G0 [] ρ' S2).bind fun k S3=>if k=true then denB a0a' G0 (.emit (.band (.cmp .NotIn (.idx (.var 1) (.lit (.int 0))) (.var 0)) (.cmp .NotIn (.idx (.var 1) (.lit (.int 1))) (.var 0)))) ρ' acc S3 else .ok acc S3
    |none=>.fail) (box1 (S:=S) (A:=A) (B:=tiesD fs)) (fun x hx acc ha=>by
     obtain⟨o,ho,rfl⟩:=List.mem_map.mp hx
     have:=hst o acc ha
     cases y:(!hasP t.1 o&& !hasP t.2 o)<;>rw[y]at this
     ·exact .inr this
     ·exact .inl this) ((tiesD fs).length+1) 0 [] (by omega) (by omega)with z|z
  ·rw[List.drop_zero]at z
   refine Eq.trans z ?_
   refine Eq.trans (a0A' (xs:=fs) (f:=tieD) (p:=fun _=>true) (e:=fun o=>D.bl (!hasP t.1 o&& !hasP t.2 o)) (fun x hx acc ha=>Eq.trans (hst x acc ha) rfl) (by unfold big;omega)) ?_
   rw[List.filter_eq_self.mpr (fun _ _=>rfl)]
  ·rw[a6g']at z
   unfold big at z
   simp at z
   omega
theorem b4P' {S:Store}{n:Nat}{w:D}{x:Option D}{ls:List (Int×Int)}{B:List D}:denT a0a' G0 b0W' [some (.ref n),some w,some (.ref S.length),some (.ref (S.length+1)),x] (S++[tiesD ls,B])=.ok (!ls.isEmpty) (S++[tiesD ls,B]):=by
 have e:eqF (S++[tiesD ls,B]) deep (.ref S.length) (.lst [])=some ls.isEmpty:=by
  show(match((S++[tiesD ls,B])[S.length]?).map Sh.lst,some (Sh.lst [])with
   |some x,some y=>eqS (eqF (S++[tiesD ls,B]) 39) x y
   |_,_=>none)=_
  rw[box0]
  cases ls with
  |nil=>rfl
  |cons t ls=>rfl
 simp[b0W',denT,den,denL,Res.bind,Res.noErr,onBl,cmpD,e,boolR]
theorem pop_den {S:Store}{n:Nat}{w:D}{x:Option D}{ls fs:List (Int×Int)}(hS:Flat S)(hp:PenAt S n)(hl:ls.length≤100)(hne:ls≠[]):∃t k S',t∈ls∧k<ls.length∧Drawn n S S'∧
  den a0a' G0 (.meth .pop (.var 2) [.call "_law_draw" [.var 0,.blt .len [.var 2]]]) [some (.ref n),some w,some (.ref S.length),some (.ref (S.length+1)),x] (S++[tiesD ls,tiesD fs])=.ok (tieD t) (S'++[tiesD (ls.eraseIdx k),tiesD fs]):=by
 have hpos:0<ls.length:=List.length_pos_iff.mpr hne
 obtain⟨r,S',r0,r1,d,e⟩:=draw2 (A:=tiesD ls) (B:=tiesD fs) hS hp (a1d' _) (a1d' _) (m:=ls.length) (by omega) (by omega)
 have hlen:lenD [.ref S.length] (S++[tiesD ls,tiesD fs])=.ok (.int ls.length) (S++[tiesD ls,tiesD fs]):=by
  simp only[lenD,seqOf,box0,a6g']
 have hk:r.toNat<ls.length:=by omega
 have hpop:b2V' (.ref S.length) [.int r] (S'++[tiesD ls,tiesD fs])=.ok (tieD ls[r.toNat]) (S'++[tiesD (ls.eraseIdx r.toNat),tiesD fs]):=by
  show a9Z' (.ref S.length) [.int r] (S'++[tiesD ls,tiesD fs])=_
  unfold a9Z'
  rw[←d.len]
  simp only[box0,a6g']
  have hi:ixN ls.length r=some r.toNat:=by unfold ixN;rw[if_pos r0,if_pos r1]
  have hg:(tiesD ls)[r.toNat]? =some (tieD ls[r.toNat]):=by unfold tiesD;rw[List.getElem?_map,List.getElem?_eq_getElem hk];rfl
  rw[hi]
  simp only[hg]
  rw[if_pos (by unfold big;omega),set0,a7a']
 refine⟨ls[r.toNat],r.toNat,S',List.getElem_mem hk,hk,d,?_⟩
 simp[den,denL,Res.bind,Res.noErr,bltD,hlen,a0L',e,methD,hpop]
theorem all_den {S:Store}{fs:List (Int×Int)}{g:Int×Int→Bool}:allD [.lst (fs.map fun o=>D.bl (g o))] S=.ok (.bl (fs.all g)) S:=by
 unfold allD
 simp only[seqOf]
 rw[List.map_map]
 rw[show allO (fs.map (asB∘fun o=>D.bl (g o)))=some (fs.all g)from allO_map]
 rfl
theorem b4Q' {S:Store}{n:Nat}{w:D}{x:Option D}{ls fs:List (Int×Int)}(hS:Flat S)(hp:PenAt S n)(hl:ls.length≤100)(hf:fs.length≤100)(hne:ls≠[]):
  ∃t k fs' S',t∈ls∧k<ls.length∧Drawn n S S'∧(fs'=fs∨(fits t fs=true∧fs'=fs++[t]))∧
  denSs a0a' G0 a9q' [some (.ref n),some w,some (.ref S.length),some (.ref (S.length+1)),x] (S++[tiesD ls,tiesD fs])=.ok (.next [some (.ref n),some w,some (.ref S.length),some (.ref (S.length+1)),some (tieD t)]) (S'++[tiesD (ls.eraseIdx k),tiesD fs']):=by
 obtain⟨t,k,S1,ht,hk,d1,e1⟩:=pop_den (w:=w) (x:=x) (fs:=fs) hS hp hl hne
 have hS1:=d1.flat hS
 have hp1:=d1.pen hp
 have hq:=one_den (S:=S1) (n:=n) (w:=w) (t:=t) (fs:=fs) (A:=tiesD (ls.eraseIdx k)) hf
 rw[d1.len]at hq
 have ha:denT a0a' G0 (.blt .all [pgOne]) [some (.ref n),some w,some (.ref S.length),some (.ref (S.length+1)),some (tieD t)] (S1++[tiesD (ls.eraseIdx k),tiesD fs])=.ok (fits t fs) (S1++[tiesD (ls.eraseIdx k),tiesD fs]):=by
  have hall:bltD .all [.lst (fs.map fun o=>D.bl (!hasP t.1 o&& !hasP t.2 o))] (S1++[tiesD (ls.eraseIdx k),tiesD fs])=.ok (.bl (fits t fs)) (S1++[tiesD (ls.eraseIdx k),tiesD fs]):=all_den
  revert hq
  generalize pgOne=E
  intro hq
  simp[denT,denL,hq,Res.bind,Res.noErr,hall,truD]
 unfold a9q'
 rw[a0X' e1]
 simp only[List.set_cons_succ,List.set_cons_zero]
 by_cases hfit:fits t fs=true
 ·obtain⟨r,S2,r0,r1,d2,e2⟩:=draw2 (A:=tiesD (ls.eraseIdx k)) (B:=tiesD fs) hS1 hp1 (a1d' _) (a1d' _) (m:=4) (by decide) (by decide)
  have hgt:cmpD .Gt (.int r) (.int 0) (S2++[tiesD (ls.eraseIdx k),tiesD fs])=.ok (.bl (decide (0<r))) (S2++[tiesD (ls.eraseIdx k),tiesD fs]):=rfl
  have hc:denT a0a' G0 (.band (.blt .all [pgOne]) (.cmp .Gt (.call "_law_draw" [.var 0,.lit (.int 4)]) (.lit (.int 0)))) [some (.ref n),some w,some (.ref S.length),some (.ref (S.length+1)),some (tieD t)] (S1++[tiesD (ls.eraseIdx k),tiesD fs])=.ok (decide (0<r)) (S2++[tiesD (ls.eraseIdx k),tiesD fs]):=by
   rw[denT,ha,hfit]
   simp[denT,den,denL,Res.bind,Res.noErr,onBl,a0L',e2,hgt]
  by_cases hr:0<r
  ·refine⟨t,k,fs++[t],S2,ht,hk,d1.trans d2,.inr ⟨hfit,rfl⟩,?_⟩
   rw[decide_eq_true hr]at hc
   have happ:a2w' (.ref (S.length+1)) [tieD t] (S2++[tiesD (ls.eraseIdx k),tiesD fs])=.ok .non (S2++[tiesD (ls.eraseIdx k),tiesD (fs++[t])]):=by
    have hL:=(d1.trans d2).len
    unfold a2w'
    rw[←hL]
    simp only[box1,a6g']
    rw[if_pos (by unfold big;omega),set1]
    unfold tiesD
    simp
   refine a0j' ?_
   rw[a3I' hc,if_pos rfl]
   simp[denSs,denS,den,denL,Res.bind,Res.noErr,methD,happ]
  ·refine⟨t,k,fs,S2,ht,hk,d1.trans d2,.inl rfl,?_⟩
   rw[decide_eq_false hr]at hc
   refine a0j' ?_
   rw[a3I' hc,if_neg Bool.false_ne_true,denSs]
 ·refine⟨t,k,fs,S1,ht,hk,d1,.inl rfl,?_⟩
  have hfit':fits t fs=false:=by simpa using hfit
  have hc:denT a0a' G0 (.band (.blt .all [pgOne]) (.cmp .Gt (.call "_law_draw" [.var 0,.lit (.int 4)]) (.lit (.int 0)))) [some (.ref n),some w,some (.ref S.length),some (.ref (S.length+1)),some (tieD t)] (S1++[tiesD (ls.eraseIdx k),tiesD fs])=.ok false (S1++[tiesD (ls.eraseIdx k),tiesD fs]):=by
   rw[denT,ha,hfit']
   simp[Res.bind]
  refine a0j' ?_
  rw[a3I' hc,if_neg Bool.false_ne_true,denSs]
end K15
end
section
namespace K15
open PySem PySem.Spec PyProof.Rows L2 Py
structure Found (ts fs:List (Int×Int)):Prop where
 sub:∀t∈fs,t∈ts
 un:(a0S' fs).Nodup
theorem a9r' (fs:List (Int×Int))(t:Int×Int):a0S' (fs++[t])=a0S' fs++[t.1,t.2]:=by
 unfold a0S'
 simp
theorem a7b' {fs:List (Int×Int)}{p:Int}(h:p∈a0S' fs):∃o∈fs,p=o.1∨p=o.2:=by
 unfold a0S' at h
 obtain⟨o,ho,h⟩:=List.mem_flatMap.mp h
 exact⟨o,ho,by simpa using h⟩
theorem Found.add {m:Int}{ts fs:List (Int×Int)}{t:Int×Int}(W:Web m ts)(F:Found ts fs)(ht:t∈ts)(h:fits t fs=true):Found ts (fs++[t]):=by
 have hf:∀o∈fs,¬(t.1=o.1∨t.1=o.2)∧¬(t.2=o.1∨t.2=o.2):=fun o ho=>by
  have:=List.all_eq_true.mp h o ho
  simp only[Bool.and_eq_true,Bool.not_eq_true',hasP,decide_eq_false_iff_not]at this
  exact this
 refine⟨fun u hu=> ?_,?_⟩
 ·rcases List.mem_append.mp hu with z|z
  ·exact F.sub u z
  ·have:u=t:=by simpa using z
   subst this;exact ht
 ·rw[a9r',List.nodup_append]
  have:=W.tie t ht
  refine⟨F.un,?_,fun a ha b hb=> ?_⟩
  ·simp;omega
  ·obtain⟨o,ho,e⟩:=a7b' ha
   obtain⟨h1,h2⟩:=hf o ho
   simp at hb
   intro z
   subst z
   rcases hb with rfl|rfl
   ·exact h1 e
   ·exact h2 e
theorem Found.length {ts fs:List (Int×Int)}{m:Int}(W:Web m ts)(F:Found ts fs):fs.length≤28:=by
 have hn:fs.Nodup:=by
  have h:=F.un
  clear F
  induction fs with
  |nil=>exact List.nodup_nil
  |cons t fs ih=>
   have e:a0S' (t::fs)=[t.1,t.2]++a0S' fs:=rfl
   rw[e]at h
   obtain⟨h1,h2,h3⟩:=List.nodup_append.mp h
   refine List.nodup_cons.mpr ⟨fun z=> ?_,ih h2⟩
   exact h3 t.1 (by simp) t.1 (by unfold a0S';exact List.mem_flatMap.mpr ⟨t,z,by simp⟩) rfl
 exact Nat.le_trans (hn.length_le_of_subset fun t ht=>F.sub t ht) W.few
theorem Found.nodup {ts fs:List (Int×Int)}(F:Found ts fs):fs.Nodup:=by
 have h:=F.un
 clear F
 induction fs with
 |nil=>exact List.nodup_nil
 |cons t fs ih=>
  have e:a0S' (t::fs)=[t.1,t.2]++a0S' fs:=rfl
  rw[e]at h
  obtain⟨h1,h2,h3⟩:=List.nodup_append.mp h
  refine List.nodup_cons.mpr ⟨fun z=> ?_,ih h2⟩
  exact h3 t.1 (by simp) t.1 (by unfold a0S';exact List.mem_flatMap.mpr ⟨t,z,by simp⟩) rfl
theorem Found.pairing {ts fs:List (Int×Int)}(F:Found ts fs):Pairing ts (sortI fs):=
 ⟨a4C' F.nodup,fun t ht=>F.sub t ((a2f' fs).mem_iff.mp ht),(((a2f' fs).flatMap_right _).nodup_iff).mpr F.un⟩
theorem a8C' {n:Nat}{w:D}{m:Int}{ts:List (Int×Int)}(W:Web m ts):∀(f:Nat) (S:Store) (x:Option D) (ls fs:List (Int×Int)),ls.length<f→ls.length≤100→(∀t∈ls,t∈ts)→Found ts fs→Flat S→PenAt S n→
  ∃x' fs' S',Found ts fs'∧Drawn n S S'∧a4K' (denT a0a' G0 b0W') (denSs a0a' G0 a9q') f [some (.ref n),some w,some (.ref S.length),some (.ref (S.length+1)),x] (S++[tiesD ls,tiesD fs])=.ok (.next [some (.ref n),some w,some (.ref S.length),some (.ref (S.length+1)),x']) (S'++[[],tiesD fs'])
 |0,S,x,ls,fs,h,_,_,_,_,_=>absurd h (by omega)
 |f+1,S,x,ls,fs,h,hl,hsub,F,hS,hp=>by
  unfold a4K'
  rw[b4P']
  cases ls with
  |nil=>exact⟨x,fs,S,F,.refl hp,rfl⟩
  |cons t0 ls=>
   obtain⟨t,k,fs',S1,ht,hk,d1,hfs,e1⟩:=b4Q' (w:=w) (x:=x) (ls:=t0::ls) (fs:=fs) hS hp hl (by have:=F.length W;omega) (by simp)
   have F':Found ts fs':=by
    rcases hfs with rfl| ⟨h1,rfl⟩
    ·exact F
    ·exact F.add W (hsub t ht) h1
   have hlen:((t0::ls).eraseIdx k).length=ls.length:=by rw[List.length_eraseIdx_of_lt hk];rfl
   simp only[List.length_cons]at h hl
   obtain⟨x',fs2,S2,F2,d2,e2⟩:=a8C' W f S1 (some (tieD t)) ((t0::ls).eraseIdx k) fs' (by omega) (by omega) (fun u hu=>hsub u (List.mem_of_mem_eraseIdx hu)) F' (d1.flat hS) (d1.pen hp)
   refine⟨x',fs2,S2,F2,d1.trans d2,?_⟩
   show(Res.bind (denSs a0a' G0 a9q' [some (.ref n),some w,some (.ref S.length),some (.ref (S.length+1)),x] (S++[tiesD (t0::ls),tiesD fs])) fun f' S'=>match f' with
    | .next ρ'=>a4K' (denT a0a' G0 b0W') (denSs a0a' G0 a9q') f ρ' S'
    | .cont ρ'=>a4K' (denT a0a' G0 b0W') (denSs a0a' G0 a9q') f ρ' S'
    | .brk ρ'=>.ok (.next ρ') S'
    | .ret d=>.ok (.ret d) S')=_
   rw[e1]
   rw[d1.len]at e2
   exact e2
theorem a7c' {S:Store}{n:Nat}{m:Int}{ts:List (Int×Int)}(W:Web m ts)(hS:Flat S)(hp:PenAt S n):∃ps S',Pairing ts ps∧ps.length≤28∧Drawn n S S'∧a0z' [.ref n,webD m ts] S=.ok (.tup (tiesD ps)) S':=by
 obtain⟨x',fs,S1,F,d,e⟩:=a8C' (n:=n) (w:=webD m ts) W 40 S none ts [] (by have:=W.few;omega) (by have:=W.few;omega) (fun t h=>h) ⟨fun t h=>(by cases h),List.nodup_nil⟩ hS hp
 have hl:=F.length W
 refine⟨sortI fs,S1,F.pairing,by rw[(a2f' fs).length_eq];exact hl,d,?_⟩
 have hd:denSs a0a' G0 a0Q' [some (.ref n),some (webD m ts),none,none,none] S=.ok (.ret (.tup (tiesD (sortI fs)))) (S1++[[],tiesD fs]):=by
  unfold a0Q'
  have x1:idxD (webD m ts) (.int 1) S=.ok (.tup (tiesD ts)) S:=rfl
  have l1:listD true [.tup (tiesD ts)] S=.ok (.ref S.length) (S++[tiesD ts]):=rfl
  rw[a0X' (d:=.ref S.length) (S':=S++[tiesD ts]) (by simp[den,denL,Res.bind,Res.noErr,bltD,x1,l1])]
  rw[a0X' (d:=.ref (S.length+1)) (S':=S++[tiesD ts,[]]) (by simp[den,denL,Res.bind])]
  simp only[List.set_cons_succ,List.set_cons_zero]
  refine(a0j' (ρ':=[some (.ref n),some (webD m ts),some (.ref S.length),some (.ref (S.length+1)),x']) (S':=S1++[[],tiesD fs]) ?_).trans ?_
  ·rw[denS];exact e
  ·refine a3b' (b4N' (a4E' (a4E' (den_v rfl) (a4D' (l:=fs) ?_ (by omega))) rfl))
   rw[←d.len]
   exact box1
 show runD a0a' G0 a0Q' a2a'.length 2 [.ref n,webD m ts] S=_
 unfold runD
 rw[if_pos (show [D.ref n,webD m ts].length=2 from rfl)]
 rw[show denSs a0a' G0 a0Q' ([D.ref n,webD m ts].map some++List.replicate (a2a'.length-2) none) S=_ from hd]
 have ht:(S1++[[],tiesD fs]).take S.length=S1:=by rw[←d.len];simp
 have:=a2Z' (k:=S.length) (d:=.tup (tiesD (sortI fs))) (S':=S1++[[],tiesD fs]) (by rw[ht];exact d.flat hS) (a1d' _)
 rw[ht]at this
 exact this
end K15
end
section
namespace Py
abbrev Ti:=Int×Int
def Chn (ts p:List Ti):Prop:=(∀t∈p,t∈ts)∧p.Pairwise (fun s t=>s.1<t.1∧s.2≠t.1∧s.2≠t.2)
def freeP (p:List Ti)(x:Int):Bool:=p.all fun s=>decide (x≠s.1)&&decide (x≠s.2)
theorem a8D' {p:List Ti}{x:Int}:freeP p x=true↔∀s∈p,x≠s.1∧x≠s.2:=by
 unfold freeP
 simp only[List.all_eq_true,Bool.and_eq_true,decide_eq_true_eq]
def a1o' (ts:List Ti)(a:Int)(F:List (List Ti)):List (List Ti):=F++(ts.filter fun t=>decide (t.1=a)).flatMap fun t=>(F.filter fun p=>freeP p t.2).map (t:: ·)
def DI (ts:List Ti)(a:Int)(F:List (List Ti)):Prop:=F.Nodup∧∀p,p∈F↔Chn ts p∧∀t∈p,a≤t.1
theorem a6h' {ts p:List Ti}{t:Ti}:Chn ts (t::p)↔t∈ts∧Chn ts p∧∀s∈p,t.1<s.1∧t.2≠s.1∧t.2≠s.2:=by
 unfold Chn
 rw[List.pairwise_cons]
 constructor
 ·rintro⟨h1,h2,h3⟩
  exact⟨h1 t List.mem_cons_self,⟨fun s hs=>h1 s (List.mem_cons_of_mem _ hs),h3⟩,h2⟩
 ·rintro⟨h1,⟨h2,h3⟩,h4⟩
  refine⟨fun s hs=> ?_,h4,h3⟩
  rcases List.mem_cons.mp hs with rfl|hs
  ·exact h1
  ·exact h2 s hs
theorem b3r' {ts:List Ti}{a:Int}{F:List (List Ti)}(hn:ts.Nodup)(h:DI ts (a+1) F):DI ts a (a1o' ts a F):=by
 obtain⟨h1,h2⟩:=h
 unfold a1o'
 refine⟨?_,fun p=> ?_⟩
 ·rw[List.nodup_append]
  refine⟨h1,?_,fun p hp q hq z=> ?_⟩
  ·unfold List.Nodup
   rw[List.pairwise_flatMap]
   refine⟨fun t ht=> ?_,?_⟩
   ·rw[List.pairwise_map]
    exact(List.Pairwise.filter _ h1).imp fun hne z=>hne (by injection z)
   ·refine(List.Pairwise.filter _ hn).imp fun hne x hx y hy z=> ?_
    obtain⟨x',_,rfl⟩:=List.mem_map.mp hx
    obtain⟨y',_,rfl⟩:=List.mem_map.mp hy
    injection z with z1 _
    exact hne z1
  ·subst z
   obtain⟨t,ht,hp'⟩:=List.mem_flatMap.mp hq
   obtain⟨q,hq,rfl⟩:=List.mem_map.mp hp'
   have:=((h2 _).mp hp).2 t List.mem_cons_self
   have e:t.1=a:=by simpa using(List.mem_filter.mp ht).2
   omega
 ·rw[List.mem_append,List.mem_flatMap]
  constructor
  ·rintro(hp| ⟨t,ht,hp⟩)
   ·obtain⟨c,d⟩:=(h2 p).mp hp
    exact⟨c,fun t ht=>by have:=d t ht;omega⟩
   ·obtain⟨q,hq,rfl⟩:=List.mem_map.mp hp
    obtain⟨hq,hf⟩:=List.mem_filter.mp hq
    obtain⟨ht,e⟩:=List.mem_filter.mp ht
    have e:t.1=a:=by simpa using e
    obtain⟨c,d⟩:=(h2 q).mp hq
    have hf:=a8D'.mp hf
    refine⟨a6h'.mpr ⟨ht,c,fun s hs=>⟨by have:=d s hs;omega,hf s hs⟩⟩,fun s hs=> ?_⟩
    rcases List.mem_cons.mp hs with rfl|hs
    ·omega
    ·have:=d s hs;omega
  ·rintro⟨c,d⟩
   cases p with
   |nil=>exact .inl ((h2 []).mpr ⟨c,fun t ht=>by cases ht⟩)
   |cons t q=>
    obtain⟨c1,c2,c3⟩:=a6h'.mp c
    have dt:=d t List.mem_cons_self
    by_cases e:t.1=a
    ·right
     refine⟨t,List.mem_filter.mpr ⟨c1,by simpa using e⟩,List.mem_map.mpr ⟨q,List.mem_filter.mpr ⟨(h2 q).mpr ⟨c2,fun s hs=> ?_⟩,a8D'.mpr fun s hs=>(c3 s hs).2⟩,rfl⟩⟩
     have:=(c3 s hs).1
     omega
    ·left
     refine(h2 _).mpr ⟨c,fun s hs=> ?_⟩
     rcases List.mem_cons.mp hs with rfl|hs
     ·omega
     ·have:=(c3 s hs).1;omega
def a5v' (ts:List Ti):Nat→List (List Ti)→List (List Ti)
 |0,F=>F
 |n+1,F=>a5v' ts n (a1o' ts n F)
theorem a7d' {ts:List Ti}(hn:ts.Nodup):∀(n:Nat) (F:List (List Ti)),DI ts n F→DI ts 0 (a5v' ts n F)
 |0,F,h=>h
 |n+1,F,h=>a7d' hn n _ (b3r' hn h)
theorem a7e' {ts:List Ti}{m:Nat}(hv:∀t∈ts,t.1<(m:Int)):DI ts m [[]]:=by
 refine⟨by simp,fun p=> ?_⟩
 rw[List.mem_singleton]
 constructor
 ·rintro rfl
  exact⟨⟨fun t ht=>by(cases ht),.nil⟩,fun t ht=>by cases ht⟩
 ·rintro⟨c,d⟩
  cases p with
  |nil=>rfl
  |cons t q=>
   have h1:=d t List.mem_cons_self
   have h2:=hv t (c.1 t List.mem_cons_self)
   omega
def bitI (u x:Int):Int:=u/2^x.toNat%2
theorem bit_add:∀u<256,∀a<8,(u/2^a)%2=0→u+2^a<256∧∀x<8,(u+2^a)/2^x%2=if x=a then 1 else u/2^x%2:=by decide+kernel
theorem a2h' (u x:Nat):bitI u x=((u/2^x%2:Nat):Int):=by
 unfold bitI
 rw[Int.toNat_natCast]
 norm_cast
theorem b0X' {u a:Int}(h1:0≤u)(h2:u<256)(h3:0≤a)(h4:a<8)(h:bitI u a=0):u+2^a.toNat<256∧∀x,0≤x→x<8→bitI (u+2^a.toNat) x=if x=a then 1 else bitI u x:=by
 obtain⟨u,rfl⟩:=Int.eq_ofNat_of_zero_le h1
 obtain⟨a,rfl⟩:=Int.eq_ofNat_of_zero_le h3
 rw[a2h']at h
 obtain⟨k1,k2⟩:=bit_add u (by omega) a (by omega) (by omega)
 rw[Int.toNat_natCast]
 have e:((u:Int)+2^a)=((u+2^a:Nat):Int):=by norm_cast
 rw[e]
 refine⟨by omega,fun x h5 h6=> ?_⟩
 obtain⟨x,rfl⟩:=Int.eq_ofNat_of_zero_le h5
 rw[a2h',a2h',k2 x (by omega)]
 by_cases hx:x=a
 ·rw[if_pos hx,if_pos (by omega)];rfl
 ·rw[if_neg hx,if_neg (by omega)]
def Msk (c:List Ti)(u:Int):Prop:=0≤u∧u<256∧∀x,0≤x→x<8→(bitI u x=0↔∀s∈c,x≠s.1∧x≠s.2)
def upRow (nr:Int→List Int)(a:Int)(r:List Ti×Int):List (List Ti×Int):=r::(if bitI r.2 a=0 then((nr a).filter fun b=>decide (a<b)&&decide (bitI r.2 b=0)).map fun b=>(r.1++[(a,b)],r.2+2^a.toNat+2^b.toNat)else [])
def a3J' (nr:Int→List Int)(a:Int)(rows:List (List Ti×Int)):List (List Ti×Int):=rows.flatMap (upRow nr a)
structure UI (ts:List Ti)(a:Int)(rows:List (List Ti×Int)):Prop where
 nd:rows.Pairwise (fun r s=>r.1≠s.1)
 msk:∀r∈rows,Msk r.1 r.2
 mem:∀c,(∃u,(c,u)∈rows)↔Chn ts c∧∀t∈c,t.1<a
theorem b0Y' {ts p:List Ti}{t:Ti}:Chn ts (p++[t])↔t∈ts∧Chn ts p∧∀s∈p,s.1<t.1∧s.2≠t.1∧s.2≠t.2:=by
 unfold Chn
 rw[List.pairwise_append]
 constructor
 ·rintro⟨h1,h2,h3,h4⟩
  exact⟨h1 t (by simp),⟨fun s hs=>h1 s (by simp[hs]),h2⟩,fun s hs=>h4 s hs t (by simp)⟩
 ·rintro⟨h1,⟨h2,h3⟩,h4⟩
  refine⟨fun s hs=> ?_,h3,by simp,fun s hs t' ht'=> ?_⟩
  ·rcases List.mem_append.mp hs with hs|hs
   ·exact h2 s hs
   ·rw[List.mem_singleton.mp hs];exact h1
  ·rw[List.mem_singleton.mp ht'];exact h4 s hs
theorem b2B' {nr:Int→List Int}{a:Int}{r x:List Ti×Int}(h:x∈upRow nr a r):x=r∨(bitI r.2 a=0∧∃b,b∈nr a∧a<b∧bitI r.2 b=0∧x=(r.1++[(a,b)],r.2+2^a.toNat+2^b.toNat)):=by
 unfold upRow at h
 rcases List.mem_cons.mp h with h|h
 ·exact .inl h
 ·split at h
  ·rename_i h0
   obtain⟨b,hb,rfl⟩:=List.mem_map.mp h
   obtain⟨hb,hc⟩:=List.mem_filter.mp hb
   simp only[Bool.and_eq_true,decide_eq_true_eq]at hc
   exact .inr ⟨h0,b,hb,hc.1,hc.2,rfl⟩
  ·cases h
theorem up_ok {ts:List Ti}{nr:Int→List Int}{a:Int}{rows:List (List Ti×Int)}(h0:0≤a)(h8:a<8)(hv:∀t∈ts,0≤t.1∧t.1<t.2∧t.2<8)(hn:(nr a).Nodup)(hm:∀b,a<b→(b∈nr a↔(a,b)∈ts))(h:UI ts a rows):UI ts (a+1) (a3J' nr a rows):=by
 have low:∀r∈rows,∀s∈r.1,s.1<a:=fun r hr=>((h.mem r.1).mp ⟨r.2,hr⟩).2
 refine⟨?_,fun x hx=> ?_,fun c=> ?_⟩
 ·unfold a3J'
  rw[List.pairwise_flatMap]
  refine⟨fun r hr=> ?_,?_⟩
  ·unfold upRow
   rw[List.pairwise_cons]
   refine⟨fun x hx z=> ?_,?_⟩
   ·split at hx
    ·obtain⟨b,hb,rfl⟩:=List.mem_map.mp hx
     have:=congrArg List.length z
     simp at this
    ·cases hx
   ·split
    ·rw[List.pairwise_map]
     refine(List.Pairwise.filter _ hn).imp fun hne z=>hne ?_
     have z:=List.append_cancel_left z
     injection z with z _
     injection z
    ·exact .nil
  ·refine List.Pairwise.imp_of_mem (fun{r s} hr hs hne x hx y hy z=> ?_) h.nd
   rcases b2B' hx with rfl| ⟨_,b,_,_,_,rfl⟩<;>rcases b2B' hy with rfl| ⟨_,b',_,_,_,rfl⟩
   ·exact hne z
   ·have:=low x hr (a,b') (by rw[z];simp)
    simp at this
   ·have:=low y hs (a,b) (by rw[←z];simp)
    simp at this
   ·have z:r.1++[(a,b)]=s.1++[(a,b')]:=z
    exact hne (List.append_inj_left' z rfl)
 ·obtain⟨r,hr,hx⟩:=List.mem_flatMap.mp hx
  obtain⟨m1,m2,m3⟩:=h.msk r hr
  rcases b2B' hx with rfl| ⟨k0,b,k1,k2,k3,rfl⟩
  ·exact⟨m1,m2,m3⟩
  ·have hb8:=hv (a,b) ((hm b k2).mp k1)
   simp only at hb8
   obtain⟨e1,e2⟩:=b0X' m1 m2 h0 h8 k0
   have p1:(0:Int)≤r.2+2^a.toNat:=by have:(0:Int)≤2^a.toNat:=Int.pow_nonneg (by decide);omega
   obtain⟨f1,f2⟩:=b0X' p1 e1 (by omega:0≤b) hb8.2.2 (by rw[e2 b (by omega) hb8.2.2,if_neg (by omega)];exact k3)
   refine⟨by have:(0:Int)≤2^b.toNat:=Int.pow_nonneg (by decide);show 0≤r.2+2^a.toNat+2^b.toNat;omega,f1,fun x x0 x8=> ?_⟩
   show bitI (r.2+2^a.toNat+2^b.toNat) x=0↔_
   rw[f2 x x0 x8]
   by_cases hxb:x=b
   ·rw[if_pos hxb]
    refine⟨fun z=>absurd z (by decide),fun z=>absurd hxb (z (a,b) (by simp)).2⟩
   ·rw[if_neg hxb,e2 x x0 x8]
    by_cases hxa:x=a
    ·rw[if_pos hxa]
     refine⟨fun z=>absurd z (by decide),fun z=>absurd hxa (z (a,b) (by simp)).1⟩
    ·rw[if_neg hxa,m3 x x0 x8]
     constructor
     ·intro z s hs
      rcases List.mem_append.mp hs with hs|hs
      ·exact z s hs
      ·rw[List.mem_singleton.mp hs];exact⟨hxa,hxb⟩
     ·intro z s hs
      exact z s (List.mem_append.mpr (.inl hs))
 ·constructor
  ·rintro⟨u,hx⟩
   obtain⟨r,hr,hx⟩:=List.mem_flatMap.mp hx
   obtain⟨g1,g2⟩:=(h.mem r.1).mp ⟨r.2,hr⟩
   obtain⟨m1,m2,m3⟩:=h.msk r hr
   rcases b2B' hx with e| ⟨k0,b,k1,k2,k3,e⟩
   ·subst e
    exact⟨g1,fun t ht=>by have:=g2 t ht;omega⟩
   ·injection e with e _
    subst e
    have hab:=(hm b k2).mp k1
    have hb8:=hv (a,b) hab
    simp only at hb8
    refine⟨b0Y'.mpr ⟨hab,g1,fun s hs=>⟨g2 s hs,?_,?_⟩⟩,fun t ht=> ?_⟩
    ·exact fun z=>((m3 a h0 h8).mp k0 s hs).2 z.symm
    ·exact fun z=>((m3 b (by omega) hb8.2.2).mp k3 s hs).2 z.symm
    ·rcases List.mem_append.mp ht with ht|ht
     ·have:=g2 t ht;omega
     ·rw[List.mem_singleton.mp ht];show a<a+1;omega
  ·rintro⟨g1,g2⟩
   rcases List.eq_nil_or_concat c with rfl| ⟨q,t,e⟩
   ·obtain⟨u,hu⟩:=(h.mem []).mpr ⟨g1,fun t ht=>by cases ht⟩
    exact⟨u,List.mem_flatMap.mpr ⟨_,hu,List.mem_cons_self⟩⟩
   ·rw[List.concat_eq_append]at e
    subst e
    obtain⟨c1,c2,c3⟩:=b0Y'.mp g1
    have ht:=g2 t (by simp)
    by_cases e:t.1=a
    ·obtain⟨u,hu⟩:=(h.mem q).mpr ⟨c2,fun s hs=>by have:=(c3 s hs).1;omega⟩
     obtain⟨m1,m2,m3⟩:=h.msk _ hu
     have hb8:=hv t c1
     have e':t=(a,t.2):=by rw[←e]
     refine⟨u+2^a.toNat+2^t.2.toNat,List.mem_flatMap.mpr ⟨_,hu,?_⟩⟩
     unfold upRow
     refine List.mem_cons_of_mem _ ?_
     rw[if_pos ((m3 a h0 h8).mpr fun s hs=>⟨by have:=(c3 s hs).1;omega,fun z=>(c3 s hs).2.1 (by omega)⟩)]
     refine List.mem_map.mpr ⟨t.2,List.mem_filter.mpr ⟨(hm t.2 (by omega)).mpr (e'▸c1),?_⟩,?_⟩
     ·simp only[Bool.and_eq_true,decide_eq_true_eq]
      exact⟨by omega,(m3 t.2 (by omega) hb8.2.2).mpr fun s hs=>⟨by have:=(c3 s hs).1;omega,fun z=>(c3 s hs).2.2 z.symm⟩⟩
     ·show(q++[(a,t.2)],_)=_
      rw[←e']
    ·obtain⟨u,hu⟩:=(h.mem (q++[t])).mpr ⟨g1,fun s hs=>by
      rcases List.mem_append.mp hs with hs|hs
      ·have:=(c3 s hs).1;omega
      ·rw[List.mem_singleton.mp hs];omega⟩
     exact⟨u,List.mem_flatMap.mpr ⟨_,hu,List.mem_cons_self⟩⟩
end Py
end
section
namespace Pc
theorem a7f':∀{l k:List Int},l.Pairwise (· < ·)→k.Pairwise (· < ·)→(∀p,p∈l↔p∈k)→l=k
 | [],[],_,_,_=>rfl
 | [],y::k,_,_,h=>absurd ((h y).mpr List.mem_cons_self) (by simp)
 |x::l,[],_,_,h=>absurd ((h x).mp List.mem_cons_self) (by simp)
 |x::l,y::k,hl,hk,h=>by
  obtain⟨l1,l2⟩:=List.pairwise_cons.mp hl
  obtain⟨k1,k2⟩:=List.pairwise_cons.mp hk
  have e:x=y:=by
   rcases List.mem_cons.mp ((h x).mp List.mem_cons_self)with z|z
   ·exact z
   ·rcases List.mem_cons.mp ((h y).mpr List.mem_cons_self)with w|w
    ·exact w.symm
    ·have:=k1 x z
     have:=l1 y w
     omega
  subst e
  rw[a7f' l2 k2 fun p=>⟨fun hp=> ?_,fun hp=> ?_⟩]
  ·rcases List.mem_cons.mp ((h p).mp (List.mem_cons_of_mem _ hp))with z|z
   ·have:=l1 p hp;omega
   ·exact z
  ·rcases List.mem_cons.mp ((h p).mpr (List.mem_cons_of_mem _ hp))with z|z
   ·have:=k1 p hp;omega
   ·exact z
end Pc
end
section
namespace Pc
open K15
theorem a7g' {lo:Int}{n:Nat}:(a0p' lo n).Pairwise (· < ·):=by
 induction n generalizing lo with
 |zero=>exact .nil
 |succ n ih=>
  unfold a0p'
  exact List.pairwise_cons.mpr ⟨fun x hx=>by have:=a2e' hx;omega,ih⟩
theorem b0Z' {lo x:Int}{n:Nat}:x∈a0p' lo n↔lo≤x∧x<lo+n:=by
 refine⟨a2e',fun h=> ?_⟩
 induction n generalizing lo with
 |zero=>omega
 |succ n ih=>
  unfold a0p'
  by_cases e:x=lo
  ·subst e;exact List.mem_cons_self
  ·exact List.mem_cons_of_mem _ (ih (by omega))
section
variable {m:Nat}{so:List Int}{ts:List (Int×Int)}
end
end Pc
end
section
namespace K15
open PySem PySem.Spec PyProof.Rows L2 Py
def tied (ts:List (Int×Int))(a b:Int):Bool:=decide ((min a b,max a b)∈ts)
def nearI (m:Int)(ts:List (Int×Int))(p:Int):List Int:=(K15.a0p' 0 m.toNat).filter fun q=>tied ts p q
def insN (x:Int):List Int→List Int
 | []=>[x]
 |y::ys=>if x<y then x::y::ys else y::insN x ys
def sortN (l:List Int):List Int:=l.foldl (fun acc x=>insN x acc) []
theorem b1a' (x:Int):∀l:List Int,insB (ltK .int) (.int x) (l.map D.int)=(insN x l).map D.int
 | []=>rfl
 |y::ys=>by
  have e:insN x (y::ys)=if x<y then x::y::ys else y::insN x ys:=rfl
  show(if decide (x<y)=true then D.int x::D.int y::ys.map D.int else D.int y::insB (ltK .int) (.int x) (ys.map D.int))=_
  rw[b1a' x ys,e]
  by_cases h:x<y
  ·rw[decide_eq_true h,if_pos rfl,if_pos h];rfl
  ·rw[decide_eq_false h,if_neg Bool.false_ne_true,if_neg h];rfl
theorem a7h':∀(l acc:List Int),(l.map D.int).foldl (fun acc x=>insB (ltK .int) x acc) (acc.map D.int)=(l.foldl (fun acc x=>insN x acc) acc).map D.int
 | [],acc=>rfl
 |x::l,acc=>by
  show(l.map D.int).foldl (fun acc x=>insB (ltK .int) x acc) (insB (ltK .int) (.int x) (acc.map D.int))=_
  rw[b1a',a7h' l]
  rfl
theorem a3U' (x:Int):∀l,(insN x l).Perm (x::l)
 | []=>.refl _
 |y::ys=>by
  unfold insN
  split
  ·exact .refl _
  ·exact((a3U' x ys).cons y).trans (.swap x y ys)
theorem a5w':∀(l acc:List Int),(l.foldl (fun acc x=>insN x acc) acc).Perm (l++acc)
 | [],acc=>.refl _
 |x::l,acc=>(a5w' l (insN x acc)).trans (((a3U' x acc).append_left l).trans List.perm_middle)
theorem b1b' (l:List Int):(sortN l).Perm l:=by
 have:=a5w' l []
 rw[List.append_nil]at this
 exact this
theorem a5x' (x:Int):∀l,l.Pairwise (· < ·)→x∉l→(insN x l).Pairwise (· < ·)
 | [],_,_=>List.pairwise_singleton _ _
 |y::ys,h,n=>by
  obtain⟨h1,h2⟩:=List.pairwise_cons.mp h
  unfold insN
  by_cases e:x<y
  ·rw[if_pos e]
   refine List.pairwise_cons.mpr ⟨fun z hz=> ?_,h⟩
   rcases List.mem_cons.mp hz with rfl|hz
   ·exact e
   ·have:=h1 z hz;omega
  ·rw[if_neg e]
   refine List.pairwise_cons.mpr ⟨fun z hz=> ?_,a5x' x ys h2 fun z=>n (List.mem_cons_of_mem _ z)⟩
   rcases List.mem_cons.mp ((a3U' x ys).mem_iff.mp hz)with rfl|hz
   ·have:z≠y:=fun q=>n (by subst q;exact List.mem_cons_self)
    omega
   ·exact h1 z hz
theorem a3C':∀(l acc:List Int),acc.Pairwise (· < ·)→(l++acc).Nodup→(l.foldl (fun acc x=>insN x acc) acc).Pairwise (· < ·)
 | [],acc,h,_=>h
 |x::l,acc,h,n=>by
  have n':(x::(l++acc)).Nodup:=n
  obtain⟨n1,n2⟩:=List.nodup_cons.mp n'
  refine a3C' l (insN x acc) (a5x' x acc h fun z=>n1 (List.mem_append_right _ z)) ?_
  exact(((a3U' x acc).append_left l).trans List.perm_middle).nodup_iff.mpr n'
theorem a7K' {l:List Int}(h:l.Nodup):(sortN l).Pairwise (· < ·):=a3C' l [] .nil (by simpa using h)
theorem a7L' {S:Store}{d:D}{l:List Int}(hd:seqOf S d=some (l.map D.int))(hl:l.length<64):a2K' false .int [d] S=.ok (.lst ((sortN l).map D.int)) S:=by
 have e1:(l.map D.int).all (hasTy .int)=true:=by
  rw[List.all_eq_true]
  intro x hx
  obtain⟨t,_,rfl⟩:=List.mem_map.mp hx
  rfl
 unfold a2K'
 simp only[hd]
 rw[if_pos ⟨e1,by simp;omega,rfl⟩,show a4J' (ltK .int) (l.map D.int)=(sortN l).map D.int from a7h' l []]
 rfl
theorem a9s' {S:Store}(hS:Flat S){m:Int}{ts:List (Int×Int)}(hl:ts.length≤28)(p:Int):a0K' [webD m ts,.int p] S=.ok (.lst ((sortN ((ts.filter (K15.hasP p)).map fun t=>t.1+t.2-p)).map D.int)) S:=by
 refine a0E' rfl ?_ rfl hS (K15.a5Z' _)
 have h1:idxD (webD m ts) (.int 1) S=.ok (.tup (tiesD ts)) S:=rfl
 have hL:=List.length_filter_le (K15.hasP p) ts
 simp[a6O',a6N',denSs,denS,denT,den,denL,denI,Res.bind,Res.noErr,onBl,bltD,compI,h1,a0u']
 unfold tiesD
 rw[a0A' (f:=tieD) (p:=K15.hasP p) (e:=fun t=>.int (t.1+t.2-p))]
 ·have h2:=a7L' (S:=S) (d:=.lst ((ts.filter (K15.hasP p)).map fun t=>D.int (t.1+t.2-p))) (l:=(ts.filter (K15.hasP p)).map fun t=>t.1+t.2-p) (by simp[seqOf]) (by simp;omega)
  simp[Res.noErr,h2]
 ·intro t ht acc ha
  have ha':acc.length<16777216:=ha
  have hin:inD (.int p) (.tup [.int t.1,.int t.2]) S=some (decide (p=t.1∨p=t.2)):=K15.b4K' S p t
  have ha1:a0m' (.tup [.var 0,.var 1]) (tieD t) [none,none,some (.int p)]=some [some (.int t.1),some (.int t.2),some (.int p)]:=rfl
  by_cases h:p=t.1∨p=t.2
  ·simp[ha1,denTs,denT,denB,den,denL,Res.bind,cmpD,hin,boolR,Res.noErr,onBl,opD,addD,subD,K15.hasP,h,ha']
  ·simp[ha1,denTs,denT,denB,den,denL,Res.bind,cmpD,hin,boolR,Res.noErr,onBl,opD,addD,subD,K15.hasP,h]
 ·unfold big;omega
theorem b2C' {m:Int}{ts:List (Int×Int)}(W:Web m ts){p:Int}(hp:0≤p∧p<m):nearI m ts p=sortN ((ts.filter (K15.hasP p)).map fun t=>t.1+t.2-p):=by
 have hnd:ts.Nodup:=W.ris.imp fun{a b} h e=>by subst e;unfold lexlt at h;omega
 refine Pc.a7f' (Pc.a7g'.sublist List.filter_sublist) (a7K' ?_) fun q=> ?_
 ·have h1:(ts.filter (K15.hasP p)).Nodup:=hnd.sublist List.filter_sublist
  have h2:(ts.filter (K15.hasP p)).Pairwise fun a b=>a.1+a.2-p≠b.1+b.2-p:=by
   refine List.Pairwise.imp_of_mem (fun{a b} ha hb hne e=>hne ?_) h1
   have a1:=(List.mem_filter.mp ha).2
   have b1:=(List.mem_filter.mp hb).2
   have a2:=W.tie a (List.mem_filter.mp ha).1
   have b2:=W.tie b (List.mem_filter.mp hb).1
   simp only[K15.hasP,decide_eq_true_eq]at a1 b1
   exact Prod.ext (by omega) (by omega)
  exact List.pairwise_map.mpr h2
 ·rw[(b1b' _).mem_iff,List.mem_map]
  unfold nearI
  rw[List.mem_filter,Pc.b0Z']
  have w1:=W.lo
  refine⟨fun⟨hr,ht⟩=> ?_,fun⟨t,ht,e⟩=> ?_⟩
  ·have ht':(min p q,max p q)∈ts:=by simpa[tied]using ht
   refine⟨(min p q,max p q),List.mem_filter.mpr ⟨ht',?_⟩,?_⟩
   ·simp only[K15.hasP,decide_eq_true_eq];omega
   ·dsimp only;omega
  ·obtain⟨h1,h2⟩:=List.mem_filter.mp ht
   have h3:=W.tie t h1
   simp only[K15.hasP,decide_eq_true_eq]at h2
   refine⟨by omega,?_⟩
   have:(min p q,max p q)=t:=Prod.ext (by dsimp only;omega) (by dsimp only;omega)
   simp[tied,this,h1]
end K15
end
section
namespace K15
open PySem PySem.Spec PyProof.Rows L2 Py
open Pc
theorem boxE {S:Store}{A:List D}:(S++[A])[S.length]? =some A:=by rw[List.getElem?_append_right (Nat.le_refl _)];simp
theorem setE {S:Store}{A B:List D}:(S++[A]).set S.length B=S++[B]:=by rw[List.set_append_right _ _ (Nat.le_refl _)];simp
theorem run_box {Φ:FT}{Γ:Str→Option D}{body:List CS}{n np:Nat}{ds:List D}{S:Store}{A:List D}(hl:ds.length=np)(h:denSs Φ Γ body (ds.map some++List.replicate (n-np) none) S=.ok (.ret (.ref S.length)) (S++[A]))(hS:Flat S)(hA:lowL 0 A=true):runD Φ Γ body n np ds S=.ok (.ref S.length) (S++[A]):=by
 unfold runD
 rw[if_pos hl,h]
 show trim S.length (.ref S.length) _=_
 unfold trim
 rw[List.take_left' rfl,if_pos hS.all,if_neg (by unfold lowD;simp)]
 simp only[boxE]
 rw[if_pos ⟨K15.a1I' A hA,Nat.le_refl _⟩]
theorem b1c' {step:D→Rho→Store→Res Fl}(J:Rho→Store→Prop):∀(xs:List D),(∀x∈xs,∀ρ S,J ρ S→∃ρ' S',J ρ' S'∧step x ρ S=.ok (.next ρ') S')→∀ρ S,J ρ S→∃ρ' S',J ρ' S'∧forD step xs ρ S=.ok (.next ρ') S'
 | [],_,ρ,S,j=>⟨ρ,S,j,rfl⟩
 |x::xs,h,ρ,S,j=>by
  obtain⟨ρ1,S1,j1,e1⟩:=h x List.mem_cons_self ρ S j
  obtain⟨ρ2,S2,j2,e2⟩:=b1c' J xs (fun y hy=>h y (List.mem_cons_of_mem _ hy)) ρ1 S1 j1
  refine⟨ρ2,S2,j2,?_⟩
  unfold forD
  rw[e1]
  exact e2
theorem a7M' {T:Store}{A:List D}{d:D}(hA:A.length<big):a2w' (.ref T.length) [d] (T++[A])=.ok .non (T++[A++[d]]):=by
 unfold a2w'
 simp only[boxE]
 rw[if_pos hA,setE]
end K15
end
section
namespace K15
open PySem PySem.Spec PyProof.Rows L2 Py
def pD (p:List Ti):D:=.tup (tiesD p)
theorem a8E' (x:Int):∀p:List Ti,(mateI p x).isNone=freeP p x
 | []=>rfl
 |t::p=>by
  have ih:=a8E' x p
  unfold mateI freeP
  rw[List.all_cons]
  unfold freeP at ih
  by_cases h1:x=t.1
  ·simp[h1]
  ·by_cases h2:x=t.2
   ·rw[if_neg h1,if_pos h2]
    simp[h2]
   ·rw[if_neg h1,if_neg h2,ih]
    simp[h1,h2]
def apIn:CE:=.comp false ["tie","pairing","found"] [none,none,some 1] (.var 0) (.seq (.var 3)) [] (.inner (.var 1) (.seq (.var 2)) [.cmp .Is (.call "mate_of" [.var 1,.idx (.var 0) (.lit (.int 1))]) (.lit (.non))] (.emit (.bin .Add (.tup [.var 0]) (.var 1))))
def apTs:CE:=.comp false ["tie","place"] [none,some 2] (.var 0) (.seq (.idx (.var 0) (.lit (.int 1)))) [.cmp .Eq (.idx (.var 0) (.lit (.int 0))) (.var 1)] (.emit (.var 0))
def b4R':List CS:=[.asg 3 apTs,.asg 1 (.bin .Add (.var 1) apIn)]
theorem ap_ts {S:Store}{m a:Int}{ts:List Ti}{x1 x3:Option D}(hl:ts.length≤28):den a0f' G0 apTs [some (webD m ts),x1,some (.int a),x3] S=.ok (.lst (tiesD (ts.filter fun t=>decide (t.1=a)))) S:=by
 have h1:idxD (webD m ts) (.int 1) S=.ok (.tup (tiesD ts)) S:=rfl
 simp[apTs,den,denI,denL,Res.bind,Res.noErr,a0u',compI,h1]
 unfold tiesD
 rw[a0A' (f:=tieD) (p:=fun t=>decide (t.1=a)) (e:=tieD)]
 ·intro t ht acc ha
  have ha':acc.length<16777216:=ha
  have h2:idxD (tieD t) (.int 0) S=.ok (.int t.1) S:=rfl
  have h3:cmpD .Eq (.int t.1) (.int a) S=.ok (.bl (decide (t.1=a))) S:=rfl
  have ha1:a0m' (.var 0) (tieD t) [none,some (.int a)]=some [some (tieD t),some (.int a)]:=rfl
  cases e:decide (t.1=a)<;>rw[e]at h3<;>simp[ha1,denTs,denT,denB,den,denL,Res.bind,h2,h3,Res.noErr,onBl,ha']
 ·unfold big;omega
theorem a3c':∀F:List (List Ti),lowL 0 (F.map pD)=true
 | []=>rfl
 |p::F=>by
  rw[List.map_cons]
  unfold lowL
  rw[a3c' F,Bool.and_true]
  exact K15.a1d' p
theorem ap_in {S:Store}(hS:Flat S){m a:Int}{ts:List Ti}{F:List (List Ti)}{T:List Ti}(hT:T.length≤28)(hF:F.length≤65536)(hB:∀p∈F,p.length≤1000):den a0f' G0 apIn [some (webD m ts),some (.lst (F.map pD)),some (.int a),some (.lst (tiesD T))] S=.ok (.lst ((T.flatMap fun t=>(F.filter fun p=>freeP p t.2).map (t:: ·)).map pD)) S:=by
 simp[apIn,den,denI,denL,denTs,Res.bind,Res.noErr,a0u',compI]
 unfold tiesD
 rw[a4A' (f:=tieD) (c:=F.length) (g:=fun t=>(F.filter fun p=>freeP p t.2).map fun p=>pD (t::p))]
 ·simp[List.map_flatMap,Function.comp_def]
 ·intro t
  simp only[List.length_map]
  exact List.length_filter_le _ _
 ·intro t ht acc ha
  have ha1:a0m' (.var 0) (tieD t) [none,none,some (.lst (F.map pD))]=some [some (tieD t),none,some (.lst (F.map pD))]:=rfl
  simp[ha1,denB,denI,den,Res.bind,a0u',compI]
  rw[a2c' (f:=pD) (p:=fun p=>freeP p t.2) (e:=fun p=>pD (t::p))]
  ·intro p hp acc ha
   have ha':acc.length<16777216:=ha
   have ha2:a0m' (.var 1) (pD p) [some (tieD t),none,some (.lst (F.map pD))]=some [some (tieD t),some (pD p),some (.lst (F.map pD))]:=rfl
   have h2:idxD (tieD t) (.int 1) S=.ok (.int t.2) S:=rfl
   have h3:a1D' [pD p,.int t.2] S=.ok (optD (mateI p t.2)) S:=K15.a6X' hS p t.2
   have h4:cmpD .Is (optD (mateI p t.2)) .non S=.ok (.bl (freeP p t.2)) S:=by
    rw[←a8E']
    cases mateI p t.2<;>rfl
   have h5:opD .Add (.tup [tieD t]) (pD p) S=.ok (pD (t::p)) S:=by
    have hb:=hB p hp
    have:(tiesD p).length=p.length:=by unfold tiesD;simp
    have e1:opD .Add (.tup [tieD t]) (.tup (tiesD p)) S=if [tieD t].length+(tiesD p).length≤big then .ok (.tup ([tieD t]++tiesD p)) S else .fail:=by simp only[opD,addD]
    unfold pD
    rw[e1,if_pos (by rw[this];unfold big;simp;omega)]
    rfl
   cases e:freeP p t.2<;>rw[e]at h4<;>simp[ha2,denTs,denT,denB,den,denL,Res.bind,h2,h3,h4,h5,a1M',Res.noErr,onBl,ha']
  ·exact ha
 ·have:F.length*T.length≤65536*28:=Nat.mul_le_mul hF hT
  unfold big
  simp
  omega
theorem b1d' {hi:Int}:∀(l:List Int) (lo:Int),l.Pairwise (· < ·)→(∀x∈l,lo≤x∧x<hi)→l.length≤(hi-lo).toNat
 | [],_,_,_=>Nat.zero_le _
 |x::l,lo,hp,h=>by
  rw[List.pairwise_cons]at hp
  have h1:=h x List.mem_cons_self
  have:=b1d' l (x+1) hp.2 fun y hy=>⟨by have:=hp.1 y hy;omega,(h y (List.mem_cons_of_mem _ hy)).2⟩
  rw[List.length_cons]
  omega
theorem at_len {m:Int}{ts:List Ti}(W:Web m ts)(a:Int)(ha:a<8):(ts.filter fun t=>decide (t.1=a)).length≤(7-a).toNat:=by
 have w:=W.hi
 have:=b1d' (hi:=8) ((ts.filter fun t=>decide (t.1=a)).map (·.2)) (a+1) (by
  rw[List.pairwise_map]
  refine List.Pairwise.imp_of_mem (fun{s t} hs ht h=> ?_) (List.Pairwise.filter _ W.ris)
  have e1:s.1=a:=by simpa using(List.mem_filter.mp hs).2
  have e2:t.1=a:=by simpa using(List.mem_filter.mp ht).2
  rcases h with h|h
  ·omega
  ·exact h.2) fun x hx=>by
  obtain⟨t,ht,rfl⟩:=List.mem_map.mp hx
  obtain⟨ht,e⟩:=List.mem_filter.mp ht
  have e:t.1=a:=by simpa using e
  have:=W.tie t ht
  omega
 rw[List.length_map]at this
 omega
theorem b1e' {α β:Type}{f:α→List β}{c:Nat}(h:∀x,(f x).length≤c):∀l:List α,(l.flatMap f).length≤l.length*c
 | []=>by simp
 |x::l=>by
  have:=b1e' h l
  have:=h x
  rw[List.flatMap_cons,List.length_append,List.length_cons,Nat.add_mul]
  omega
theorem a7N' {m:Int}{ts:List Ti}(W:Web m ts)(a:Int)(ha:a<8)(F:List (List Ti)):(a1o' ts a F).length≤F.length*((7-a).toNat+1):=by
 unfold a1o'
 rw[List.length_append]
 have h1:=b1e' (f:=fun t:Ti=>(F.filter fun p=>freeP p t.2).map (t:: ·)) (c:=F.length) (fun t=>by rw[List.length_map];exact List.length_filter_le _ _) (ts.filter fun t=>decide (t.1=a))
 have h2:=Nat.mul_le_mul_right F.length (at_len W a ha)
 rw[Nat.mul_add,Nat.mul_one,Nat.mul_comm F.length]
 omega
def fact:Nat→Nat
 |0=>1
 |n+1=>fact n*(n+1)
theorem b3s' {n:Nat}(h:n≤8):fact n≤40320:=by
 have:∀n<9,fact n≤40320:=by decide+kernel
 exact this n (by omega)
theorem a8F' {m:Int}{ts:List Ti}(W:Web m ts):ts.Nodup:=W.ris.imp fun h z=>by
 subst z
 rcases h with h|h<;>omega
theorem b3t' {m:Int}{ts p:List Ti}(W:Web m ts)(c:Chn ts p):p.length≤8:=by
 have w:=W.hi
 have:=b1d' (hi:=8) (p.map (·.1)) 0 (by rw[List.pairwise_map];exact c.2.imp fun h=>h.1) fun x hx=>by
  obtain⟨t,ht,rfl⟩:=List.mem_map.mp hx
  have:=W.tie t (c.1 t ht)
  omega
 rw[List.length_map]at this
 omega
theorem ap_turn {S:Store}(hS:Flat S){m:Int}{ts:List Ti}(W:Web m ts){n:Nat}(hn:n<8){F:List (List Ti)}(hF:F.length≤40320)(hB:∀p∈F,p.length≤1000){x3:Option D}:
  denSs a0f' G0 b4R' [some (webD m ts),some (.lst (F.map pD)),some (.int (n:Nat)),x3] S=.ok (.next [some (webD m ts),some (.lst ((a1o' ts n F).map pD)),some (.int (n:Nat)),some (.lst (tiesD (ts.filter fun t=>decide (t.1=(n:Int)))))]) S:=by
 have hl:=W.few
 have hT:(ts.filter fun t=>decide (t.1=(n:Int))).length≤28:=Nat.le_trans (List.length_filter_le _ _) hl
 have h1:=ap_in hS (m:=m) (a:=n) (ts:=ts) (F:=F) (T:=ts.filter fun t=>decide (t.1=(n:Int))) hT (by omega) hB
 have hlen:=a7N' W n (by omega) F
 have h8:F.length*((7-(n:Int)).toNat+1)≤40320*8:=Nat.mul_le_mul hF (by omega)
 unfold b4R'
 rw[a0X' (ap_ts hl)]
 simp only[List.set_cons_succ,List.set_cons_zero]
 have h2:den a0f' G0 (.bin .Add (.var 1) apIn) [some (webD m ts),some (.lst (F.map pD)),some (.int (n:Nat)),some (.lst (tiesD (ts.filter fun t=>decide (t.1=(n:Int)))))] S=.ok (.lst ((a1o' ts n F).map pD)) S:=by
  simp only[den,List.getElem?_cons_succ,List.getElem?_cons_zero,Res.bind,h1]
  have e:∀A B:List D,A.length+B.length≤big→(opD .Add (.lst A) (.lst B) S).noErr=.ok (.lst (A++B)) S:=fun A B h=>by simp[opD,addD,Py.a3X',h,Res.noErr]
  rw[e _ _ (by unfold a1o' at hlen;rw[List.length_append]at hlen;rw[List.length_map,List.length_map];unfold big;omega),←List.map_append]
  rfl
 rw[a0X' h2]
 simp only[List.set_cons_succ,List.set_cons_zero]
 rw[denSs]
theorem b3u' {S:Store}(hS:Flat S){m:Int}{ts:List Ti}(W:Web m ts):∀(n:Nat) (F:List (List Ti)) (x2 x3:Option D),n≤8→DI ts n F→F.length≤fact (8-n)→∃y2 y3,
  forD (fun x ρ S=>match asgCT (.var 2) x ρ with
   |some ρ'=>denSs a0f' G0 b4R' ρ' S
   |none=>.fail) (downL n) [some (webD m ts),some (.lst (F.map pD)),x2,x3] S=.ok (.next [some (webD m ts),some (.lst ((a5v' ts n F).map pD)),y2,y3]) S
 |0,F,x2,x3,_,_,_=>⟨x2,x3,rfl⟩
 |n+1,F,x2,x3,hn,hd,hF=>by
  have h8:F.length≤40320:=Nat.le_trans hF (b3s' (by omega))
  obtain⟨y2,y3,ih⟩:=b3u' hS W n (a1o' ts n F) (some (.int (n:Nat))) (some (.lst (tiesD (ts.filter fun t=>decide (t.1=(n:Int)))))) (by omega) (b3r' (a8F' W) hd) (by
   refine Nat.le_trans (a7N' W n (by omega) F) ?_
   have e:8-n=(8-(n+1))+1:=by omega
   have e2:(7-(n:Int)).toNat=8-(n+1):=by omega
   rw[e,fact,e2]
   exact Nat.mul_le_mul_right _ hF)
  refine⟨y2,y3,?_⟩
  unfold downL forD
  simp only[asgCT,List.set_cons_succ,List.set_cons_zero]
  rw[ap_turn hS W (by omega) h8 fun p hp=>by have:=b3t' W ((hd.2 p).mp hp).1;omega]
  exact ih
def sortP (F:List (List Ti)):List D:=a4J' (ltK (.seq (.seq .int))) (F.map pD)
theorem ty_pD (p:List Ti):hasTy (.seq (.seq .int)) (pD p)=true:=by
 show(tiesD p).all _=true
 rw[List.all_eq_true]
 intro x hx
 obtain⟨t,_,rfl⟩:=List.mem_map.mp hx
 rfl
theorem a0V':∀{l:List D},lowL 0 l=true↔∀x∈l,lowD 0 x=true
 | []=>by simp[lowL]
 |x::l=>by
  unfold lowL
  rw[Bool.and_eq_true,a0V' (l:=l)]
  simp
theorem a8G' (F:List (List Ti)):lowL 0 (sortP F)=true:=a0V'.mpr fun x hx=>a0V'.mp (a3c' F) x ((a1r' _ _).mem_iff.mp hx)
theorem a4F' {ts:List Ti}:∀(n:Nat) (F:List (List Ti)),F.head? =some []→(a5v' ts n F).head? =some []
 |0,F,h=>h
 |n+1,F,h=>a4F' n _ (by
  unfold a1o'
  cases F with
  |nil=>cases h
  |cons a F=>exact h)
theorem a5y' {m:Int}{ts:List Ti}(W:Web m ts):∀(n:Nat) (F:List (List Ti)),n≤8→F.length≤fact (8-n)→(a5v' ts n F).length≤40320
 |0,F,_,hF=>Nat.le_trans hF (b3s' (by omega))
 |n+1,F,hn,hF=>a5y' W n _ (by omega) (by
   refine Nat.le_trans (a7N' W n (by omega) F) ?_
   have e:8-n=(8-(n+1))+1:=by omega
   have e2:(7-(n:Int)).toNat=8-(n+1):=by omega
   rw[e,fact,e2]
   exact Nat.mul_le_mul_right _ hF)
def allP (m:Int)(ts:List Ti):List (List Ti):=a5v' ts m.toNat [[]]
theorem a7O' {m:Int}{ts:List Ti}(W:Web m ts):(allP m ts).length≤40320:=by
 have:=W.hi
 exact a5y' W m.toNat _ (by omega) (by
  have:∀n<9,1≤fact n:=by decide+kernel
  exact this (8-m.toNat) (by omega))
theorem a7i' {m:Int}{ts:List Ti}(W:Web m ts):DI ts 0 (allP m ts):=a7d' (a8F' W) _ _ (a7e' fun t ht=>by have:=W.tie t ht;have:=W.lo;omega)
theorem b1f' {S:Store}{F:List (List Ti)}(hl:F.length<65536)(h0:F.head? =some []∨∀p∈F,p≠[])(box:Bool){d:D}(hd:seqOf S d=some (F.map pD)):a2K' box (.seq (.seq .int)) [d] S=if box=true then .ok (.ref S.length) (S++[sortP F])else .ok (.lst (sortP F)) S:=by
 have e1:(F.map pD).all (hasTy (.seq (.seq .int)))=true:=by
  rw[List.all_eq_true]
  intro x hx
  obtain⟨p,_,rfl⟩:=List.mem_map.mp hx
  exact ty_pD p
 have e2:a4a' (.seq (.seq .int)) (F.map pD)=true:=by
  show(true&&(((F.map pD).all fun d=> !isNil d)||isNil ((F.map pD).headD .non)))=true
  rcases h0 with h0|h0
  ·cases F with
   |nil=>cases h0
   |cons a F=>cases h0;simp[pD,tiesD,isNil]
  ·have:((F.map pD).all fun d=> !isNil d)=true:=by
    rw[List.all_eq_true]
    intro x hx
    obtain⟨p,hp,rfl⟩:=List.mem_map.mp hx
    cases p with
    |nil=>exact absurd rfl (h0 _ hp)
    |cons _ _=>rfl
   rw[this];rfl
 unfold a2K'
 simp only[hd]
 rw[if_pos ⟨e1,by rw[List.length_map];exact hl,e2⟩]
 rfl
theorem a4W' {S:Store}(hS:Flat S){m:Int}{ts:List Ti}(W:Web m ts):a0C' [webD m ts] S=.ok (.ref S.length) (S++[sortP (allP m ts)]):=by
 refine run_box rfl ?_ hS (a8G' _)
 have w1:=W.lo
 have w2:=W.hi
 have hm:a0v' [webD m ts] S=.ok .non S:=K15.a2b' hS W
 obtain⟨y2,y3,hf⟩:=b3u' hS W m.toNat [[]] none none (by omega) (a7e' fun t ht=>by have:=W.tie t ht;omega) (by
  have:∀n<9,1≤fact n:=by decide+kernel
  exact this (8-m.toNat) (by omega))
 show denSs a0f' G0 a1F' [some (webD m ts),none,none,none] S=_
 unfold a1F'
 rw[a0j' (ρ':=[some (webD m ts),none,none,none]) (S':=S) (by simp[denS,den,denL,Res.bind,a1f',hm])]
 rw[a0X' (d:=.lst [pD []]) (S':=S) (by simp[den,denL,Res.bind,pD,tiesD])]
 simp only[List.set_cons_succ,List.set_cons_zero]
 have hi:idxD (webD m ts) (.int 0) S=.ok (.int m) S:=rfl
 rw[a0j' (ρ':=[some (webD m ts),some (.lst ((allP m ts).map pD)),y2,y3]) (S':=S) (by
  rw[a6b' (its:=.items (downL m.toNat)) (S1:=S) (by
   have hr:(-4611686018427387904:Int)≤m∧m<4611686018427387904:=by omega
   simp[denI,denL,den,Res.bind,hi,Res.noErr,hr])]
  exact hf)]
 refine a3b' ?_
 have hs:=b1f' (S:=S) (F:=allP m ts) (by have:=a7O' W;omega) (.inl (a4F' _ _ rfl)) true (d:=.lst ((allP m ts).map pD)) rfl
 rw[if_pos rfl]at hs
 simp only[denS,den,denL,List.getElem?_cons_succ,List.getElem?_cons_zero,Res.bind,bltD,hs,Res.noErr]
theorem a5z' {m:Int}{ts p:List (Int×Int)}(W:Web m ts)(h:Chn ts p):Pairing ts p:=by
 obtain⟨h1,h2⟩:=h
 refine⟨h2.imp fun{a b} q=>.inl q.1,h1,?_⟩
 have h1':∀t∈p,t.1<t.2:=fun t ht=>(W.tie t (h1 t ht)).2.1
 clear h1
 induction p with
 |nil=>exact .nil
 |cons t p ih=>
  rw[List.pairwise_cons]at h2
  rw[List.flatMap_cons]
  have ht:=h1' t (by simp)
  refine List.nodup_append.mpr ⟨by simp;omega,ih h2.2 fun s hs=>h1' s (by simp[hs]),?_⟩
  intro a ha b hb
  simp only[List.mem_cons,List.not_mem_nil,or_false]at ha
  obtain⟨s,hs,hb⟩:=List.mem_flatMap.mp hb
  simp only[List.mem_cons,List.not_mem_nil,or_false]at hb
  have:=h2.1 s hs
  have:=h1' s (by simp[hs])
  rcases ha with rfl|rfl<;>rcases hb with rfl|rfl<;>omega
theorem b2D' {ps:List (Int×Int)}{i:Int}:(mateI ps i).isNone= !decide (i∈a0S' ps):=by
 induction ps with
 |nil=>rfl
 |cons t ps ih=>
  unfold mateI
  have hp:a0S' (t::ps)=t.1::t.2::a0S' ps:=rfl
  rw[hp]
  by_cases h1:i=t.1
  ·simp[h1]
  ·by_cases h2:i=t.2
   ·simp[h1,h2]
    try split<;>rfl
   ·simp[h1,h2,ih]
theorem b1g' {lo x:Int}{n:Nat}(h1:lo≤x)(h2:x<lo+n):x∈a0p' lo n:=by
 induction n generalizing lo with
 |zero=>omega
 |succ n ih=>
  unfold a0p'
  by_cases h:x=lo
  ·simp[h]
  ·exact List.mem_cons_of_mem _ (ih (by omega) (by omega))
theorem a7j' {p:Int→Bool}:∀l:List Int,(l.filter fun i=> !p i).length+(l.filter p).length=l.length
 | []=>rfl
 |a::l=>by
  have:=a7j' (p:=p) l
  cases h:p a<;>simp[h]<;>omega
theorem a8H' {m:Int}{ts ps:List (Int×Int)}(W:Web m ts)(P:Pairing ts ps):((a6c' m ps).length:Int)=m-2*ps.length:=by
 have e:a6c' m ps=(a0p' 0 m.toNat).filter fun i=> !decide (i∈a0S' ps):=by
  unfold a6c'
  congr 1
  funext i
  exact b2D'
 have h2:=a7j' (p:=fun i=>decide (i∈a0S' ps)) (a0p' 0 m.toNat)
 rw[a0R',←e]at h2
 have h3:((a0p' 0 m.toNat).filter fun i=>decide (i∈a0S' ps)).Perm (a0S' ps):=by
  refine(List.perm_ext_iff_of_nodup (List.Nodup.sublist List.filter_sublist a2E') P.un).mpr fun i=> ?_
  rw[List.mem_filter]
  constructor
  ·rintro⟨_,h⟩
   exact of_decide_eq_true h
  ·intro h
   refine⟨?_,decide_eq_true (show i∈a0S' ps from h)⟩
   obtain⟨o,ho,q⟩:=a7b' (fs:=ps) h
   have:=W.tie o (P.sub o ho)
   exact b1g' (by omega) (by omega)
 have h4:=h3.length_eq
 have h5:(a0S' ps).length=2*ps.length:=a3B' ps
 have:=W.lo
 omega
theorem pair_le {m:Int}{ts ps:List (Int×Int)}(W:Web m ts)(P:Pairing ts ps):2*(ps.length:Int)≤m:=by
 have:=a8H' W P
 omega
theorem b2E' {m:Int}{ts ps:List (Int×Int)}(W:Web m ts)(P:Pairing ts ps):((a6c' m ps).map D.int).isEmpty=decide (2*(ps.length:Int)=m):=by
 have:=a8H' W P
 cases h:a6c' m ps with
 |nil=>
  rw[h]at this
  simp at this⊢
  omega
 |cons a l=>
  rw[h]at this
  simp at this⊢
  omega
end K15
end
section
namespace Py
theorem bit_sub:∀u<256,∀a<8,(u/2^a)%2=1→2^a≤u∧∀x<8,(u-2^a)/2^x%2=if x=a then 0 else u/2^x%2:=by decide+kernel
theorem a4G' {u a:Int}(h1:0≤u)(h2:u<256)(h3:0≤a)(h4:a<8)(h:bitI u a=1):0≤u-2^a.toNat∧u-2^a.toNat<u∧∀x,0≤x→x<8→bitI (u-2^a.toNat) x=if x=a then 0 else bitI u x:=by
 obtain⟨u,rfl⟩:=Int.eq_ofNat_of_zero_le h1
 obtain⟨a,rfl⟩:=Int.eq_ofNat_of_zero_le h3
 rw[a2h']at h
 obtain⟨k1,k2⟩:=bit_sub u (by omega) a (by omega) (by omega)
 rw[Int.toNat_natCast]
 have p:0<2^a:=Nat.pow_pos (by decide)
 have e:((u:Int)-2^a)=((u-2^a:Nat):Int):=by
  rw[Int.ofNat_sub k1];norm_cast
 rw[e]
 refine⟨by omega,by omega,fun x h5 h6=> ?_⟩
 obtain⟨x,rfl⟩:=Int.eq_ofNat_of_zero_le h5
 rw[a2h',a2h',k2 x (by omega)]
 by_cases hx:x=a
 ·rw[if_pos hx,if_pos (by omega)];rfl
 ·rw[if_neg hx,if_neg (by omega)]
theorem bitI_01 (u x:Int):bitI u x=0∨bitI u x=1:=by
 unfold bitI
 generalize u/2^x.toNat=q
 omega
theorem b4S':∀m<9,∀u<2^m,1≤u→∃x,x<m∧u/2^x%2=1:=by decide+kernel
theorem b2F' {u m:Int}(h0:0≤m)(h8:m≤8)(h1:1≤u)(h2:u<2^m.toNat):∃x,0≤x∧x<m∧bitI u x=1:=by
 obtain⟨u,rfl⟩:=Int.eq_ofNat_of_zero_le (show 0≤u by omega)
 obtain⟨m,rfl⟩:=Int.eq_ofNat_of_zero_le h0
 rw[Int.toNat_natCast]at h2
 obtain⟨x,k1,k2⟩:=b4S' m (by omega) u (by exact_mod_cast h2) (by omega)
 exact⟨x,by omega,by omega,by rw[a2h',k2];rfl⟩
theorem bit_all:∀m<9,1≤m→∀x<m,(2^m-1)/2^x%2=1:=by decide+kernel
theorem b1h' {m x:Int}(h0:1≤m)(h8:m≤8)(h1:0≤x)(h2:x<m):bitI (2^m.toNat-1) x=1:=by
 obtain⟨x,rfl⟩:=Int.eq_ofNat_of_zero_le h1
 obtain⟨m,rfl⟩:=Int.eq_ofNat_of_zero_le (show 0≤m by omega)
 rw[Int.toNat_natCast]
 have p:0<2^m:=Nat.pow_pos (by decide)
 have e:((2:Int)^m-1)=((2^m-1:Nat):Int):=by
  rw[Int.ofNat_sub p];norm_cast
 rw[e,a2h',bit_all m (by omega) (by omega) x (by omega)]
 rfl
def Fit (ts:List Ti)(u:Int)(p:List Ti):Prop:=Chn ts p∧∀s∈p,bitI u s.1=1∧bitI u s.2=1
def Best (ts:List Ti)(u:Int)(k:Nat):Prop:=(∃p,Fit ts u p∧p.length=k)∧∀p,Fit ts u p→p.length≤k
theorem b2G' {ts:List Ti}:Best ts 0 0:=by
 have z:∀x,bitI 0 x=0:=fun x=>by unfold bitI;simp
 refine⟨⟨[],⟨⟨fun t ht=>by(cases ht),.nil⟩,fun t ht=>by cases ht⟩,rfl⟩,fun p hp=> ?_⟩
 cases p with
 |nil=>exact Nat.le_refl _
 |cons s p=>
  have:=(hp.2 s List.mem_cons_self).1
  rw[z]at this
  omega
def Reach (ts:List Ti)(a r:Int)(done:List Int)(k:Nat):Prop:=
 ((∃p,Fit ts r p∧p.length=k)∨∃b∈done,bitI r b=1∧∃p,Fit ts (r-2^b.toNat) p∧p.length+1=k)∧(∀p,Fit ts r p→p.length≤k)∧∀b∈done,bitI r b=1→∀p,Fit ts (r-2^b.toNat) p→p.length+1≤k
theorem a9t' {ts:List Ti}{a r:Int}{k:Nat}(h:Best ts r k):Reach ts a r [] k:=⟨.inl h.1,h.2,fun b hb=>by cases hb⟩
theorem b4T' {ts:List Ti}{a r b:Int}{done:List Int}{k:Nat}(h:Reach ts a r done k)(hb:¬bitI r b=1):Reach ts a r (done++[b]) k:=by
 obtain⟨h1,h2,h3⟩:=h
 refine⟨?_,h2,fun c hc h4=> ?_⟩
 ·rcases h1 with h1| ⟨c,hc,h1⟩
  ·exact .inl h1
  ·exact .inr ⟨c,List.mem_append.mpr (.inl hc),h1⟩
 ·rcases List.mem_append.mp hc with hc|hc
  ·exact h3 c hc h4
  ·rw[List.mem_singleton.mp hc]at h4;exact absurd h4 hb
theorem b2H' {ts:List Ti}{a r b:Int}{done:List Int}{k l:Nat}(h:Reach ts a r done k)(hb:bitI r b=1)(hl:Best ts (r-2^b.toNat) l):Reach ts a r (done++[b]) (max k (1+l)):=by
 obtain⟨h1,h2,h3⟩:=h
 obtain⟨⟨q,hq,ql⟩,l2⟩:=hl
 refine⟨?_,fun p hp=>by have:=h2 p hp;omega,fun c hc h4 p hp=> ?_⟩
 ·by_cases hk:1+l≤k
  ·rw[Nat.max_eq_left hk]
   rcases h1 with h1| ⟨c,hc,h1⟩
   ·exact .inl h1
   ·exact .inr ⟨c,List.mem_append.mpr (.inl hc),h1⟩
  ·exact .inr ⟨b,List.mem_append.mpr (.inr (by simp)),hb,q,hq,by omega⟩
 ·rcases List.mem_append.mp hc with hc|hc
  ·have:=h3 c hc h4 p hp;omega
  ·rw[List.mem_singleton.mp hc]at hp
   have:=l2 p hp;omega
theorem b1i' {ts:List Ti}{a u:Int}{nr:List Int}{k:Nat}(u0:0≤u)(u8:u<256)(a0:0≤a)(a8:a<8)(hv:∀t∈ts,0≤t.1∧t.1<t.2∧t.2<8)(ha:bitI u a=1)(hlow:∀x,0≤x→x<a→bitI u x=0)
  (hm:∀b,a<b→(b∈nr↔(a,b)∈ts)) (hn:∀b∈nr,0≤b∧b<8) (h:Reach ts a (u-2^a.toNat) nr k):Best ts u k:=by
 obtain⟨r0,r1,rb⟩:=a4G' u0 u8 a0 a8 ha
 generalize u-2^a.toNat=r at*
 obtain⟨h1,h2,h3⟩:=h
 have up:∀x,0≤x→x<8→bitI r x=1→bitI u x=1∧a<x:=fun x x0 x8 hx=>by
  rw[rb x x0 x8]at hx
  split at hx
  ·omega
  ·rename_i hne
   refine⟨hx,?_⟩
   by_cases z:x<a
   ·have:=hlow x x0 z;omega
   ·omega
 refine⟨?_,fun p hp=> ?_⟩
 ·rcases h1 with⟨p,hp,e⟩| ⟨b,hb,b1,p,hp,e⟩
  ·refine⟨p,⟨hp.1,fun s hs=> ?_⟩,e⟩
   have v:=hv s (hp.1.1 s hs)
   have f:=hp.2 s hs
   exact⟨(up s.1 (by omega) (by omega) f.1).1,(up s.2 (by omega) (by omega) f.2).1⟩
  ·obtain⟨b0,b8⟩:=hn b hb
   obtain⟨g0,g1,gb⟩:=a4G' r0 (by omega) b0 b8 b1
   obtain⟨bu,ab⟩:=up b b0 b8 b1
   have sx:∀x,0≤x→x<8→bitI (r-2^b.toNat) x=1→bitI u x=1∧a<x∧x≠b:=fun x x0 x8 hx=>by
    rw[gb x x0 x8]at hx
    split at hx
    ·omega
    ·rename_i hne
     have:=up x x0 x8 hx
     exact⟨this.1,this.2,hne⟩
   refine⟨(a,b)::p,⟨a6h'.mpr ⟨(hm b ab).mp hb,hp.1,fun s hs=> ?_⟩,fun s hs=> ?_⟩,by simpa using e⟩
   ·have v:=hv s (hp.1.1 s hs)
    have f:=hp.2 s hs
    have f1:=sx s.1 (by omega) (by omega) f.1
    have f2:=sx s.2 (by omega) (by omega) f.2
    exact⟨f1.2.1,fun z=>f1.2.2 z.symm,fun z=>f2.2.2 z.symm⟩
   ·rcases List.mem_cons.mp hs with rfl|hs
    ·exact⟨ha,bu⟩
    ·have v:=hv s (hp.1.1 s hs)
     have f:=hp.2 s hs
     exact⟨(sx s.1 (by omega) (by omega) f.1).1,(sx s.2 (by omega) (by omega) f.2).1⟩
 ·have ge:∀s∈p,a≤s.1:=fun s hs=>by
   have v:=hv s (hp.1.1 s hs)
   by_cases z:s.1<a
   ·have:=hlow s.1 (by omega) z
    have:=(hp.2 s hs).1
    omega
   ·omega
  have rest:∀q:List Ti,(∀s∈q,s∈p)→(∀s∈q,a<s.1)→∀s∈q,bitI r s.1=1∧bitI r s.2=1:=fun q hq hl s hs=>by
   have v:=hv s (hp.1.1 s (hq s hs))
   have f:=hp.2 s (hq s hs)
   have:=hl s hs
   rw[rb s.1 (by omega) (by omega),rb s.2 (by omega) (by omega),if_neg (by omega),if_neg (by omega)]
   exact f
  cases p with
  |nil=>exact Nat.zero_le _
  |cons t q=>
   obtain⟨c1,c2,c3⟩:=a6h'.mp hp.1
   have vt:=hv t c1
   have gt:=ge t List.mem_cons_self
   by_cases e:t.1=a
   ·have hq:=rest q (fun s hs=>List.mem_cons_of_mem _ hs) (fun s hs=>by have:=(c3 s hs).1;omega)
    have ft:=hp.2 t List.mem_cons_self
    have br:bitI r t.2=1:=by rw[rb t.2 (by omega) (by omega),if_neg (by omega)];exact ft.2
    have et:t=(a,t.2):=by rw[←e]
    have hb:t.2∈nr:=(hm t.2 (by omega)).mpr (et▸c1)
    obtain⟨g0,g1,gb⟩:=a4G' r0 (by omega) (by omega:0≤t.2) vt.2.2 br
    refine h3 t.2 hb br q ⟨c2,fun s hs=> ?_⟩
    have v:=hv s (c2.1 s hs)
    have c:=c3 s hs
    rw[gb s.1 (by omega) (by omega),gb s.2 (by omega) (by omega),if_neg (fun z=>c.2.1 z.symm),if_neg (fun z=>c.2.2 z.symm)]
    exact hq s hs
   ·refine h2 _ ⟨hp.1,rest _ (fun s hs=>hs) fun s hs=> ?_⟩
    rcases List.mem_cons.mp hs with rfl|hs
    ·omega
    ·have:=(c3 s hs).1;omega
end Py
end
section
namespace K15
open PySem PySem.Spec PyProof.Rows L2 Py
def rowD (r:List Ti×Int):D:=.tup [pD r.1,.int r.2]
def ev3:List CS:=[.ite (.band (.cmp .Gt (.var 6) (.var 2)) (.cmp .Eq (.bin .Mod (.bin .RShift (.var 5) (.var 6)) (.lit (.int 2))) (.lit (.int 0)))) [.expr (.meth .append (.var 3) [.tup [.bin .Add (.var 4) (.tup [.tup [.var 2,.var 6]]),.bin .Add (.bin .Add (.var 5) (.bin .LShift (.lit (.int 1)) (.var 2))) (.bin .LShift (.lit (.int 1)) (.var 6))]])] []]
def ev2:List CS:=[.expr (.meth .append (.var 3) [.tup [.var 4,.var 5]]),.ite (.cmp .Eq (.bin .Mod (.bin .RShift (.var 5) (.var 2)) (.lit (.int 2))) (.lit (.int 0))) [.for_ (.var 6) (.seq (.call "_law_near" [.var 0,.var 2])) ev3] []]
def ev1:List CS:=[.asg 3 (.lst true []),.for_ (.tup [.var 4,.var 5]) (.seq (.var 1)) ev2,.asg 1 (.var 3)]
theorem b1j':a1w'=[.asg 1 (.lst false [.tup [.tup [],.lit (.int 0)]]),.for_ (.var 2) (.range [.idx (.var 0) (.lit (.int 0))]) ev1,.ret (.blt (.sorted false (.seq (.seq .int))) [.comp false ["_law_chain","_law_used"] [none,none] (.tup [.var 0,.var 1]) (.seq (.var 1)) [] (.emit (.var 0))])]:=rfl
def okB (a u b:Int):Bool:=decide (a<b)&&decide (bitI u b=0)
def newR (a:Int)(c:List Ti)(u b:Int):List Ti×Int:=(c++[(a,b)],u+2^a.toNat+2^b.toNat)
section
variable {T A:List (List D)}{m a u b:Int}{ts c:List Ti}
theorem b3v' {Φ:FT}{Γ:Str→Option D}{ρ:Rho}{S:Store}{i j:Nat}{x:Int}(hi:ρ[i]? =some (some (.int u)))(hj:ρ[j]? =some (some (.int x)))(hx:0≤x):denT Φ Γ (.cmp .Eq (.bin .Mod (.bin .RShift (.var i) (.var j)) (.lit (.int 2))) (.lit (.int 0))) ρ S=.ok (decide (bitI u x=0)) S:=by
 have e:cmpD .Eq (.int (u/2^x.toNat%2)) (.int 0) S=.ok (.bl (decide (bitI u x=0))) S:=rfl
 simp[denT,den,hi,hj,Res.bind,Res.noErr,opD,shrD,modD,hx,e,onBl]
theorem ev_one {W:D}{r x6:D}{A:List D}{T:Store}(ha:0≤a∧a<8)(hb:0≤b∧b<8)(hc:c.length≤1000)(hA:A.length<16777216):
  denSs a0b' G0 ev3 [some W,some r,some (.int a),some (.ref T.length),some (pD c),some (.int u),some (.int b)] (T++[A])=.ok (.next [some W,some r,some (.int a),some (.ref T.length),some (pD c),some (.int u),some (.int b)]) (T++[if okB a u b=true then A++[rowD (newR a c u b)]else A]):=by
 have h1:=b3v' (Φ:=a0b') (Γ:=G0) (u:=u) (x:=b) (i:=5) (j:=6) (ρ:=[some W,some r,some (.int a),some (.ref T.length),some (pD c),some (.int u),some (.int b)]) (S:=T++[A]) rfl rfl hb.1
 have h2:cmpD .Gt (.int b) (.int a) (T++[A])=.ok (.bl (decide (a<b))) (T++[A]):=rfl
 have hlen:(tiesD c).length=c.length:=by unfold tiesD;simp
 have h3:opD .Add (pD c) (.tup [.tup [.int a,.int b]]) (T++[A])=.ok (pD (c++[(a,b)])) (T++[A]):=by
  have e1:opD .Add (.tup (tiesD c)) (.tup [.tup [.int a,.int b]]) (T++[A])=if(tiesD c).length+[D.tup [.int a,.int b]].length≤big then .ok (.tup (tiesD c++[.tup [.int a,.int b]])) (T++[A])else .fail:=by simp only[opD,addD]
  unfold pD
  rw[e1,if_pos (by rw[hlen];unfold big;simp;omega)]
  simp[tiesD,tieD]
 have h4:∀x:Int,0≤x→x<8→opD .LShift (.int 1) (.int x) (T++[A])=.ok (.int (2^x.toNat)) (T++[A]):=fun x h5 h6=>by
  show(if(1:Int)=1∧0≤x∧x<1000 then Res.ok (D.int (2^x.toNat)) (T++[A])else .fail)=_
  rw[if_pos ⟨rfl,h5,by omega⟩]
 have h5:∀x y:Int,opD .Add (.int x) (.int y) (T++[A])=.ok (.int (x+y)) (T++[A]):=fun _ _=>rfl
 have hap:a2w' (.ref T.length) [rowD (newR a c u b)] (T++[A])=.ok .non (T++[A++[rowD (newR a c u b)]]):=a7M' hA
 have hw:den a0b' G0 (.tup [.bin .Add (.var 4) (.tup [.tup [.var 2,.var 6]]),.bin .Add (.bin .Add (.var 5) (.bin .LShift (.lit (.int 1)) (.var 2))) (.bin .LShift (.lit (.int 1)) (.var 6))]) [some W,some r,some (.int a),some (.ref T.length),some (pD c),some (.int u),some (.int b)] (T++[A])=.ok (rowD (newR a c u b)) (T++[A]):=by
  simp[den,denL,Res.bind,Res.noErr,h3,h4 a ha.1 ha.2,h4 b hb.1 hb.2,h5,rowD,newR]
 have hT:denT a0b' G0 (.band (.cmp .Gt (.var 6) (.var 2)) (.cmp .Eq (.bin .Mod (.bin .RShift (.var 5) (.var 6)) (.lit (.int 2))) (.lit (.int 0)))) [some W,some r,some (.int a),some (.ref T.length),some (pD c),some (.int u),some (.int b)] (T++[A])=.ok (okB a u b) (T++[A]):=by
  have g:denT a0b' G0 (.cmp .Gt (.var 6) (.var 2)) [some W,some r,some (.int a),some (.ref T.length),some (pD c),some (.int u),some (.int b)] (T++[A])=.ok (decide (a<b)) (T++[A]):=by
   simp only[denT,den,List.getElem?_cons_succ,List.getElem?_cons_zero,Res.bind,h2,Res.noErr,onBl]
  rw[denT,g]
  unfold okB
  cases decide (a<b)
  ·rfl
  ·exact h1
 unfold ev3
 refine(a0j' (ρ':=[some W,some r,some (.int a),some (.ref T.length),some (pD c),some (.int u),some (.int b)]) (S':=T++[if okB a u b=true then A++[rowD (newR a c u b)]else A]) ?_).trans rfl
 rw[a3I' hT]
 cases okB a u b
 ·rfl
 ·rw[if_pos rfl,if_pos rfl]
  refine(a0j' (ρ':=[some W,some r,some (.int a),some (.ref T.length),some (pD c),some (.int u),some (.int b)]) (S':=T++[A++[rowD (newR a c u b)]]) ?_).trans rfl
  have hd:∀{ρ:Rho},ρ[3]? =some (some (.ref T.length))→∀{e:CE},den a0b' G0 e ρ (T++[A])=.ok (rowD (newR a c u b)) (T++[A])→denS a0b' G0 (.expr (.meth .append (.var 3) [e])) ρ (T++[A])=.ok (.next ρ) (T++[A++[rowD (newR a c u b)]]):=fun{ρ} k1 {e} k2=>by
   simp only[denS,den,denL,k1,k2,Res.bind,methD,hap,Res.noErr]
  exact hd rfl hw
theorem a8I' {W:D}{r:D}{T:Store}(ha:0≤a∧a<8)(hc:c.length≤1000):∀(l:List Int) (A:List D) (x6:Option D),(∀b∈l,0≤b∧b<8)→A.length+l.length<16777216→∃y6,
  forD (fun x ρ S=>match asgCT (.var 6) x ρ with
   |some ρ'=>denSs a0b' G0 ev3 ρ' S
   |none=>.fail) (l.map D.int) [some W,some r,some (.int a),some (.ref T.length),some (pD c),some (.int u),x6] (T++[A])=.ok (.next [some W,some r,some (.int a),some (.ref T.length),some (pD c),some (.int u),y6]) (T++[A++((l.filter (okB a u)).map fun b=>rowD (newR a c u b))])
 | [],A,x6,_,_=>⟨x6,by simp[forD]⟩
 |b::l,A,x6,hl,hA=>by
  rw[List.length_cons]at hA
  obtain⟨y6,ih⟩:=a8I' (W:=W) (r:=r) (T:=T) ha hc l (if okB a u b=true then A++[rowD (newR a c u b)]else A) (some (.int b)) (fun x hx=>hl x (List.mem_cons_of_mem _ hx)) (by split<;>(try simp only[List.length_append,List.length_cons,List.length_nil])<;>omega)
  refine⟨y6,?_⟩
  rw[List.map_cons]
  unfold forD
  simp only[asgCT,List.set_cons_succ,List.set_cons_zero]
  rw[ev_one (x6:=.non) ha (hl b List.mem_cons_self) hc (by omega)]
  refine ih.trans ?_
  cases e:okB a u b<;>simp[e]
end
end K15
end
section
namespace K15
open PySem PySem.Spec PyProof.Rows L2 Py
theorem a7k' {x:Int}:∀{n:Nat} {lo:Int},lo≤x→x<lo+n→x∈a0p' lo n
 |0,lo,h1,h2=>by omega
 |n+1,lo,h1,h2=>by
  unfold a0p'
  by_cases e:x=lo
  ·rw[e];exact List.mem_cons_self
  ·exact List.mem_cons_of_mem _ (a7k' (by omega) (by omega))
theorem nr_mem {m a b:Int}{ts:List Ti}(W:Web m ts)(ha:0≤a∧a<m)(h:a<b):b∈nearI m ts a↔(a,b)∈ts:=by
 unfold nearI tied
 rw[List.mem_filter,decide_eq_true_eq,Int.min_eq_left (by omega),Int.max_eq_right (by omega)]
 constructor
 ·exact fun z=>z.2
 ·intro z
  refine⟨?_,z⟩
  have:=W.tie _ z
  simp only at this
  exact a7k' (by omega) (by omega)
theorem b4U' {m a:Int}{ts:List Ti}:(nearI m ts a).Nodup:=by
 unfold nearI
 exact List.Pairwise.filter _ K15.a2E'
theorem nr_in {m a b:Int}{ts:List Ti}(W:Web m ts)(h:b∈nearI m ts a):0≤b∧b<8:=by
 unfold nearI at h
 have:=K15.a2e' (List.mem_filter.mp h).1
 have:=W.hi
 have:=W.lo
 omega
theorem b4V' {m a:Int}{ts:List Ti}(W:Web m ts):(nearI m ts a).length≤8:=by
 unfold nearI
 refine Nat.le_trans (List.length_filter_le _ _) ?_
 rw[K15.a0R']
 have:=W.hi
 omega
theorem b1k' {S:Store}(hS:Flat S){m a:Int}{ts:List Ti}(W:Web m ts)(ha:0≤a∧a<m):a0K' [webD m ts,.int a] S=.ok (.lst ((nearI m ts a).map D.int)) S:=by
 rw[K15.b2C' W ha]
 exact K15.a9s' hS W.few a
theorem up_rowD {nr:Int→List Int}{a u:Int}{c:List Ti}:(upRow nr a (c,u)).map rowD=rowD (c,u)::(if bitI u a=0 then((nr a).filter (okB a u)).map fun b=>rowD (newR a c u b)else []):=by
 unfold upRow
 rw[List.map_cons]
 congr 1
 split
 ·rw[List.map_map];rfl
 ·rfl
theorem ev_row {m a u:Int}{ts c:List Ti}{r:D}{x6:Option D}{T:Store}{A:List D}(W:Web m ts)(ha:0≤a∧a<m)(hc:c.length≤1000)(hA:A.length≤10000000)(hT:Flat (T++[A++[rowD (c,u)]])):∃y6,
  denSs a0b' G0 ev2 [some (webD m ts),some r,some (.int a),some (.ref T.length),some (pD c),some (.int u),x6] (T++[A])=.ok (.next [some (webD m ts),some r,some (.int a),some (.ref T.length),some (pD c),some (.int u),y6]) (T++[A++(upRow (nearI m ts) a (c,u)).map rowD]):=by
 have w2:=W.hi
 have hap:a2w' (.ref T.length) [rowD (c,u)] (T++[A])=.ok .non (T++[A++[rowD (c,u)]]):=a7M' (show A.length<16777216 by omega)
 have h1:=b3v' (Φ:=a0b') (Γ:=G0) (u:=u) (x:=a) (i:=5) (j:=2) (ρ:=[some (webD m ts),some r,some (.int a),some (.ref T.length),some (pD c),some (.int u),x6]) (S:=T++[A++[rowD (c,u)]]) rfl rfl ha.1
 have hn:=b1k' hT W ha
 have hL:=b4V' (a:=a) W
 obtain⟨y6,ho⟩:=a8I' (W:=webD m ts) (r:=r) (T:=T) (a:=a) (u:=u) (c:=c) ⟨ha.1,by omega⟩ hc (nearI m ts a) (A++[rowD (c,u)]) x6 (fun b hb=>nr_in W hb) (by simp;omega)
 have hd:denS a0b' G0 (.expr (.meth .append (.var 3) [.tup [.var 4,.var 5]])) [some (webD m ts),some r,some (.int a),some (.ref T.length),some (pD c),some (.int u),x6] (T++[A])=.ok (.next [some (webD m ts),some r,some (.int a),some (.ref T.length),some (pD c),some (.int u),x6]) (T++[A++[rowD (c,u)]]):=by
  have e:D.tup [pD c,.int u]=rowD (c,u):=rfl
  simp only[denS,den,denL,List.getElem?_cons_succ,List.getElem?_cons_zero,Res.bind,methD,e,hap,Res.noErr]
 rw[up_rowD]
 unfold ev2
 by_cases hb:bitI u a=0
 ·refine⟨y6,(a0j' hd).trans ((a0j' (ρ':=[some (webD m ts),some r,some (.int a),some (.ref T.length),some (pD c),some (.int u),y6]) (S':=T++[A++[rowD (c,u)]++((nearI m ts a).filter (okB a u)).map fun b=>rowD (newR a c u b)]) ?_).trans ?_)⟩
  ·rw[a3I' h1,decide_eq_true hb,if_pos rfl]
   refine(a0j' (ρ':=[some (webD m ts),some r,some (.int a),some (.ref T.length),some (pD c),some (.int u),y6]) (S':=T++[A++[rowD (c,u)]++((nearI m ts a).filter (okB a u)).map fun b=>rowD (newR a c u b)]) ?_).trans rfl
   rw[a6b' (its:=.items ((nearI m ts a).map D.int)) (S1:=T++[A++[rowD (c,u)]]) (by
    simp[denI,den,denL,Res.bind,a2v',hn,a0u'])]
   exact ho
  ·rw[if_pos hb,denSs]
   simp
 ·refine⟨x6,(a0j' hd).trans ((a0j' (ρ':=[some (webD m ts),some r,some (.int a),some (.ref T.length),some (pD c),some (.int u),x6]) (S':=T++[A++[rowD (c,u)]]) ?_).trans ?_)⟩
  ·rw[a3I' h1,decide_eq_false hb]
   rfl
  ·rw[if_neg hb,denSs]
theorem b3w' {m a:Int}{ts:List Ti}{r:D}{T:Store}(W:Web m ts)(ha:0≤a∧a<m)(hT:Flat T):∀(rows:List (List Ti×Int)) (A:List D) (x4 x5 x6:Option D),(∀q∈rows,q.1.length≤1000)→lowL 0 A=true→A.length+10*rows.length≤1000000→∃y4 y5 y6,
  forD (fun x ρ S=>match asgCT (.tup [.var 4,.var 5]) x ρ with
   |some ρ'=>denSs a0b' G0 ev2 ρ' S
   |none=>.fail) (rows.map rowD) [some (webD m ts),some r,some (.int a),some (.ref T.length),x4,x5,x6] (T++[A])=.ok (.next [some (webD m ts),some r,some (.int a),some (.ref T.length),y4,y5,y6]) (T++[A++(a3J' (nearI m ts) a rows).map rowD])
 | [],A,x4,x5,x6,_,_,_=>⟨x4,x5,x6,by simp[forD,a3J']⟩
 | (c,u)::rows,A,x4,x5,x6,hl,hA,hn=>by
  rw[List.length_cons]at hn
  have lowr:∀l:List (List Ti×Int),lowL 0 (l.map rowD)=true:=fun l=>a0V'.mpr fun x hx=>by
   obtain⟨q,_,rfl⟩:=List.mem_map.mp hx
   show(lowL 0 (tiesD q.1)&&_)=true
   rw[K15.a1d']
   rfl
  have lowA:∀l:List (List Ti×Int),lowL 0 (A++l.map rowD)=true:=fun l=>a0V'.mpr fun x hx=>by
   rcases List.mem_append.mp hx with hx|hx
   ·exact a0V'.mp hA x hx
   ·exact a0V'.mp (lowr l) x hx
  obtain⟨z6,h1⟩:=ev_row (r:=r) (x6:=x6) (T:=T) (A:=A) (u:=u) W ha (hl (c,u) List.mem_cons_self) (by omega) (hT.snoc (lowA [(c,u)]))
  have hL:(upRow (nearI m ts) a (c,u)).length≤9:=by
   unfold upRow
   rw[List.length_cons]
   split
   ·rw[List.length_map]
    have:=List.length_filter_le (fun b=>decide (a<b)&&decide (bitI (c,u).2 b=0)) (nearI m ts a)
    have:=b4V' (a:=a) W
    omega
   ·simp
  obtain⟨y4,y5,y6,ih⟩:=b3w' (r:=r) W ha hT rows (A++(upRow (nearI m ts) a (c,u)).map rowD) (some (pD c)) (some (.int u)) z6 (fun q hq=>hl q (List.mem_cons_of_mem _ hq)) (lowA _) (by rw[List.length_append,List.length_map];omega)
  refine⟨y4,y5,y6,?_⟩
  rw[List.map_cons]
  unfold forD
  have ha1:asgCT (.tup [.var 4,.var 5]) (rowD (c,u)) [some (webD m ts),some r,some (.int a),some (.ref T.length),x4,x5,x6]=some [some (webD m ts),some r,some (.int a),some (.ref T.length),some (pD c),some (.int u),x6]:=rfl
  simp only[ha1]
  rw[h1]
  refine ih.trans ?_
  rw[show a3J' (nearI m ts) a ((c,u)::rows)=upRow (nearI m ts) a (c,u)++a3J' (nearI m ts) a rows from List.flatMap_cons ..,List.map_append,List.append_assoc]
theorem forB_eq {step:D→Rho→Store→Res Fl}{T:Store}{k:Nat}{xs:List D}(hk:T[k]? =some xs)(J:Nat→Rho→Store→Prop)(hJ:∀i ρ S,J i ρ S→∃A,S=T++[A])(hs:∀i x,xs[i]? =some x→∀ρ S,J i ρ S→∃ρ' S',J (i+1) ρ' S'∧step x ρ S=.ok (.next ρ') S'):
  ∀n i ρ S,i+n=xs.length→J i ρ S→forB step (a1k' k) (n+1) i ρ S=forD step (xs.drop i) ρ S:=by
 have hlt:=(List.getElem?_eq_some_iff.mp hk).1
 have hg:∀i ρ S,J i ρ S→a1k' k S i=some xs[i]? :=fun i ρ S j=>by
  obtain⟨A,rfl⟩:=hJ i ρ S j
  unfold a1k'
  rw[List.getElem?_append_left hlt,hk]
  rfl
 intro n
 induction n with
 |zero=>
  intro i ρ S h j
  unfold forB
  rw[hg i ρ S j,List.getElem?_eq_none (by omega),List.drop_eq_nil_of_le (by omega)]
  rfl
 |succ n ih=>
  intro i ρ S h j
  have hx:xs[i]? =some xs[i]:=List.getElem?_eq_getElem (by omega)
  unfold forB
  rw[hg i ρ S j,hx,List.drop_eq_getElem_cons (by omega)]
  obtain⟨ρ',S',j',e⟩:=hs i _ hx ρ S j
  unfold forD
  dsimp only
  rw[e]
  exact ih (i+1) ρ' S' (by omega) j'
theorem a8J' {α:Type} [DecidableEq α]:∀(l l':List α),l.Nodup→(∀x∈l,x∈l')→l.length≤l'.length
 | [],_,_,_=>Nat.zero_le _
 |x::l,l',hn,h=>by
  rw[List.nodup_cons]at hn
  have hx:=h x List.mem_cons_self
  have:=a8J' l (l'.erase x) hn.2 fun y hy=>(List.mem_erase_of_ne (fun(z:y=x)=>hn.1 (by rw[←z];exact hy))).mpr (h y (List.mem_cons_of_mem _ hy))
  rw[List.length_erase_of_mem hx]at this
  have:=List.length_pos_of_mem hx
  rw[List.length_cons]
  omega
theorem ui_len {m a:Int}{ts:List Ti}{rows:List (List Ti×Int)}(W:Web m ts)(h:UI ts a rows):rows.length≤40320:=by
 have h1:(rows.map (·.1)).Nodup:=by unfold List.Nodup;rw[List.pairwise_map];exact h.nd
 have h2:=a8J' _ (allP m ts) h1 fun c hc=>by
  obtain⟨q,hq,rfl⟩:=List.mem_map.mp hc
  have:=((h.mem q.1).mp ⟨q.2,hq⟩).1
  exact((a7i' W).2 _).mpr ⟨this,fun t ht=>(W.tie t (this.1 t ht)).1⟩
 rw[List.length_map]at h2
 have:=a7O' W
 omega
def At (T:Store)(r:D)(xs:List D):Prop:=r=.lst xs∨∃k,r=.ref k∧T[k]? =some xs
theorem b1l' (l:List (List Ti×Int)):lowL 0 (l.map rowD)=true:=a0V'.mpr fun x hx=>by
 obtain⟨q,_,rfl⟩:=List.mem_map.mp hx
 show(lowL 0 (tiesD q.1)&&_)=true
 rw[K15.a1d']
 rfl
theorem b3x' {A:List D}(hA:lowL 0 A=true)(l:List (List Ti×Int)):lowL 0 (A++l.map rowD)=true:=a0V'.mpr fun x hx=>by
 rcases List.mem_append.mp hx with hx|hx
 ·exact a0V'.mp hA x hx
 ·exact a0V'.mp (b1l' l) x hx
theorem up_len {m a:Int}{ts:List Ti}(W:Web m ts)(q:List Ti×Int):(upRow (nearI m ts) a q).length≤9:=by
 unfold upRow
 rw[List.length_cons]
 split
 ·rw[List.length_map]
  have:=List.length_filter_le (fun b=>decide (a<b)&&decide (bitI q.2 b=0)) (nearI m ts a)
  have:=b4V' (a:=a) W
  omega
 ·simp
theorem ev_loop {m a:Int}{ts:List Ti}{r:D}{T:Store}{rows:List (List Ti×Int)}{x4 x5 x6:Option D}(W:Web m ts)(ha:0≤a∧a<m)(hT:Flat T)(hr:At T r (rows.map rowD))(hU:UI ts a rows):∃y4 y5 y6,
  denS a0b' G0 (.for_ (.tup [.var 4,.var 5]) (.seq (.var 1)) ev2) [some (webD m ts),some r,some (.int a),some (.ref T.length),x4,x5,x6] (T++[[]])=.ok (.next [some (webD m ts),some r,some (.int a),some (.ref T.length),y4,y5,y6]) (T++[(a3J' (nearI m ts) a rows).map rowD]):=by
 have hl:=ui_len W hU
 have hc:∀q∈rows,q.1.length≤1000:=fun q hq=>by have:=b3t' W ((hU.mem q.1).mp ⟨q.2,hq⟩).1;omega
 obtain⟨y4,y5,y6,h⟩:=b3w' (r:=r) W ha hT rows [] x4 x5 x6 hc rfl (by simp;omega)
 rw[List.nil_append]at h
 refine⟨y4,y5,y6,?_⟩
 rcases hr with rfl| ⟨k,rfl,hk⟩
 ·rw[a6b' (its:=.items (rows.map rowD)) (S1:=T++[[]]) (by simp[denI,den,Res.bind,a0u'])]
  exact h
 ·have hlt:=(List.getElem?_eq_some_iff.mp hk).1
  have hk2:(T++[([]:List D)])[k]? =some (rows.map rowD):=by rw[List.getElem?_append_left hlt];exact hk
  rw[a6b' (its:=.live ((rows.map rowD).length+1) (a1k' k)) (S1:=T++[[]]) (by simp only[denI,den,List.getElem?_cons_succ,List.getElem?_cons_zero,Res.bind,a0u',hk2,Option.getD_some])]
  have hB:=forB_eq (step:=fun x ρ S=>match asgCT (.tup [.var 4,.var 5]) x ρ with
   |some ρ'=>denSs a0b' G0 ev2 ρ' S
   |none=>.fail) (T:=T) hk (fun i ρ S=>∃z4 z5 z6 A,ρ=[some (webD m ts),some (.ref k),some (.int a),some (.ref T.length),z4,z5,z6]∧S=T++[A]∧lowL 0 A=true∧A.length≤10*i) (fun i ρ S ⟨_,_,_,A,_,e,_⟩=>⟨A,e⟩) (fun i x hx ρ S hJ=>by
   obtain⟨z4,z5,z6,A,rfl,rfl,lA,nA⟩:=hJ
   have hi:i<rows.length:=by have:=(List.getElem?_eq_some_iff.mp hx).1;simpa using this
   rw[List.getElem?_map,List.getElem?_eq_getElem hi]at hx
   cases hx
   obtain⟨y6,e⟩:=ev_row (r:=.ref k) (x6:=z6) (T:=T) (A:=A) (c:=rows[i].1) (u:=rows[i].2) W ha (hc _ (List.getElem_mem hi)) (by omega) (hT.snoc (b3x' lA [rows[i]]))
   refine⟨_,_,⟨some (pD rows[i].1),some (.int rows[i].2),y6,_,rfl,rfl,b3x' lA _,?_⟩,e⟩
   rw[List.length_append,List.length_map]
   have:=up_len (a:=a) W (rows[i].1,rows[i].2)
   omega) (rows.map rowD).length 0 [some (webD m ts),some (.ref k),some (.int a),some (.ref T.length),x4,x5,x6] (T++[[]]) (by simp) ⟨x4,x5,x6,[],rfl,rfl,rfl,by simp⟩
  exact hB.trans h
theorem b4W' {m a:Int}{ts:List Ti}{r:D}{T:Store}{rows:List (List Ti×Int)}{x3 x4 x5 x6:Option D}(W:Web m ts)(ha:0≤a∧a<m)(hT:Flat T)(hr:At T r (rows.map rowD))(hU:UI ts a rows):∃y4 y5 y6,
  denSs a0b' G0 ev1 [some (webD m ts),some r,some (.int a),x3,x4,x5,x6] T=.ok (.next [some (webD m ts),some (.ref T.length),some (.int a),some (.ref T.length),y4,y5,y6]) (T++[(a3J' (nearI m ts) a rows).map rowD]):=by
 obtain⟨y4,y5,y6,h⟩:=ev_loop (x4:=x4) (x5:=x5) (x6:=x6) W ha hT hr hU
 refine⟨y4,y5,y6,?_⟩
 unfold ev1
 rw[a0X' (d:=.ref T.length) (S':=T++[[]]) (by simp[den,denL,Res.bind])]
 simp only[List.set_cons_succ,List.set_cons_zero]
 rw[a0j' h,a0X' (d:=.ref T.length) (S':=T++[(a3J' (nearI m ts) a rows).map rowD]) (by simp[den])]
 simp only[List.set_cons_succ,List.set_cons_zero]
 rw[denSs]
theorem up_head {nr:Int→List Int}{a:Int}{rows:List (List Ti×Int)}(h:rows.head? =some ([],0)):(a3J' nr a rows).head? =some ([],0):=by
 cases rows with
 |nil=>cases h
 |cons r rows=>
  cases h
  rfl
theorem b4X' {ts:List Ti}(hv:∀t∈ts,0≤t.1):UI ts 0 [([],0)]:=by
 refine⟨by simp,fun r hr=> ?_,fun c=> ?_⟩
 ·rw[List.mem_singleton.mp hr]
  refine⟨by decide,by decide,fun x _ _=> ?_⟩
  have:bitI 0 x=0:=by unfold bitI;rw[Int.zero_ediv];rfl
  exact⟨fun _ s hs=>by(cases hs),fun _=>this⟩
 ·constructor
  ·rintro⟨u,hu⟩
   have:=List.mem_singleton.mp hu
   injection this with e _
   subst e
   exact⟨⟨fun t ht=>by(cases ht),.nil⟩,fun t ht=>by cases ht⟩
  ·rintro⟨g1,g2⟩
   cases c with
   |nil=>exact⟨0,List.mem_singleton.mpr rfl⟩
   |cons t c=>
    have h1:=g2 t List.mem_cons_self
    have h2:=hv t (g1.1 t List.mem_cons_self)
    omega
theorem a8K' {m:Int}{ts:List Ti}{S:Store}(W:Web m ts):∀(n:Nat) (a:Int) (rows:List (List Ti×Int)) (r:D) (T:Store) (x2 x3 x4 x5 x6:Option D),0≤a→a+n=m→Flat T→At T r (rows.map rowD)→UI ts a rows→rows.head? =some ([],0)→T.take S.length=S→S.length≤T.length→
  ∃rows' r' T' y2 y3 y4 y5 y6,UI ts m rows'∧rows'.head? =some ([],0)∧Flat T'∧At T' r' (rows'.map rowD)∧T'.take S.length=S∧
  forD (fun x ρ S=>match asgCT (.var 2) x ρ with
   |some ρ'=>denSs a0b' G0 ev1 ρ' S
   |none=>.fail) ((a0p' a n).map D.int) [some (webD m ts),some r,x2,x3,x4,x5,x6] T=.ok (.next [some (webD m ts),some r',y2,y3,y4,y5,y6]) T'
 |0,a,rows,r,T,x2,x3,x4,x5,x6,_,e,hT,hr,hU,hh,ht,hs=>by
  have:a=m:=by omega
  subst this
  exact⟨rows,r,T,x2,x3,x4,x5,x6,hU,hh,hT,hr,ht,rfl⟩
 |n+1,a,rows,r,T,x2,x3,x4,x5,x6,h0,e,hT,hr,hU,hh,ht,hs=>by
  have w2:=W.hi
  have ha:0≤a∧a<m:=⟨h0,by omega⟩
  obtain⟨z4,z5,z6,h⟩:=b4W' (x3:=x3) (x4:=x4) (x5:=x5) (x6:=x6) W ha hT hr hU
  have hU':=up_ok h0 (by omega) (fun t ht=>by have:=W.tie t ht;omega) (b4U' (m:=m) (ts:=ts)) (fun b hb=>nr_mem W ha hb) hU
  obtain⟨rows',r',T',y2,y3,y4,y5,y6,k1,k2,k3,k4,k5,k6⟩:=a8K' (S:=S) W n (a+1) (a3J' (nearI m ts) a rows) (.ref T.length) (T++[(a3J' (nearI m ts) a rows).map rowD]) (some (.int a)) (some (.ref T.length)) z4 z5 z6 (by omega) (by omega) (hT.snoc (b1l' _)) (.inr ⟨_,rfl,boxE⟩) hU' (up_head hh) (by rw[List.take_append_of_le_length hs];exact ht) (by simp;omega)
  refine⟨rows',r',T',y2,y3,y4,y5,y6,k1,k2,k3,k4,k5,?_⟩
  unfold a0p'
  rw[List.map_cons]
  unfold forD
  simp only[asgCT,List.set_cons_succ,List.set_cons_zero]
  rw[h]
  exact k6
theorem b2I' {F G:List (List Ti)}(h:F.Perm G):sortP F=sortP G:=by
 unfold sortP
 refine a4e' rfl (fun x hx=> ?_) ((a1r' _ _).trans (h.map pD)) (a4d' (lordK (.seq (.seq .int)) rfl) _ fun x hx=> ?_)
 ·obtain⟨p,_,rfl⟩:=List.mem_map.mp hx
  exact ty_pD p
 ·obtain⟨p,_,rfl⟩:=List.mem_map.mp hx
  exact ty_pD p
theorem b3y' {α:Type} [DecidableEq α]:∀{l l':List α},l.Nodup→l'.Nodup→(∀x,x∈l↔x∈l')→l.Perm l'
 | [],l',_,_,h=>by
  cases l' with
  |nil=>exact .nil
  |cons x _=>exact absurd ((h x).mpr List.mem_cons_self) (by simp)
 |x::l,l',h1,h2,h=>by
  rw[List.nodup_cons]at h1
  have hx:=(h x).mp List.mem_cons_self
  refine List.Perm.trans (.cons x (b3y' h1.2 (h2.erase x) fun y=> ?_)) (List.perm_cons_erase hx).symm
  rw[h2.mem_erase_iff,←h y,List.mem_cons]
  constructor
  ·exact fun z=>⟨fun(e:y=x)=>h1.1 (by rw[←e];exact z),.inr z⟩
  ·rintro⟨e,z|z⟩
   ·exact absurd z e
   ·exact z
theorem b2J' {m:Int}{ts:List Ti}{rows:List (List Ti×Int)}(W:Web m ts)(h:UI ts m rows):(rows.map (·.1)).Perm (allP m ts):=by
 refine b3y' (by unfold List.Nodup;rw[List.pairwise_map];exact h.nd) (a7i' W).1 fun c=> ?_
 rw[(a7i' W).2 c,List.mem_map]
 constructor
 ·rintro⟨q,hq,rfl⟩
  have:=((h.mem q.1).mp ⟨q.2,hq⟩).1
  exact⟨this,fun t ht=>(W.tie t (this.1 t ht)).1⟩
 ·rintro⟨g1,g2⟩
  obtain⟨u,hu⟩:=(h.mem c).mpr ⟨g1,fun t ht=>by have:=W.tie t (g1.1 t ht);omega⟩
  exact⟨_,hu,rfl⟩
theorem b4Y' {step:D→List D→Store→Res (List D)}{S:Store}{k:Nat}{xs:List D}(hk:S[k]? =some xs){e:D→D}(hs:∀x∈xs,∀acc,acc.length<big→step x acc S=.ok (acc++[e x]) S):∀n i acc,i+n=xs.length→acc.length+n≤big→compB step (a1k' k) (n+1) i acc S=.ok (acc++(xs.drop i).map e) S:=by
 have hg:∀i,a1k' k S i=some xs[i]? :=fun i=>by unfold a1k';rw[hk];rfl
 intro n
 induction n with
 |zero=>
  intro i acc h _
  unfold compB
  rw[hg,List.getElem?_eq_none (by omega),List.drop_eq_nil_of_le (by omega)]
  simp
 |succ n ih=>
  intro i acc h hb
  have hx:xs[i]? =some xs[i]:=List.getElem?_eq_getElem (by omega)
  unfold compB
  rw[hg,hx,List.drop_eq_getElem_cons (by omega)]
  dsimp only
  rw[hs _ (List.getElem_mem _) acc (by omega)]
  refine(ih (i+1) (acc++[e xs[i]]) (by omega) (by simp;omega)).trans ?_
  rw[List.append_assoc,List.map_cons]
  rfl
theorem b4Z' {S:Store}(hS:Flat S){m:Int}{ts:List Ti}(W:Web m ts):a0Y' [webD m ts] S=.ok (.lst (sortP (allP m ts))) S:=by
 have w1:=W.lo
 have w2:=W.hi
 obtain⟨rows,r,T,y2,y3,y4,y5,y6,hU,hh,hT,hr,ht,hf⟩:=a8K' (S:=S) W m.toNat 0 [([],0)] (.lst [rowD ([],0)]) S none none none none none (by omega) (by omega) hS (.inl rfl) (b4X' fun t ht=>(W.tie t ht).1) rfl (List.take_length ..) (Nat.le_refl _)
 have hl:=ui_len W hU
 have hi:idxD (webD m ts) (.int 0) S=.ok (.int m) S:=rfl
 have hstep:∀q∈rows,∀acc:List D,acc.length<big→(match a0m' (.tup [.var 0,.var 1]) (rowD q) [none,none]with
    |some ρ'=>(denTs a0b' G0 [] ρ' T).bind fun k S3=>if k=true then denB a0b' G0 (.emit (.var 0)) ρ' acc S3 else .ok acc S3
    |none=>.fail)=.ok (acc++[pD q.1]) T:=fun q hq acc ha=>by
  have ha1:a0m' (.tup [.var 0,.var 1]) (rowD q) [none,none]=some [some (pD q.1),some (.int q.2)]:=rfl
  rw[ha1]
  have ha':acc.length<16777216:=ha
  simp[denTs,denB,den,Res.bind,ha']
 have hcomp:den a0b' G0 (.comp false ["_law_chain","_law_used"] [none,none] (.tup [.var 0,.var 1]) (.seq (.var 1)) [] (.emit (.var 0))) [some (webD m ts),some r,y2,y3,y4,y5,y6] T=.ok (.lst ((rows.map (·.1)).map pD)) T:=by
  rcases hr with rfl| ⟨k,rfl,hk⟩
  ·refine a2g' (its:=.items (rows.map rowD)) (S1:=T) (by simp[denI,den,Res.bind,a0u']) ?_
   have:=a0A' (f:=rowD) (p:=fun _=>true) (e:=fun q=>pD q.1) (xs:=rows) (S:=T) (step:=fun x acc S2=>match a0m' (.tup [.var 0,.var 1]) x [none,none]with
    |some ρ'=>(denTs a0b' G0 [] ρ' S2).bind fun k S3=>if k=true then denB a0b' G0 (.emit (.var 0)) ρ' acc S3 else .ok acc S3
    |none=>.fail) (fun q hq acc ha=>hstep q hq acc ha) (show rows.length≤16777216 by omega)
   refine Eq.trans this ?_
   rw[List.filter_eq_self.mpr (fun _ _=>rfl),List.map_map]
   rfl
  ·refine a2g' (its:=.live ((rows.map rowD).length+1) (a1k' k)) (S1:=T) (by simp only[denI,den,List.getElem?_cons_succ,List.getElem?_cons_zero,Res.bind,a0u',hk,Option.getD_some]) ?_
   have:=b4Y' (xs:=rows.map rowD) (S:=T) (step:=fun x acc S2=>match a0m' (.tup [.var 0,.var 1]) x [none,none]with
    |some ρ'=>(denTs a0b' G0 [] ρ' S2).bind fun k S3=>if k=true then denB a0b' G0 (.emit (.var 0)) ρ' acc S3 else .ok acc S3
    |none=>.fail) hk (e:=fun d=>match d with| .tup (x::_)=>x|_=>.non) (fun x hx acc ha=>by
     obtain⟨q,hq,rfl⟩:=List.mem_map.mp hx
     exact hstep q hq acc ha) (rows.map rowD).length 0 [] (by simp) (by rw[List.length_map];show 0+rows.length≤16777216;omega)
   refine Eq.trans this ?_
   simp only[List.nil_append,List.drop_zero,List.map_map]
   rfl
 have hs:=b1f' (S:=T) (F:=rows.map (·.1)) (by rw[List.length_map];omega) (.inl (by rw[List.head?_map,hh];rfl)) false (d:=.lst ((rows.map (·.1)).map pD)) rfl
 rw[if_neg (by decide),b2I' (b2J' W hU)]at hs
 have hd:denSs a0b' G0 a1w' [some (webD m ts),none,none,none,none,none,none] S=.ok (.ret (.lst (sortP (allP m ts)))) T:=by
  rw[b1j']
  rw[a0X' (d:=.lst [rowD ([],0)]) (S':=S) (by simp[den,denL,Res.bind,rowD,pD,tiesD])]
  simp only[List.set_cons_succ,List.set_cons_zero]
  rw[a0j' (ρ':=[some (webD m ts),some r,y2,y3,y4,y5,y6]) (S':=T) (by
   rw[a6b' (its:=.items ((a0p' 0 m.toNat).map D.int)) (S1:=S) (by
    have hrr:(-4611686018427387904:Int)≤m∧m<4611686018427387904:=by omega
    simp[denI,denL,den,Res.bind,hi,Res.noErr,hrr,K15.a2d'])]
   exact hf)]
  refine a3b' ?_
  simp only[denS]
  rw[den,denL,hcomp]
  simp only[denL,Res.bind,bltD,hs,Res.noErr]
 show runD a0b' G0 a1w' a3l'.length 1 [webD m ts] S=_
 have hd':denSs a0b' G0 a1w' (([webD m ts]:List D).map some++List.replicate (a3l'.length-1) none) S=.ok (.ret (.lst (sortP (allP m ts)))) T:=hd
 unfold runD
 rw[if_pos (show [webD m ts].length=1 from rfl),hd']
 show trim S.length (.lst (sortP (allP m ts))) T=_
 have hlow:lowD 0 (.lst (sortP (allP m ts)))=true:=a8G' _
 rw[K15.a2Z' (by rw[ht];exact hS) hlow,ht]
theorem b2K' (F:List (List Ti)):(sortP F).length=F.length:=by
 unfold sortP
 rw[(a1r' _ _).length_eq,List.length_map]
end K15
end
section
namespace K15
open PySem PySem.Spec PyProof.Rows L2 Py
theorem b1m':a0K'=K15.a0K':=rfl
def b5a':CE:=.cmp .Eq (.bin .Mod (.bin .RShift (.var 4) (.var 6)) (.lit (.int 2))) (.lit (.int 1))
def lmMax:CE:=.blt .max [.var 5,.bin .Add (.lit (.int 1)) (.idx (.var 1) (.bin .Sub (.var 4) (.bin .LShift (.lit (.int 1)) (.var 6))))]
def lm2:List CS:=[.ite b5a' [.asg 5 lmMax] []]
def lmLow:CE:=.comp false ["_law_place","_law_used"] [none,some 2] (.var 0) (.range [.idx (.var 0) (.lit (.int 0))]) [.cmp .Eq (.bin .Mod (.bin .RShift (.var 1) (.var 0)) (.lit (.int 2))) (.lit (.int 1))] (.emit (.var 0))
def lm1:List CS:=[.asg 3 (.idx lmLow (.lit (.int 0))),.asg 4 (.bin .Sub (.var 2) (.bin .LShift (.lit (.int 1)) (.var 3))),.asg 5 (.idx (.var 1) (.var 4)),.for_ (.var 6) (.seq (.call "_law_near" [.var 0,.var 3])) lm2,.expr (.meth .append (.var 1) [.var 5])]
theorem b2L':a1Z'=[.asg 1 (.lst true [.lit (.int 0)]),.for_ (.var 2) (.range [.lit (.int 1),.bin .LShift (.lit (.int 1)) (.idx (.var 0) (.lit (.int 0)))]) lm1,.ret (.idx (.var 1) (.neg (.lit (.int 1))))]:=rfl
theorem b1n' {Φ:FT}{Γ:Str→Option D}{ρ:Rho}{S:Store}{i j:Nat}{u x:Int}(hi:ρ[i]? =some (some (.int u)))(hj:ρ[j]? =some (some (.int x)))(hx:0≤x):denT Φ Γ (.cmp .Eq (.bin .Mod (.bin .RShift (.var i) (.var j)) (.lit (.int 2))) (.lit (.int 1))) ρ S=.ok (decide (bitI u x=1)) S:=by
 have e:cmpD .Eq (.int (u/2^x.toNat%2)) (.int 1) S=.ok (.bl (decide (bitI u x=1))) S:=rfl
 simp[denT,den,hi,hj,Res.bind,Res.noErr,opD,shrD,modD,hx,e,onBl]
theorem b5b' {S:Store}{x:Int}(h5:0≤x)(h6:x≤8):opD .LShift (.int 1) (.int x) S=.ok (.int (2^x.toNat)) S:=by
 show(if(1:Int)=1∧0≤x∧x<1000 then Res.ok (D.int (2^x.toNat)) S else .fail)=_
 rw[if_pos ⟨rfl,h5,by omega⟩]
theorem low_den {S:Store}{m u:Int}{ts:List Ti}{x1 x3 x4 x5 x6:Option D}(W:Web m ts):den a0d' G0 lmLow [some (webD m ts),x1,some (.int u),x3,x4,x5,x6] S=.ok (.lst (((a0p' 0 m.toNat).filter fun x=>decide (bitI u x=1)).map D.int)) S:=by
 have w1:=W.lo
 have w2:=W.hi
 have hi:idxD (webD m ts) (.int 0) S=.ok (.int m) S:=rfl
 have hrr:(-4611686018427387904:Int)≤m∧m<4611686018427387904:=by omega
 refine a2g' (its:=.items ((a0p' 0 m.toNat).map D.int)) (S1:=S) (by simp[denI,denL,den,Res.bind,hi,Res.noErr,hrr,K15.a2d']) ?_
 refine a0A' (f:=D.int) (p:=fun x=>decide (bitI u x=1)) (e:=D.int) (fun x hx acc ha=> ?_) (by rw[K15.a0R'];unfold big;omega)
 have ha':acc.length<16777216:=ha
 have hx0:=K15.a2e' hx
 have h3:=b1n' (Φ:=a0d') (Γ:=G0) (S:=S) (u:=u) (x:=x) (ρ:=[some (.int x),some (.int u)]) (i:=1) (j:=0) rfl rfl hx0.1
 have ha1:a0m' (.var 0) (.int x) [none,some (.int u)]=some [some (.int x),some (.int u)]:=rfl
 show(match a0m' (.var 0) (.int x) [none,some (.int u)]with
    |some ρ'=>(denTs a0d' G0 _ ρ' S).bind fun k S3=>if k=true then denB a0d' G0 _ ρ' acc S3 else .ok acc S3
    |none=>.fail)=_
 rw[ha1]
 cases e:decide (bitI u x=1)<;>rw[e]at h3<;>simp[denTs,denB,den,Res.bind,h3,ha']
theorem a5A' {p:Int→Bool}:∀(n:Nat) (lo:Int),(∃x,lo≤x∧x<lo+n∧p x=true)→∃a l,(a0p' lo n).filter p=a::l∧p a=true∧lo≤a∧a<lo+n∧∀x,lo≤x→x<a→p x=false
 |0,lo,⟨x,h1,h2,_⟩=>by omega
 |n+1,lo,⟨x,h1,h2,h3⟩=>by
  unfold a0p'
  cases e:p lo with
  |true=>exact⟨lo,_,by rw[List.filter_cons_of_pos e],e,by omega,by omega,fun y h4 h5=>by omega⟩
  |false=>
   rw[List.filter_cons_of_neg (by rw[e];decide)]
   have hne:x≠lo:=fun z=>by rw[z,e]at h3;cases h3
   obtain⟨a,l,k1,k2,k3,k4,k5⟩:=a5A' (p:=p) n (lo+1) ⟨x,by omega,by omega,h3⟩
   refine⟨a,l,k1,k2,by omega,by omega,fun y h4 h5=> ?_⟩
   by_cases z:y=lo
   ·rw[z];exact e
   ·exact k5 y (by omega) h5
def kD (ks:List Nat):List D:=ks.map fun k:Nat=>D.int (k:Int)
theorem low_kD (ks:List Nat):lowL 0 (kD ks)=true:=by
 unfold kD
 induction ks with
 |nil=>rfl
 |cons k ks ih=>rw[List.map_cons];unfold lowL;rw[ih];rfl
theorem idx_kD {T:Store}{ks:List Nat}{i:Int}{k:Nat}(h0:0≤i)(h:ks[i.toNat]? =some k){S:Store}{d:D}(hd:seqOf S d=some (kD ks)):idxD d (.int i) S=.ok (.int k) S:=by
 have hl:i.toNat<ks.length:=(List.getElem?_eq_some_iff.mp h).1
 have h1:atI (kD ks) i=some (.int k):=by
  unfold atI ixN kD
  rw[List.length_map]
  have:i<(ks.length:Int):=by omega
  simp[h0,this,h]
  exact congrArg _ (List.getElem?_eq_some_iff.mp h).2
 unfold idxD
 rw[hd]
 simp only[h1]
def Tells (ts:List Ti)(ks:List Nat):Prop:=∀(i:Nat) (k:Nat),ks[i]? =some k→Best ts i k
section
variable {T:Store}{m u a r:Int}{ts:List Ti}{ks:List Nat}
theorem lm_one (W:D){x2 x3:Option D}{b:Int}{done:List Int}{k:Nat}(hb:0≤b∧b<8)(r0:0≤r)(r8:r<256)(rl:r<ks.length)(hk:Tells ts ks)(hr:Reach ts a r done k):∃k',Reach ts a r (done++[b]) k'∧
  denSs a0d' G0 lm2 [some W,some (.ref T.length),x2,x3,some (.int r),some (.int (k:Int)),some (.int b)] (T++[kD ks])=.ok (.next [some W,some (.ref T.length),x2,x3,some (.int r),some (.int (k':Int)),some (.int b)]) (T++[kD ks]):=by
 have h1:=b1n' (Φ:=a0d') (Γ:=G0) (S:=T++[kD ks]) (u:=r) (x:=b) (ρ:=[some W,some (.ref T.length),x2,x3,some (.int r),some (.int (k:Int)),some (.int b)]) (i:=4) (j:=6) rfl rfl hb.1
 by_cases hbit:bitI r b=1
 ·obtain⟨g0,g1,_⟩:=a4G' r0 r8 hb.1 hb.2 hbit
  obtain⟨l,hl⟩:∃l,ks[(r-2^b.toNat).toNat]? =some l:=⟨_,List.getElem?_eq_getElem (by omega)⟩
  have hB:Best ts (r-2^b.toNat) l:=by
   have:=hk _ _ hl
   rwa [Int.toNat_of_nonneg g0]at this
  refine⟨max k (1+l),b2H' hr hbit hB,?_⟩
  rw[decide_eq_true hbit]at h1
  have e1:idxD (.ref T.length) (.int (r-2^b.toNat)) (T++[kD ks])=.ok (.int (l:Int)) (T++[kD ks]):=idx_kD (T:=T) g0 hl boxE
  have e2:=b5b' (S:=T++[kD ks]) hb.1 (by omega:b≤8)
  have e3:∀x y:Int,opD .Sub (.int x) (.int y) (T++[kD ks])=.ok (.int (x-y)) (T++[kD ks]):=fun _ _=>rfl
  have e4:∀x y:Int,opD .Add (.int x) (.int y) (T++[kD ks])=.ok (.int (x+y)) (T++[kD ks]):=fun _ _=>rfl
  have e5:bltD .max [.int (k:Int),.int (1+(l:Int))] (T++[kD ks])=.ok (.int ((max k (1+l):Nat):Int)) (T++[kD ks]):=by
   show Res.ok (D.int (if(1+(l:Int))>(k:Int)then(1+(l:Int))else(k:Int))) (T++[kD ks])=_
   congr 2
   split<;>omega
  have hm:den a0d' G0 lmMax [some W,some (.ref T.length),x2,x3,some (.int r),some (.int (k:Int)),some (.int b)] (T++[kD ks])=.ok (.int ((max k (1+l):Nat):Int)) (T++[kD ks]):=by
   simp only[lmMax,den,denL,Res.bind,Res.noErr,List.getElem?_cons_succ,List.getElem?_cons_zero,e2,e3,e1,e4,e5]
  unfold lm2
  refine(a0j' (ρ':=[some W,some (.ref T.length),x2,x3,some (.int r),some (.int ((max k (1+l):Nat):Int)),some (.int b)]) (S':=T++[kD ks]) ?_).trans rfl
  rw[a3I' (show denT a0d' G0 b5a' _ _=_ from h1),if_pos rfl,a0X' hm]
  rfl
 ·refine⟨k,b4T' hr hbit,?_⟩
  rw[decide_eq_false hbit]at h1
  unfold lm2
  refine(a0j' (ρ':=[some W,some (.ref T.length),x2,x3,some (.int r),some (.int (k:Int)),some (.int b)]) (S':=T++[kD ks]) ?_).trans rfl
  rw[a3I' (show denT a0d' G0 b5a' _ _=_ from h1)]
  rfl
theorem a8L' (W:D){x2 x3:Option D}(r0:0≤r)(r8:r<256)(rl:r<ks.length)(hk:Tells ts ks):∀(l done:List Int) (k:Nat) (x6:Option D),(∀b∈l,0≤b∧b<8)→Reach ts a r done k→∃k' y6,Reach ts a r (done++l) k'∧
  forD (fun x ρ S=>match asgCT (.var 6) x ρ with
   |some ρ'=>denSs a0d' G0 lm2 ρ' S
   |none=>.fail) (l.map D.int) [some W,some (.ref T.length),x2,x3,some (.int r),some (.int (k:Int)),x6] (T++[kD ks])=.ok (.next [some W,some (.ref T.length),x2,x3,some (.int r),some (.int (k':Int)),y6]) (T++[kD ks])
 | [],done,k,x6,_,h=>⟨k,x6,by rwa [List.append_nil],by simp[forD]⟩
 |b::l,done,k,x6,hl,h=>by
  obtain⟨k1,h1,e1⟩:=lm_one (T:=T) (x2:=x2) (x3:=x3) W (hl b List.mem_cons_self) r0 r8 rl hk h
  obtain⟨k',y6,h2,e2⟩:=a8L' W (x2:=x2) (x3:=x3) r0 r8 rl hk l (done++[b]) k1 (some (.int b)) (fun x hx=>hl x (List.mem_cons_of_mem _ hx)) h1
  refine⟨k',y6,by simpa using h2,?_⟩
  rw[List.map_cons]
  unfold forD
  simp only[asgCT,List.set_cons_succ,List.set_cons_zero]
  rw[e1]
  exact e2
end
end K15
end
section
namespace K15
open PySem PySem.Spec PyProof.Rows L2 Py
theorem pow_le {m:Int}(h0:0≤m)(h8:m≤8):(2:Int)^m.toNat≤256∧1≤(2:Int)^m.toNat:=by
 obtain⟨m,rfl⟩:=Int.eq_ofNat_of_zero_le h0
 rw[Int.toNat_natCast]
 have h:∀m<9,2^m≤256∧1≤2^m:=by decide
 have:=h m (by omega)
 exact⟨by exact_mod_cast this.1,by exact_mod_cast this.2⟩
section
variable {T:Store}{m u:Int}{ts:List Ti}{ks:List Nat}
theorem b1o' {k:Nat}(h:Tells ts ks)(hk:Best ts ks.length k):Tells ts (ks++[k]):=fun i l hl=>by
 by_cases z:i<ks.length
 ·rw[List.getElem?_append_left z]at hl;exact h i l hl
 ·rw[List.getElem?_append_right (by omega)]at hl
  have z2:i=ks.length:=by
   by_cases z3:i-ks.length=0
   ·omega
   ·rw[List.getElem?_eq_none (by simp;omega)]at hl;cases hl
  subst z2
  rw[Nat.sub_self]at hl
  cases hl
  exact hk
theorem lm_set (hT:Flat T)(W:Web m ts){x3 x4 x5 x6:Option D}(u1:1≤u)(u2:u<2^m.toNat)(hl:(ks.length:Int)=u)(hk:Tells ts ks):∃k y3 y4 y5 y6,Best ts u k∧
  denSs a0d' G0 lm1 [some (webD m ts),some (.ref T.length),some (.int u),x3,x4,x5,x6] (T++[kD ks])=.ok (.next [some (webD m ts),some (.ref T.length),some (.int u),y3,y4,y5,y6]) (T++[kD (ks++[k])]):=by
 have w1:=W.lo
 have w2:=W.hi
 have hp:=pow_le (by omega:0≤m) w2
 obtain⟨x,b1,b2,b3⟩:=b2F' (by omega:0≤m) w2 u1 u2
 obtain⟨a,l,f1,f2,f3,f4,f5⟩:=a5A' (p:=fun x=>decide (bitI u x=1)) m.toNat 0 ⟨x,b1,by omega,by simpa using b3⟩
 have f2:bitI u a=1:=by simpa using f2
 have f5:∀x,0≤x→x<a→bitI u x=0:=fun x h1 h2=>by
  have:=f5 x h1 h2
  have h3:¬bitI u x=1:=by simpa using this
  rcases bitI_01 u x with z|z
  ·exact z
  ·exact absurd z h3
 have ham:0≤a∧a<m:=⟨f3,by omega⟩
 obtain⟨r0,r1,rb⟩:=a4G' (by omega:0≤u) (by omega) f3 (by omega) f2
 obtain⟨k0,hk0⟩:∃k0,ks[(u-2^a.toNat).toNat]? =some k0:=⟨_,List.getElem?_eq_getElem (by omega)⟩
 have hB:Best ts (u-2^a.toNat) k0:=by
  have:=hk _ _ hk0
  rwa [Int.toNat_of_nonneg r0]at this
 have hT1:Flat (T++[kD ks]):=hT.snoc (low_kD ks)
 obtain⟨k,y6,hr,he⟩:=a8L' (T:=T) (a:=a) (r:=u-2^a.toNat) (ks:=ks) (ts:=ts) (webD m ts) (x2:=some (.int u)) (x3:=some (.int a)) r0 (by omega) (by omega) hk (nearI m ts a) [] k0 x6 (fun b hb=>nr_in W hb) (a9t' hB)
 rw[List.nil_append]at hr
 have hbest:=b1i' (by omega:0≤u) (by omega) f3 (by omega) (fun t ht=>by have:=W.tie t ht;omega) f2 f5 (fun b hb=>nr_mem W ham hb) (fun b hb=>nr_in W hb) hr
 refine⟨k,some (.int a),some (.int (u-2^a.toNat)),some (.int (k:Int)),y6,hbest,?_⟩
 have e1:den a0d' G0 (.idx lmLow (.lit (.int 0))) [some (webD m ts),some (.ref T.length),some (.int u),x3,x4,x5,x6] (T++[kD ks])=.ok (.int a) (T++[kD ks]):=by
  have h1:=low_den (S:=T++[kD ks]) (u:=u) (x1:=some (.ref T.length)) (x3:=x3) (x4:=x4) (x5:=x5) (x6:=x6) W
  rw[f1,List.map_cons]at h1
  have h2:idxD (.lst (.int a::l.map D.int)) (.int 0) (T++[kD ks])=.ok (.int a) (T++[kD ks]):=by
   have h3:atI (D.int a::l.map D.int) 0=some (.int a):=by
    unfold atI ixN
    simp
    try omega
   unfold idxD
   simp only[seqOf,h3]
  simp only[den,h1,Res.bind,h2,Res.noErr]
 have e2:=b5b' (S:=T++[kD ks]) f3 (by omega:a≤8)
 have e3:opD .Sub (.int u) (.int (2^a.toNat)) (T++[kD ks])=.ok (.int (u-2^a.toNat)) (T++[kD ks]):=rfl
 have e4:idxD (.ref T.length) (.int (u-2^a.toNat)) (T++[kD ks])=.ok (.int (k0:Int)) (T++[kD ks]):=idx_kD (T:=T) r0 hk0 boxE
 have e5:=K15.b1k' hT1 W ham
 rw[←b1m']at e5
 have e6:a2w' (.ref T.length) [.int (k:Int)] (T++[kD ks])=.ok .non (T++[kD ks++[.int (k:Int)]]):=a7M' (by unfold kD;rw[List.length_map];show _<16777216;omega)
 have e7:kD ks++[.int (k:Int)]=kD (ks++[k]):=by unfold kD;simp
 rw[e7]at e6
 unfold lm1
 rw[a0X' e1]
 simp only[List.set_cons_succ,List.set_cons_zero]
 rw[a0X' (d:=.int (u-2^a.toNat)) (S':=T++[kD ks]) (by simp only[den,Res.bind,Res.noErr,List.getElem?_cons_succ,List.getElem?_cons_zero,e2,e3])]
 simp only[List.set_cons_succ,List.set_cons_zero]
 rw[a0X' (d:=.int (k0:Int)) (S':=T++[kD ks]) (by simp only[den,Res.bind,Res.noErr,List.getElem?_cons_succ,List.getElem?_cons_zero,e4])]
 simp only[List.set_cons_succ,List.set_cons_zero]
 rw[a0j' (ρ':=[some (webD m ts),some (.ref T.length),some (.int u),some (.int a),some (.int (u-2^a.toNat)),some (.int (k:Int)),y6]) (S':=T++[kD ks]) (by
  rw[a6b' (its:=.items ((nearI m ts a).map D.int)) (S1:=T++[kD ks]) (by simp only[denI,den,denL,Res.bind,Res.noErr,List.getElem?_cons_succ,List.getElem?_cons_zero,a2B',e5,a0u'])]
  exact he)]
 rw[a0j' (ρ':=[some (webD m ts),some (.ref T.length),some (.int u),some (.int a),some (.int (u-2^a.toNat)),some (.int (k:Int)),y6]) (S':=T++[kD (ks++[k])]) (by simp only[denS,den,denL,Res.bind,Res.noErr,methD,List.getElem?_cons_succ,List.getElem?_cons_zero,e6])]
 rfl
theorem b3z' (hT:Flat T)(W:Web m ts):∀(n:Nat) (u:Int) (ks:List Nat) (x2 x3 x4 x5 x6:Option D),1≤u→u+n=2^m.toNat→(ks.length:Int)=u→Tells ts ks→∃ks' y2 y3 y4 y5 y6,((ks'.length:Int)=2^m.toNat)∧Tells ts ks'∧
  forD (fun x ρ S=>match asgCT (.var 2) x ρ with
   |some ρ'=>denSs a0d' G0 lm1 ρ' S
   |none=>.fail) ((a0p' u n).map D.int) [some (webD m ts),some (.ref T.length),x2,x3,x4,x5,x6] (T++[kD ks])=.ok (.next [some (webD m ts),some (.ref T.length),y2,y3,y4,y5,y6]) (T++[kD ks'])
 |0,u,ks,x2,x3,x4,x5,x6,u1,e,hl,hk=>⟨ks,x2,x3,x4,x5,x6,by omega,hk,rfl⟩
 |n+1,u,ks,x2,x3,x4,x5,x6,u1,e,hl,hk=>by
  obtain⟨k,z3,z4,z5,z6,hb,h⟩:=lm_set (x3:=x3) (x4:=x4) (x5:=x5) (x6:=x6) hT W u1 (by omega) hl hk
  obtain⟨ks',y2,y3,y4,y5,y6,k1,k2,k3⟩:=b3z' hT W n (u+1) (ks++[k]) (some (.int u)) z3 z4 z5 z6 (by omega) (by omega) (by simp;omega) (b1o' hk (by rw[hl];exact hb))
  refine⟨ks',y2,y3,y4,y5,y6,k1,k2,?_⟩
  unfold a0p'
  rw[List.map_cons]
  unfold forD
  simp only[asgCT,List.set_cons_succ,List.set_cons_zero]
  rw[h]
  exact k3
end
theorem most_eq {S:Store}(hS:Flat S){m:Int}{ts:List Ti}(W:Web m ts):∃k,Best ts (2^m.toNat-1) k∧a1v' [webD m ts] S=.ok (.int (k:Int)) S:=by
 have w1:=W.lo
 have w2:=W.hi
 have hp:=pow_le (by omega:0≤m) w2
 obtain⟨ks,y2,y3,y4,y5,y6,k1,k2,k3⟩:=b3z' hS W (2^m.toNat-1:Int).toNat 1 [0] none none none none none (by omega) (by omega) rfl (fun i k h=>by
  have:i=0:=by
   by_cases z:i<1
   ·omega
   ·rw[List.getElem?_eq_none (by simp;omega)]at h;cases h
  subst this
  cases h
  exact b2G')
 obtain⟨k,hk⟩:∃k,ks[(2^m.toNat-1:Int).toNat]? =some k:=⟨_,List.getElem?_eq_getElem (by omega)⟩
 have hB:Best ts (2^m.toNat-1) k:=by
  have:=k2 _ _ hk
  rwa [Int.toNat_of_nonneg (by omega)]at this
 refine⟨k,hB,?_⟩
 have hi:idxD (webD m ts) (.int 0) S=.ok (.int m) S:=rfl
 have hi2:∀T,idxD (webD m ts) (.int 0) T=.ok (.int m) T:=fun _=>rfl
 have e2:=b5b' (S:=S++[kD [0]]) (by omega:0≤m) w2
 have e4:idxD (.ref S.length) (.int (-1)) (S++[kD ks])=.ok (.int (k:Int)) (S++[kD ks]):=by
  have hl:(kD ks).length=ks.length:=by unfold kD;rw[List.length_map]
  have h1:atI (kD ks) (-1)=some (.int (k:Int)):=by
   have hx:ixN (kD ks).length (-1)=some ((2^m.toNat-1:Int).toNat):=by
    unfold ixN
    rw[hl]
    simp
    omega
   unfold atI
   rw[hx]
   show(kD ks)[(2^m.toNat-1:Int).toNat]? =_
   unfold kD
   rw[List.getElem?_map,hk]
   rfl
  unfold idxD
  simp only[seqOf,boxE,h1]
 have hd:denSs a0d' G0 a1Z' [some (webD m ts),none,none,none,none,none,none] S=.ok (.ret (.int (k:Int))) (S++[kD ks]):=by
  rw[b2L']
  rw[a0X' (d:=.ref S.length) (S':=S++[kD [0]]) (by simp[den,denL,Res.bind,kD])]
  simp only[List.set_cons_succ,List.set_cons_zero]
  rw[a0j' (ρ':=[some (webD m ts),some (.ref S.length),y2,y3,y4,y5,y6]) (S':=S++[kD ks]) (by
   rw[a6b' (its:=.items ((a0p' 1 (2^m.toNat-1:Int).toNat).map D.int)) (S1:=S++[kD [0]]) (by
    have hrr:(-4611686018427387904:Int)≤2^m.toNat∧(2:Int)^m.toNat<4611686018427387904:=by omega
    simp[denI,denL,den,Res.bind,hi2,e2,Res.noErr,hrr,K15.a2d'])]
   exact k3)]
  refine a3b' ?_
  simp only[denS,den,Res.bind,Res.noErr,List.getElem?_cons_succ,List.getElem?_cons_zero,e4]
 show runD a0d' G0 a1Z' a4v'.length 1 [webD m ts] S=_
 have hd':denSs a0d' G0 a1Z' (([webD m ts]:List D).map some++List.replicate (a4v'.length-1) none) S=.ok (.ret (.int (k:Int))) (S++[kD ks]):=hd
 unfold runD
 rw[if_pos (show [webD m ts].length=1 from rfl),hd']
 show trim S.length (.int (k:Int)) (S++[kD ks])=_
 rw[K15.a2Z' (by rw[List.take_left' rfl];exact hS) rfl,List.take_left' rfl]
end K15
end
section
namespace K15
open PySem PySem.Spec PyProof.Rows L2 Py
theorem a6i':a0C'=K15.a0C':=rfl
theorem b1p':∀{p q:List Ti},tiesD p=tiesD q→p=q
 | [],[],_=>rfl
 | [],_::_,h=>by cases h
 |_::_,[],h=>by cases h
 |s::p,t::q,h=>by
  have h:tieD s::tiesD p=tieD t::tiesD q:=h
  injection h with h1 h2
  rw[b1p' h2]
  unfold tieD at h1
  injection h1 with e
  injection e with e1 e2
  injection e2 with e2 _
  injection e1 with e1
  injection e2 with e2
  rw[Prod.ext e1 e2]
theorem b5c' {p q:List Ti}(h:pD p=pD q):p=q:=by
 unfold pD at h
 injection h with h
 exact b1p' h
theorem all_pD:∀l:List D,(∀x∈l,∃p:List Ti,x=pD p)→∃G:List (List Ti),l=G.map pD
 | [],_=>⟨[],rfl⟩
 |x::l,h=>by
  obtain⟨p,rfl⟩:=h x List.mem_cons_self
  obtain⟨G,rfl⟩:=all_pD l fun y hy=>h y (List.mem_cons_of_mem _ hy)
  exact⟨p::G,rfl⟩
theorem a7l' (F:List (List Ti)):∃G:List (List Ti),sortP F=G.map pD∧G.length=F.length∧∀p,p∈G↔p∈F:=by
 have hp:(sortP F).Perm (F.map pD):=a1r' _ _
 obtain⟨G,e⟩:=all_pD (sortP F) fun x hx=>by
  obtain⟨p,_,rfl⟩:=List.mem_map.mp (hp.mem_iff.mp hx)
  exact⟨p,rfl⟩
 have hl:=b2K' F
 rw[e]at hp
 rw[e,List.length_map]at hl
 refine⟨G,e,hl,fun p=> ?_⟩
 have:=hp.mem_iff (a:=pD p)
 simp only[List.mem_map]at this
 constructor
 ·intro h
  obtain⟨q,hq,z⟩:=this.mp ⟨p,h,rfl⟩
  rwa [←b5c' z]
 ·intro h
  obtain⟨q,hq,z⟩:=this.mpr ⟨p,h,rfl⟩
  rwa [←b5c' z]
theorem a4H' {α:Type}{f e:α→D}{p:α→Bool}{step:D→List D→Store→Res (List D)}{S:Store}{k:Nat}{xs:List α}(hk:S[k]? =some (xs.map f))(hs:∀x∈xs,∀acc,acc.length<big→step (f x) acc S=.ok (if p x=true then acc++[e x]else acc) S):∀n i acc,i+n=xs.length→acc.length+n≤big→compB step (a1k' k) (n+1) i acc S=.ok (acc++((xs.drop i).filter p).map e) S:=by
 have hg:∀i,a1k' k S i=some ((xs.map f)[i]?):=fun i=>by unfold a1k';rw[hk];rfl
 intro n
 induction n with
 |zero=>
  intro i acc h _
  unfold compB
  rw[hg,List.getElem?_eq_none (by rw[List.length_map];omega),List.drop_eq_nil_of_le (by omega)]
  simp
 |succ n ih=>
  intro i acc h hb
  have hx:(xs.map f)[i]? =some (f xs[i]):=by rw[List.getElem?_map,List.getElem?_eq_getElem (by omega)];rfl
  unfold compB
  rw[hg,hx,List.drop_eq_getElem_cons (by omega)]
  dsimp only
  rw[hs _ (List.getElem_mem _) acc (by omega)]
  refine(ih (i+1) (if p xs[i]=true then acc++[e xs[i]]else acc) (by omega) (by split<;>(try simp only[List.length_append,List.length_cons,List.length_nil])<;>omega)).trans ?_
  cases z:p xs[i]
  ·rw[List.filter_cons_of_neg (by rw[z];decide)];rfl
  ·rw[List.filter_cons_of_pos z,List.map_cons,if_pos rfl,List.append_assoc];rfl
theorem b1q' {k:Int}:∀(ns:List Int) (n:Int),(∀x∈n::ns,x≤k)→k∈n::ns→ns.foldl max n=k
 | [],n,_,h=>by
  rw[List.mem_singleton]at h
  exact h.symm
 |x::ns,n,h1,h2=>by
  rw[List.foldl_cons]
  have hn:=h1 n List.mem_cons_self
  have hx:=h1 x (by simp)
  refine b1q' ns (max n x) (fun y hy=> ?_) ?_
  ·rcases List.mem_cons.mp hy with rfl|hy
   ·omega
   ·exact h1 y (by simp[hy])
  ·rcases List.mem_cons.mp h2 with z|h2
   ·exact List.mem_cons.mpr (.inl (by omega))
   ·rcases List.mem_cons.mp h2 with z|h2
    ·exact List.mem_cons.mpr (.inl (by omega))
    ·exact List.mem_cons_of_mem _ h2
theorem a8M':∀ns:List Int,intsD (ns.map D.int)=some ns
 | []=>rfl
 |n::ns=>by rw[List.map_cons];unfold intsD;rw[a8M' ns];rfl
structure Most (m:Int)(ts:List Ti)(G:List (List Ti))(k:Nat):Prop where
 is:sortP (allP m ts)=G.map pD
 few:G.length≤40320
 le:∀p∈G,p.length≤k
 at_:∃p∈G,p.length=k
theorem most_of {m:Int}{ts:List Ti}(W:Web m ts){k:Nat}(h:Best ts (2^m.toNat-1) k):∃G,Most m ts G k:=by
 obtain⟨G,g1,g2,g3⟩:=a7l' (allP m ts)
 have hf:∀p,p∈G↔Fit ts (2^m.toNat-1) p:=fun p=>by
  rw[g3,(a7i' W).2]
  constructor
  ·rintro⟨c,_⟩
   refine⟨c,fun s hs=> ?_⟩
   have:=W.tie s (c.1 s hs)
   exact⟨b1h' W.lo W.hi (by omega) (by omega),b1h' W.lo W.hi (by omega) (by omega)⟩
  ·intro h
   exact⟨h.1,fun t ht=>(W.tie t (h.1.1 t ht)).1⟩
 obtain⟨⟨p,hp,hk⟩,h2⟩:=h
 exact⟨G,g1,by rw[g2];exact a7O' W,fun q hq=>h2 q ((hf q).mp hq),p,(hf p).mpr hp,hk⟩
def grL:CE:=.comp false ["pairing"] [none] (.var 0) (.seq (.var 1)) [] (.emit (.blt .len [.var 0]))
def grC:CE:=.comp true ["pairing","many"] [none,some 2] (.var 0) (.seq (.var 1)) [.cmp .Eq (.blt .len [.var 0]) (.var 1)] (.emit (.var 0))
theorem a7m':a1Y'=[.asg 1 (.call "all_pairings" [.var 0]),.asg 2 (.blt .max [grL]),.ret grC]:=rfl
def topP (G:List (List Ti))(k:Nat):List (List Ti):=G.filter fun p=>decide (p.length=k)
theorem b5d' {S:Store}(p:List Ti):lenD [pD p] S=.ok (.int (p.length:Nat)) S:=by
 have:(tiesD p).length=p.length:=by unfold tiesD;rw[List.length_map]
 show Res.ok (D.int ((tiesD p).length:Nat)) S=_
 rw[this]
theorem b1r' {Φ:FT}{Γ:Str→Option D}{S:Store}{p:List Ti}{k:Nat}{acc:List D}(ha:acc.length<big):(match a0m' (.var 0) (pD p) [none,some (.int (k:Int))]with
    |some ρ'=>(denTs Φ Γ [.cmp .Eq (.blt .len [.var 0]) (.var 1)] ρ' S).bind fun k S3=>if k=true then denB Φ Γ (.emit (.var 0)) ρ' acc S3 else .ok acc S3
    |none=>.fail)=.ok (if decide (p.length=k)=true then acc++[pD p]else acc) S:=by
 have ha':acc.length<16777216:=ha
 have h1:=b5d' (S:=S) p
 have h3:cmpD .Eq (.int ((p.length:Nat):Int)) (.int (k:Int)) S=.ok (.bl (decide (p.length=k))) S:=by
  have:cmpD .Eq (.int ((p.length:Nat):Int)) (.int (k:Int)) S=.ok (.bl (decide (((p.length:Nat):Int)=(k:Int)))) S:=rfl
  rw[this]
  congr 2
  exact decide_eq_decide.mpr (by omega)
 have ha1:a0m' (.var 0) (pD p) [none,some (.int (k:Int))]=some [some (pD p),some (.int (k:Int))]:=rfl
 rw[ha1]
 cases e:decide (p.length=k)<;>rw[e]at h3<;>simp[denTs,denT,denB,den,denL,Res.bind,bltD,h1,h3,Res.noErr,onBl,ha']
theorem b5e' {S:Store}{m:Int}{ts:List Ti}{G:List (List Ti)}{k:Nat}(M:Most m ts G k):bltD .max [.lst (G.map fun p=>D.int ((p.length:Nat):Int))] S=.ok (.int (k:Int)) S:=by
 obtain⟨p0,hp0,hk0⟩:=M.at_
 have hle:=M.le
 have em:(G.map fun p=>D.int ((p.length:Nat):Int))=(G.map fun p=>((p.length:Nat):Int)).map D.int:=by rw[List.map_map];rfl
 have h1:(k:Int)∈G.map fun p=>((p.length:Nat):Int):=List.mem_map.mpr ⟨p0,hp0,by rw[hk0]⟩
 have h2:∀x∈G.map fun p=>((p.length:Nat):Int),x≤(k:Int):=fun x hx=>by
  obtain⟨p,hp,rfl⟩:=List.mem_map.mp hx
  have:=hle p hp
  omega
 rw[em]
 generalize(G.map fun p=>((p.length:Nat):Int))=ns at h1 h2
 cases ns with
 |nil=>cases h1
 |cons n ns=>
  have h3:=b1q' ns n h2 h1
  have h4:=a8M' (n::ns)
  show(match intsD ((n::ns).map D.int)with
   |some (n::ns)=>Res.ok (D.int (ns.foldl max n)) S
   |_=>.fail)=_
  rw[h4]
  show Res.ok (D.int (ns.foldl max n)) S=_
  rw[h3]
theorem a9u' {S:Store}(hS:Flat S){m:Int}{ts:List Ti}(W:Web m ts){G:List (List Ti)}{k:Nat}(M:Most m ts G k):a2V' [webD m ts] S=.ok (.ref S.length) (S++[(topP G k).map pD]):=by
 have e1:=K15.a4W' hS W
 rw[←a6i',M.is]at e1
 have hfew:=M.few
 have hS1:Flat (S++[G.map pD]):=hS.snoc (a3c' G)
 have e2:den a0q' G0 grL [some (webD m ts),some (.ref S.length),none] (S++[G.map pD])=.ok (.lst (G.map fun p=>D.int ((p.length:Nat):Int))) (S++[G.map pD]):=by
  refine a2g' (its:=.live ((G.map pD).length+1) (a1k' S.length)) (S1:=S++[G.map pD]) (by simp only[denI,den,List.getElem?_cons_succ,List.getElem?_cons_zero,Res.bind,a0u',boxE,Option.getD_some]) ?_
  have:=a4H' (xs:=G) (f:=pD) (p:=fun _=>true) (e:=fun p=>D.int ((p.length:Nat):Int)) (S:=S++[G.map pD]) (k:=S.length) (step:=fun x acc S2=>match a0m' (.var 0) x [none]with
    |some ρ'=>(denTs a0q' G0 [] ρ' S2).bind fun k S3=>if k=true then denB a0q' G0 (.emit (.blt .len [.var 0])) ρ' acc S3 else .ok acc S3
    |none=>.fail) boxE (fun p hp acc ha=>by
     have ha':acc.length<16777216:=ha
     have h1:=b5d' (S:=S++[G.map pD]) p
     have ha1:a0m' (.var 0) (pD p) [none]=some [some (pD p)]:=rfl
     rw[ha1]
     simp[denTs,denB,den,denL,Res.bind,bltD,h1,Res.noErr,ha']) G.length 0 [] (by simp) (by show 0+G.length≤16777216;omega)
  rw[List.nil_append,List.drop_zero,List.filter_eq_self.mpr (fun _ _=>rfl)]at this
  rw[List.length_map]
  exact this
 have e3:=b5e' (S:=S++[G.map pD]) M
 have e4:den a0q' G0 grC [some (webD m ts),some (.ref S.length),some (.int (k:Int))] (S++[G.map pD])=.ok (.ref (S.length+1)) (S++[G.map pD]++[(topP G k).map pD]):=by
  have hI:denI a0q' G0 (.seq (.var 1)) [some (webD m ts),some (.ref S.length),some (.int (k:Int))] (S++[G.map pD])=.ok (.live ((G.map pD).length+1) (a1k' S.length)) (S++[G.map pD]):=by simp only[denI,den,List.getElem?_cons_succ,List.getElem?_cons_zero,Res.bind,a0u',boxE,Option.getD_some]
  have:=a4H' (xs:=G) (f:=pD) (p:=fun p=>decide (p.length=k)) (e:=pD) (S:=S++[G.map pD]) (k:=S.length) (step:=fun x acc S2=>match a0m' (.var 0) x [none,some (.int (k:Int))]with
    |some ρ'=>(denTs a0q' G0 [.cmp .Eq (.blt .len [.var 0]) (.var 1)] ρ' S2).bind fun k S3=>if k=true then denB a0q' G0 (.emit (.var 0)) ρ' acc S3 else .ok acc S3
    |none=>.fail) boxE (fun p hp acc ha=>b1r' ha) G.length 0 [] (by simp) (by show 0+G.length≤16777216;omega)
  rw[List.nil_append,List.drop_zero]at this
  unfold grC
  rw[den,hI,List.length_map]
  refine Eq.trans (congrArg (fun r=>Res.bind (Res.noErr r) (fun ys S5=>if true=true then Res.ok (D.ref S5.length) (S5++[ys])else Res.ok (.lst ys) S5)) this) ?_
  simp[Res.bind,Res.noErr,topP]
 have hd:denSs a0q' G0 a1Y' [some (webD m ts),none,none] S=.ok (.ret (.ref (S.length+1))) (S++[G.map pD]++[(topP G k).map pD]):=by
  rw[a7m']
  rw[a0X' (d:=.ref S.length) (S':=S++[G.map pD]) (by simp only[den,denL,Res.bind,List.getElem?_cons_zero,a1G',e1])]
  simp only[List.set_cons_succ,List.set_cons_zero]
  rw[a0X' (d:=.int (k:Int)) (S':=S++[G.map pD]) (by rw[den,denL,e2];simp only[denL,Res.bind,e3,Res.noErr])]
  simp only[List.set_cons_succ,List.set_cons_zero]
  refine a3b' ?_
  rw[denS,e4]
  rfl
 show runD a0q' G0 a1Y' a4p'.length 1 [webD m ts] S=_
 have hd':denSs a0q' G0 a1Y' (([webD m ts]:List D).map some++List.replicate (a4p'.length-1) none) S=_:=hd
 unfold runD
 rw[if_pos (show [webD m ts].length=1 from rfl),hd']
 show trim S.length (.ref (S.length+1)) (S++[G.map pD]++[(topP G k).map pD])=_
 have ht:(S++[G.map pD]++[(topP G k).map pD]).take S.length=S:=by rw[List.append_assoc,List.take_left' rfl]
 have hg:(S++[G.map pD]++[(topP G k).map pD])[S.length+1]? =some ((topP G k).map pD):=by
  rw[List.getElem?_append_right (by simp)]
  simp
 have hl:lowL S.length ((topP G k).map pD)=true:=K15.a1I' _ (a3c' _)
 unfold trim
 rw[ht,if_pos hS.all,if_neg (by unfold lowD;simp)]
 simp only[hg]
 rw[if_pos ⟨hl,by omega⟩]
theorem b1s' {m:Int}{ts:List Ti}{G:List (List Ti)}{k:Nat}(M:Most m ts G k):∃p l,topP G k=p::l∧p.length=k:=by
 obtain⟨p0,hp0,hk0⟩:=M.at_
 have h0:p0∈topP G k:=List.mem_filter.mpr ⟨hp0,by simpa using hk0⟩
 cases e:topP G k with
 |nil=>rw[e]at h0;cases h0
 |cons p l=>
  have:p∈topP G k:=by rw[e];exact List.mem_cons_self
  exact⟨p,l,rfl,by simpa using(List.mem_filter.mp this).2⟩
theorem cell_eq {S:Store}(hS:Flat S)(ns:List Int):∃c:Int,a1u' [.scr (ns.map D.int),.int 0] S=.ok (.int c) S:=by
 cases ns with
 |nil=>exact⟨0,a0E' rfl rfl rfl hS rfl⟩
 |cons n ns=>
  refine⟨n,a0E' rfl ?_ rfl hS rfl⟩
  have h1:lenD [.scr ((n::ns).map D.int)] S=.ok (.int ((n::ns).map D.int).length) S:=rfl
  have h2:cmpD .Lt (.int 0) (.int ((n::ns).map D.int).length) S=.ok (.bl true) S:=by
   have:cmpD .Lt (.int 0) (.int ((n::ns).map D.int).length) S=.ok (.bl (decide ((0:Int)<((n::ns).map D.int).length))) S:=rfl
   rw[this,decide_eq_true (by simp)]
  have h3:idxD (.scr ((n::ns).map D.int)) (.int 0) S=.ok (.int n) S:=by
   unfold idxD
   have:atI ((n::ns).map D.int) 0=some (.int n):=by
    unfold atI ixN
    simp
    try omega
   simp only[seqOf,this]
  generalize(n::ns).map D.int=xs at h1 h2 h3
  simp[a6M',a6L',denSs,denS,denT,den,denL,Res.bind,Res.noErr,onBl,bltD,h1,h2,h3]
theorem pen_eq {S:Store}(hS:Flat S)(c:Int):∃b:Int,a2n' [.int c] S=.ok (.ref S.length) (S++[[.int c,.int b]]):=by
 refine⟨if decide ((10:Int)^18≤c)=true then 1 else 0,?_⟩
 have e:denSs a5V' G0 a3S' ([D.int c].map some++List.replicate (a3R'.length-1) none) S=.ok (.ret (.ref S.length)) (S++[[.int c,.int (if decide ((10:Int)^18≤c)=true then 1 else 0)]]):=by
  have h1:powD (.int 10) (.int 18) S=.ok (.int ((10:Int)^18)) S:=rfl
  have h2:cmpD .GtE (.int c) (.int ((10:Int)^18)) S=.ok (.bl (decide ((10:Int)^18≤c))) S:=rfl
  have h3:∀k,intD [.bl k] S=.ok (.int (if k=true then 1 else 0)) S:=fun k=>rfl
  generalize(10:Int)^18=T at*
  simp only[a3S',a3R',denSs,denS,den,denL,Res.bind,Res.noErr,bltD,opD,h1,h2,h3,List.map_cons,List.map_nil,List.length_cons,List.length_nil,List.cons_append,List.getElem?_cons_zero,if_true]
 show runD a5V' G0 a3S' a3R'.length 1 [.int c] S=_
 unfold runD
 rw[if_pos (show [D.int c].length=1 from rfl),e]
 show trim S.length (.ref S.length) _=_
 unfold trim
 rw[List.take_left' rfl,if_pos hS.all,if_neg (by unfold lowD;simp)]
 simp[lowL,lowD]
end K15
end
section
namespace K15
open PySem PySem.Spec PyProof.Rows L2 Py
theorem low_pD (p:List Ti):lowD 0 (pD p)=true:=by
 have:=a0V'.mp (a3c' [p]) (pD p) (by simp)
 exact this
section
variable {S:Store}{m:Int}{ts:List Ti}{G:List (List Ti)}{k:Nat}
theorem b5f' {d:D}{x:D}{xs:List D}(h:seqOf S d=some (x::xs)):idxD d (.int 0) S=.ok x S:=by
 have h3:atI (x::xs) 0=some x:=by
  unfold atI ixN
  simp
  try omega
 unfold idxD
 rw[h]
 simp only[h3]
theorem b5g' (hS:Flat S)(W:Web m ts)(M:Most m ts G k){p:List Ti}{l:List (List Ti)}(ht:topP G k=p::l):a0n' [webD m ts] S=.ok (pD p) S:=by
 have e1:=a9u' hS W M
 rw[ht]at e1
 have e2:idxD (.ref S.length) (.int 0) (S++[(p::l).map pD])=.ok (pD p) (S++[(p::l).map pD]):=b5f' (xs:=l.map pD) boxE
 have hd:denSs a0x' G0 a0w' [some (webD m ts)] S=.ok (.ret (pD p)) (S++[(p::l).map pD]):=by
  generalize(p::l).map pD=L at*
  unfold a0w'
  refine a3b' ?_
  simp only[denS,den,denL,Res.bind,List.getElem?_cons_zero,a1n',e1,e2,Res.noErr]
 show runD a0x' G0 a0w' a1a'.length 1 [webD m ts] S=_
 have hd':denSs a0x' G0 a0w' (([webD m ts]:List D).map some++List.replicate (a1a'.length-1) none) S=_:=hd
 unfold runD
 rw[if_pos (show [webD m ts].length=1 from rfl),hd']
 show trim S.length (pD p) (S++[(p::l).map pD])=_
 rw[K15.a2Z' (by rw[List.take_left' rfl];exact hS) (low_pD p),List.take_left' rfl]
end
section
variable {T:Store}{m:Int}{ts:List Ti}{G:List (List Ti)}{k:Nat}{x0 x1 x2 x3 x4 x5 x6:Option D}
end
end K15
end
section
namespace K15
open PySem PySem.Spec PyProof.Rows L2 Py
theorem a7P':a1u'=K15.a1u':=rfl
theorem a9v':a2n'=K15.a2n':=rfl
theorem a9w':a2p'=K15.a2p':=rfl
theorem a7n':a0Y'=K15.a0Y':=rfl
theorem a7Q':a1v'=K15.a1v':=rfl
theorem a4X':a0z'=K15.a0z':=rfl
theorem b2M':a4o'=K15.a4o':=rfl
theorem b2N':a0n'=K15.a0n':=rfl
section
variable {S T:Store}{m:Int}{ts:List Ti}{G:List (List Ti)}{k:Nat}
theorem b1t' (M:Most m ts G k)(W:Web m ts){p:List Ti}(hp:p∈G):Chn ts p:=by
 obtain⟨G',g1,g2,g3⟩:=K15.a7l' (allP m ts)
 have h1:pD p∈G'.map pD:=by
  rw[←g1,M.is]
  exact List.mem_map_of_mem hp
 obtain⟨q,hq,e⟩:=List.mem_map.mp h1
 obtain rfl:=K15.b5c' e
 exact(((K15.a7i' W).2 _).mp ((g3 _).mp hq)).1
theorem a5B' (hS:Flat S)(W:Web m ts){p:List Ti}(P:Pairing ts p):a1t' [webD m ts,pD p] S=.ok (.bl (decide (2*(p.length:Int)=m))) S:=by
 have h1:=K15.pair_le W P
 have hm:=W.hi
 have e1:=K15.b4M' hS W P (show p.length≤100 by omega)
 rw[←b2M']at e1
 have e2:=K15.b2E' W P
 refine a0E' rfl ?_ rfl hS rfl
 show denSs a4r' G0 a4q' [some (webD m ts),some (pD p)] S=_
 unfold a4q'
 refine a3b' ?_
 have e1':a4o' [webD m ts,pD p] S=_:=e1
 generalize(a6c' m p).map D.int=L at*
 simp only[denS,den,denL,Res.bind,List.getElem?_cons_zero,List.getElem?_cons_succ,a3G',e1',truD]
 rw[←e2]
 cases L<;>rfl
theorem a7R' (hS:Flat S)(W:Web m ts)(M:Most m ts G k):a2m' [webD m ts] S=.ok (.bl (decide (2*(k:Int)=m))) S:=by
 obtain⟨p,l,ht,hk⟩:=K15.b1s' M
 have e1:=K15.b5g' hS W M ht
 rw[←b2N']at e1
 have hp:p∈G:=by
  have:p∈topP G k:=by rw[ht];simp
  exact(List.mem_filter.mp this).1
 have e2:=a5B' hS W (K15.a5z' W (b1t' M W hp))
 rw[hk]at e2
 refine a0E' rfl ?_ rfl hS rfl
 show denSs a2l' G0 a3k' [some (webD m ts)] S=_
 unfold a3k'
 refine a3b' ?_
 simp only[denS,den,denL,Res.bind,List.getElem?_cons_zero,List.getElem?_cons_succ,a2u',a1g',e1,e2]
theorem a8N' (hS:Flat S)(b:Bool):a2W' [.bl b,.bl b] S=.ok (.bl true) S:=by
 show a1H' 6 [.bl b,.bl b] S=_
 refine a0E' rfl ?_ rfl hS rfl
 have h1:a3s' [.bl b,.ty "bool"] S=.ok (.bl true) S:=rfl
 have h3:cmpD .Eq (.bl b) (.bl b) S=.ok (.bl true) S:=by cases b<;>rfl
 have h4:cmpD .Is (.bl b) .non S=.ok (.bl false) S:=rfl
 simp[a6K',a4s',denSs,denS,denT,den,denL,Res.bind,Res.noErr,onBl,bltD,h1,h3,h4,truD]
end
end K15
end
section
namespace K15
open PySem PySem.Spec PyProof.Rows L2 Py
def lw15A:List CS:=[.ite (.bor (.bnot (.call "_law_same" [.call "has_whole" [.call "row" [.var 1]],.cmp .Eq (.bin .Mod (.var 1) (.lit (.int 2))) (.lit (.int 0))])) (.bnot (.call "_law_same" [.call "has_whole" [.call "star" [.var 1]],.cmp .Eq (.var 1) (.lit (.int 2))]))) [.ret (.lit (.bl false))] [],.ite (.band (.cmp .Gt (.var 1) (.lit (.int 2))) (.cmp .NotEq (.call "has_whole" [.call "ring" [.var 1]]) (.cmp .Eq (.bin .Mod (.var 1) (.lit (.int 2))) (.lit (.int 0))))) [.ret (.lit (.bl false))] []]
def lw15F:CS:=.for_ (.var 1) (.range [.lit (.int 1),.lit (.int 9)]) lw15A
def b1u':CE:=.comp false ["_law_pairing_here","_law_many"] [none,some 1] (.var 0) (.seq (.call "_law_every" [.var 4])) [.cmp .Eq (.blt .len [.var 0]) (.var 1)] (.emit (.var 0))
def lw15I:CE:=.seq (.lst false [.call "_law_pairing" [.var 3,.var 4],.call "_law_pairing" [.var 3,.var 4],.tup [],.var 5])
def lw15T:CE:=.bnot (.call "_law_same" [.call "is_whole" [.var 4,.var 6],.cmp .Eq (.bin .Mult (.lit (.int 2)) (.blt .len [.var 6])) (.idx (.var 4) (.lit (.int 0)))])
def lw15U:CE:=.bnot (.call "_law_same" [.call "has_whole" [.var 4],.cmp .Eq (.bin .Mult (.lit (.int 2)) (.var 1)) (.idx (.var 4) (.lit (.int 0)))])
def lw15B:List CS:=[.asg 3 (.call "_law_pen" [.var 2]),.asg 4 (.call "_law_web" [.var 3,.lit (.int 8)]),.asg 1 (.call "_law_most" [.var 4]),.asg 5 (.idx b1u' (.neg (.lit (.int 1)))),.for_ (.var 6) lw15I [.ite lw15T [.ret (.lit (.bl false))] []],.ite lw15U [.ret (.lit (.bl false))] []]
def lw15C:CE:=.seq (.bin .Add (.lst false [.call "_law_cell" [.var 0,.lit (.int 0)]]) (.sl (.var 0) [.lit (.int 1)] [.lit (.int 6)]))
theorem b1v':c_law=[lw15F,.for_ (.var 2) lw15C lw15B,.ret (.lit (.bl true))]:=rfl
theorem first15 (s0:Option D):denS t_law G0 lw15F [s0,none,none,none,none,none,none] []=.ok (.next [s0,some (.int 8),none,none,none,none,none]) []:=by kernel_rfl
section
variable {S T:Store}{m:Int}{ts:List Ti}{G:List (List Ti)}{k:Nat}{x0 x1 x2 x3 x4 x5 x6:Option D}
theorem due15 (hT:Flat T)(W:Web m ts)(M:Most m ts G k):den t_law G0 b1u' [x0,some (.int (k:Int)),x2,x3,some (webD m ts),x5,x6] T=.ok (.lst ((topP G k).map pD)) T:=by
 have e1:=K15.b4Z' hT W
 rw[←a7n',M.is]at e1
 have hfew:=M.few
 refine a2g' (its:=.items (G.map pD)) (S1:=T) (by simp only[denI,den,denL,List.getElem?_cons_succ,List.getElem?_cons_zero,Res.bind,a4x',e1,a0u']) ?_
 exact a0A' (f:=pD) (p:=fun p=>decide (p.length=k)) (e:=pD) (fun p hp acc ha=>K15.b1r' ha) (show G.length≤16777216 by omega)
theorem b5h' {xs:List D}{x:D}:idxD (.lst (xs++[x])) (.int (-1)) S=.ok x S:=by
 have h3:atI (xs++[x]) (-1)=some x:=by
  unfold atI ixN
  simp
  rw[if_pos (by omega)]
  show(xs++[x])[(-1+((xs.length:Int)+1)).toNat]? =_
  rw[show(-1+((xs.length:Int)+1)).toNat=xs.length by omega]
  simp
 unfold idxD
 simp only[seqOf,h3]
theorem b5i' (M:Most m ts G k):∃p l,topP G k=l++[p]∧p.length=k∧p∈G:=by
 obtain⟨p0,l0,h0,_⟩:=K15.b1s' M
 have hne:topP G k≠[]:=by rw[h0];simp
 refine⟨(topP G k).getLast hne,(topP G k).dropLast,(List.dropLast_concat_getLast hne).symm,?_⟩
 have:=List.mem_filter.mp (show(topP G k).getLast hne∈topP G k from List.getLast_mem hne)
 exact⟨by simpa using this.2,this.1⟩
theorem test15 (hS:Flat S)(W:Web m ts){p:List Ti}(P:Pairing ts p):denT t_law G0 lw15T [x0,x1,x2,x3,some (webD m ts),x5,some (pD p)] S=.ok false S:=by
 have e1:=a5B' hS W P
 have e2:=K15.b5d' (S:=S) p
 have e3:idxD (webD m ts) (.int 0) S=.ok (.int m) S:=rfl
 have e4:opD .Mult (.int 2) (.int (p.length:Int)) S=.ok (.int (2*(p.length:Int))) S:=rfl
 have e5:cmpD .Eq (.int (2*(p.length:Int))) (.int m) S=.ok (.bl (decide (2*(p.length:Int)=m))) S:=rfl
 have e6:=a8N' hS (decide (2*(p.length:Int)=m))
 generalize decide (2*(p.length:Int)=m)=b at*
 simp only[lw15T,denT,den,denL,Res.bind,Res.noErr,List.getElem?_cons_succ,List.getElem?_cons_zero,a2x',a4S',bltD,e1,e2,e3,e4,e5,e6,truD]
 rfl
theorem last15 (hS:Flat S)(W:Web m ts)(M:Most m ts G k):denT t_law G0 lw15U [x0,some (.int (k:Int)),x2,x3,some (webD m ts),x5,x6] S=.ok false S:=by
 have e1:=a7R' hS W M
 have e3:idxD (webD m ts) (.int 0) S=.ok (.int m) S:=rfl
 have e4:opD .Mult (.int 2) (.int (k:Int)) S=.ok (.int (2*(k:Int))) S:=rfl
 have e5:cmpD .Eq (.int (2*(k:Int))) (.int m) S=.ok (.bl (decide (2*(k:Int)=m))) S:=rfl
 have e6:=a8N' hS (decide (2*(k:Int)=m))
 generalize decide (2*(k:Int)=m)=b at*
 simp only[lw15U,denT,den,denL,Res.bind,Res.noErr,List.getElem?_cons_succ,List.getElem?_cons_zero,a2x',a4w',bltD,e1,e3,e4,e5,e6,truD]
 rfl
theorem loop15 (hS:Flat S)(W:Web m ts):∀(ps:List (List Ti)) (x6:Option D),(∀p∈ps,Pairing ts p)→∃y6,forD (fun x ρ S=>match asgCT (.var 6) x ρ with
   |some ρ'=>denSs t_law G0 [.ite lw15T [.ret (.lit (.bl false))] []] ρ' S
   |none=>.fail) (ps.map pD) [x0,x1,x2,x3,some (webD m ts),x5,x6] S=.ok (.next [x0,x1,x2,x3,some (webD m ts),x5,y6]) S
 | [],x6,_=>⟨x6,rfl⟩
 |p::ps,x6,h=>by
  obtain⟨y6,ih⟩:=loop15 hS W ps (some (pD p)) fun q hq=>h q (by simp[hq])
  refine⟨y6,?_⟩
  rw[List.map_cons,forD]
  have h1:denSs t_law G0 [.ite lw15T [.ret (.lit (.bl false))] []] [x0,x1,x2,x3,some (webD m ts),x5,some (pD p)] S=.ok (.next [x0,x1,x2,x3,some (webD m ts),x5,some (pD p)]) S:=by
   rw[a0j' (ρ':=[x0,x1,x2,x3,some (webD m ts),x5,some (pD p)]) (S':=S) (by rw[a3I' (test15 hS W (h p (by simp)))];rfl)]
   rfl
  have h2:asgCT (.var 6) (pD p) [x0,x1,x2,x3,some (webD m ts),x5,x6]=some [x0,x1,x2,x3,some (webD m ts),x5,some (pD p)]:=rfl
  simp only[h2,h1,Res.bind]
  exact ih
theorem cells15 (hS:Flat S){ns:List Int}(hl:ns.length≤63):∃cs:List Int,denI t_law G0 lw15C [some (.scr (ns.map D.int)),x1,x2,x3,x4,x5,x6] S=.ok (.items (cs.map D.int)) S:=by
 obtain⟨c,ec⟩:=K15.cell_eq hS ns
 rw[←a7P']at ec
 obtain⟨cs,hc,hcl⟩:∃cs:List Int,cutL (ns.map D.int) (some 1) (some 6)=cs.map D.int∧cs.length≤63:=by
  refine⟨(ns.drop _).take _,by unfold cutL;rw[←List.map_drop,←List.map_take],?_⟩
  simp;omega
 refine⟨c::cs,?_⟩
 have h1:slD (.scr (ns.map D.int)) (some 1) (some 6) S=.ok (.lst (cs.map D.int)) S:=by
  rw[←hc];rfl
 have h2:addD (.lst [.int c]) (.lst (cs.map D.int)) S=.ok (.lst ([.int c]++cs.map D.int)) S:=by
  show(if 1+(cs.map D.int).length≤big then Res.ok (D.lst ([.int c]++cs.map D.int)) S else .fail)=_
  rw[if_pos (by unfold big;simp;omega)]
 simp[lw15C,denI,den,denL,Res.bind,Res.noErr,a4R',ec,optL,toOpt,h1,opD,h2,a0u']
theorem body15 {s0:D}(c:Int)(hS:Flat S):∃S' y1 y3 y4 y5 y6,Flat S'∧denSs t_law G0 lw15B [some s0,x1,some (.int c),x3,x4,x5,x6] S=.ok (.next [some s0,y1,some (.int c),y3,y4,y5,y6]) S':=by
 obtain⟨b,eb⟩:=K15.pen_eq hS c
 rw[←a9v']at eb
 have hS1:Flat (S++[[.int c,.int b]]):=hS.snoc rfl
 have hp1:PenAt (S++[[.int c,.int b]]) S.length:=⟨c,b,by rw[List.getElem?_append_right (Nat.le_refl _)];simp⟩
 obtain⟨m,ts,S2,W,d2,e2⟩:=K15.web_eq hS1 hp1
 rw[←a9w']at e2
 have hS2:=d2.flat hS1
 have hp2:=d2.pen hp1
 obtain⟨k,hB,e3⟩:=K15.most_eq hS2 W
 rw[←a7Q']at e3
 obtain⟨G,M⟩:=K15.most_of W hB
 obtain⟨p,l,ht,hk,hpG⟩:=b5i' M
 have e4:=due15 (x0:=some s0) (x2:=some (.int c)) (x3:=some (.ref S.length)) (x5:=x5) (x6:=x6) hS2 W M
 have e5:den t_law G0 (.idx b1u' (.neg (.lit (.int 1)))) [some s0,some (.int (k:Int)),some (.int c),some (.ref S.length),some (webD m ts),x5,x6] S2=.ok (pD p) S2:=by
  rw[ht,List.map_append]at e4
  have e6:=b5h' (S:=S2) (xs:=l.map pD) (x:=pD p)
  simp only[den,e4,Res.bind]
  exact congrArg Res.noErr e6
 obtain⟨p1,S3,P1,l1,d3,e7⟩:=K15.a7c' W hS2 hp2
 have hS3:=d3.flat hS2
 have hp3:=d3.pen hp2
 obtain⟨p2,S4,P2,l2,d4,e8⟩:=K15.a7c' W hS3 hp3
 rw[←a4X']at e7 e8
 have hS4:=d4.flat hS3
 have P0:Pairing ts []:=⟨List.Pairwise.nil,(fun t h=>(List.not_mem_nil h).elim),List.Pairwise.nil⟩
 have P3:=K15.a5z' W (b1t' M W hpG)
 obtain⟨y6,e9⟩:=loop15 (x0:=some s0) (x1:=some (.int (k:Int))) (x2:=some (.int c)) (x3:=some (.ref S.length)) (x5:=some (pD p)) hS4 W [p1,p2,[],p] x6 (by
  intro q hq
  simp only[List.mem_cons,List.not_mem_nil,or_false]at hq
  rcases hq with rfl|rfl|rfl|rfl<;>assumption)
 refine⟨S4,some (.int (k:Int)),some (.ref S.length),some (webD m ts),some (pD p),y6,hS4,?_⟩
 unfold lw15B
 rw[a0X' (d:=.ref S.length) (S':=S++[[.int c,.int b]]) (by simp only[den,denL,Res.bind,List.getElem?_cons_succ,List.getElem?_cons_zero,a5X',eb])]
 simp only[List.set_cons_succ,List.set_cons_zero]
 rw[a0X' (d:=webD m ts) (S':=S2) (by simp only[den,denL,Res.bind,List.getElem?_cons_succ,List.getElem?_cons_zero,a5Y',e2])]
 simp only[List.set_cons_succ,List.set_cons_zero]
 rw[a0X' (d:=.int (k:Int)) (S':=S2) (by simp only[den,denL,Res.bind,List.getElem?_cons_succ,List.getElem?_cons_zero,a4Q',e3])]
 simp only[List.set_cons_succ,List.set_cons_zero]
 rw[a0X' e5]
 simp only[List.set_cons_succ,List.set_cons_zero]
 have eI:denI t_law G0 lw15I [some s0,some (.int (k:Int)),some (.int c),some (.ref S.length),some (webD m ts),some (pD p),x6] S2=.ok (.items ([p1,p2,[],p].map pD)) S4:=by
  have a1:a0z' [.ref S.length,webD m ts] S2=.ok (.tup (tiesD p1)) S3:=e7
  simp only[lw15I,denI,den,denL,Res.bind,List.getElem?_cons_succ,List.getElem?_cons_zero,a3m',a1,e8]
  rfl
 rw[a0j' (ρ':=[some s0,some (.int (k:Int)),some (.int c),some (.ref S.length),some (webD m ts),some (pD p),y6]) (S':=S4) (by rw[a6b' eI];exact e9)]
 rw[a0j' (ρ':=[some s0,some (.int (k:Int)),some (.int c),some (.ref S.length),some (webD m ts),some (pD p),y6]) (S':=S4) (by rw[a3I' (last15 hS4 W M)];rfl)]
 rfl
end
theorem good (ns:List Int)(hl:ns.length≤63):∃S',f_law [.scr (ns.map D.int)] []=.ok (.bl true) S':=by
 obtain⟨cs,hcs⟩:=cells15 Flat.nil hl (x1:=some (.int 8)) (x2:=none) (x3:=none) (x4:=none) (x5:=none) (x6:=none)
 obtain⟨ρ',S',_,hf⟩:=b1c' (step:=fun x ρ S=>match asgCT (.var 2) x ρ with
   |some ρ'=>denSs t_law G0 lw15B ρ' S
   |none=>.fail) (fun ρ S=>∃x1 x2 x3 x4 x5 x6,ρ=[some (.scr (ns.map D.int)),x1,x2,x3,x4,x5,x6]∧Flat S) (cs.map D.int) (by
    rintro x hx ρ S ⟨x1,x2,x3,x4,x5,x6,rfl,hS⟩
    obtain⟨c,_,rfl⟩:=List.mem_map.mp hx
    obtain⟨S',y1,y3,y4,y5,y6,h1,h2⟩:=body15 (s0:=.scr (ns.map D.int)) (x1:=x1) (x3:=x3) (x4:=x4) (x5:=x5) (x6:=x6) c hS
    exact⟨_,S',⟨y1,some (.int c),y3,y4,y5,y6,rfl,h1⟩,h2⟩) [some (.scr (ns.map D.int)),some (.int 8),none,none,none,none,none] [] ⟨_,_,_,_,_,_,rfl,Flat.nil⟩
 have hd:denSs t_law G0 c_law [some (.scr (ns.map D.int)),none,none,none,none,none,none] []=.ok (.ret (.bl true)) S':=by
  rw[b1v']
  refine(a0j' (first15 _)).trans ?_
  refine(a0j' (ρ':=ρ') (S':=S') ?_).trans rfl
  rw[a6b' hcs]
  exact hf
 refine⟨[],?_⟩
 show runD t_law G0 c_law n_law.length 1 [.scr (ns.map D.int)] []=_
 unfold runD
 rw[if_pos (show [D.scr (ns.map D.int)].length=1 from rfl)]
 rw[show denSs t_law G0 c_law ([D.scr (ns.map D.int)].map some++List.replicate (n_law.length-1) none) []=_ from hd]
 rfl
end K15
end
section
namespace K15
open PySem PySem.Spec PyProof.Rows L2 Py
theorem walk {l:PySem.W.OpenLaw}{q:Program}{loose:List Str}{XP:(Str→Option Value)→Heap→Prop}{YP:World→Heap→Prop}{d:DefRec}{K:Params→PySem.W.Frag}(hn:l.most=some 63)(hdf:d.params.defaults=[])
  (hY:∀(w:World) (h:Heap),YP w h→(K w.params).In h)
  (F:∀(w:World) (mg:Str→Option Value) (fa:Addr) (h:Heap),(K w.params).In h→h.Ns mainGlobals mg→mg d.name=some (.ref fa)→
   ∃fd:FuncData,(∀(s:Shared) (u:Value),BindsTo s fd ⟨[u],[]⟩ [("_law_script",u)])∧∀base:Heap,(K w.params).In base→base.Ns mainGlobals mg→FnOk l.prog w (K w.params) mg base CX0 13 fa fd ["_law_script"] (spLaw (K w.params))):
  PySem.W.WalkO q loose XP YP l.row.toRowW d [] (fun f vs=>PySem.call f vs):=
 L2.walk_of (n:=63) (k:=13) (x:="_law_script") (CX:=fun _=>CX0) (sp:=fun w=>spLaw (K w.params)) hn (by decide) hdf ⟨rfl,by decide,by decide,rfl⟩ hY F (fun _ _ a ns hl hO hS=>⟨a,ns,rfl,hO,hS,hl,fun _=>rfl⟩) fun _ _ _ _ _ z=>z
end K15
namespace PySem.W.Fast
theorem tw10018504205891802677 : True := ⟨⟩
theorem tw10050690538552531298 : True := ⟨⟩
theorem tw10060413961338870312 : True := ⟨⟩
theorem tw10064645566311630650 : True := ⟨⟩
theorem tw10065233513369422649 : True := ⟨⟩
theorem tw10135118054371721241 : True := ⟨⟩
theorem tw10354210474626606362 : True := ⟨⟩
theorem tw10376654741892465258 : True := ⟨⟩
theorem tw10550266701958956907 : True := ⟨⟩
theorem tw10580755928183629118 : True := ⟨⟩
theorem tw10622192824933121422 : True := ⟨⟩
theorem tw10694411847644377869 : True := ⟨⟩
theorem tw10704912593825248898 : True := ⟨⟩
theorem tw10730218588309916395 : True := ⟨⟩
theorem tw10777348715359063464 : True := ⟨⟩
theorem tw11003055993814018577 : True := ⟨⟩
theorem tw11048925172697669901 : True := ⟨⟩
theorem tw11065978501773233695 : True := ⟨⟩
theorem tw1113446592315894236 : True := ⟨⟩
theorem tw11152197599316781495 : True := ⟨⟩
theorem tw1145175650335629680 : True := ⟨⟩
theorem tw11638595061782081608 : True := ⟨⟩
theorem tw11671442711946573971 : True := ⟨⟩
theorem tw1167181570314689859 : True := ⟨⟩
theorem tw11904364245867048290 : True := ⟨⟩
theorem tw11909078799798632904 : True := ⟨⟩
theorem tw11914072932422935538 : True := ⟨⟩
theorem tw11956540445085162011 : True := ⟨⟩
theorem tw11960885311755919343 : True := ⟨⟩
theorem tw11980692948530166410 : True := ⟨⟩
theorem tw1200590496357591372 : True := ⟨⟩
theorem tw12034136249079114357 : True := ⟨⟩
theorem tw12072757770929730839 : True := ⟨⟩
theorem tw120965956842369186 : True := ⟨⟩
theorem tw12141588679717414612 : True := ⟨⟩
theorem tw12289694512291974118 : True := ⟨⟩
theorem tw1230840531331525524 : True := ⟨⟩
theorem tw12412161897722318145 : True := ⟨⟩
theorem tw12456770470245121183 : True := ⟨⟩
theorem tw12485933239338615860 : True := ⟨⟩
theorem tw12501352676521400403 : True := ⟨⟩
theorem tw12503633246397126475 : True := ⟨⟩
theorem tw1259559822389162627 : True := ⟨⟩
theorem tw12615527696098609892 : True := ⟨⟩
theorem tw12720713344535094611 : True := ⟨⟩
theorem tw1276015419117376456 : True := ⟨⟩
theorem tw12811212791635748745 : True := ⟨⟩
theorem tw12821746854171743475 : True := ⟨⟩
theorem tw1288914978066935514 : True := ⟨⟩
theorem tw12921038090923666745 : True := ⟨⟩
theorem tw13025101515504656944 : True := ⟨⟩
theorem tw13137322252752291786 : True := ⟨⟩
theorem tw13436358885792926480 : True := ⟨⟩
theorem tw13566583169391943600 : True := ⟨⟩
theorem tw13572658765982210037 : True := ⟨⟩
theorem tw1367319284647389219 : True := ⟨⟩
theorem tw13710258689477518758 : True := ⟨⟩
theorem tw13713464762418187087 : True := ⟨⟩
theorem tw13865790405599525411 : True := ⟨⟩
theorem tw13867533387374895164 : True := ⟨⟩
theorem tw13913628077494345401 : True := ⟨⟩
theorem tw14052052728867285888 : True := ⟨⟩
theorem tw14101454961091793503 : True := ⟨⟩
theorem tw14269518776381551016 : True := ⟨⟩
theorem tw14270484188810063166 : True := ⟨⟩
theorem tw14272895709748240455 : True := ⟨⟩
theorem tw14307687198764817831 : True := ⟨⟩
theorem tw14347629431292811988 : True := ⟨⟩
theorem tw14377089049134099844 : True := ⟨⟩
theorem tw14379787438024613204 : True := ⟨⟩
theorem tw14411830773760433219 : True := ⟨⟩
theorem tw14464751702585519360 : True := ⟨⟩
theorem tw14470220737338381556 : True := ⟨⟩
theorem tw14491599339822425099 : True := ⟨⟩
theorem tw14723285897468332765 : True := ⟨⟩
theorem tw14753245825822816667 : True := ⟨⟩
theorem tw14841145773400637663 : True := ⟨⟩
theorem tw14851399980831752645 : True := ⟨⟩
theorem tw14865622112029113994 : True := ⟨⟩
theorem tw14972038430277253477 : True := ⟨⟩
theorem tw15079775056344551356 : True := ⟨⟩
theorem tw15118681551250170830 : True := ⟨⟩
theorem tw15263233088469086429 : True := ⟨⟩
theorem tw1527670166522844097 : True := ⟨⟩
theorem tw15339309305500765832 : True := ⟨⟩
theorem tw15348457003207050064 : True := ⟨⟩
theorem tw15373544347989850909 : True := ⟨⟩
theorem tw15462865100848520707 : True := ⟨⟩
theorem tw15470721081882575045 : True := ⟨⟩
theorem tw15569171074458975602 : True := ⟨⟩
theorem tw15639210373682815651 : True := ⟨⟩
theorem tw15657724648794966382 : True := ⟨⟩
theorem tw15667778296169088579 : True := ⟨⟩
theorem tw15902164632466465017 : True := ⟨⟩
theorem tw15915375409294811967 : True := ⟨⟩
theorem tw15961265032998659560 : True := ⟨⟩
theorem tw16216147563040642004 : True := ⟨⟩
theorem tw16370823625130810520 : True := ⟨⟩
theorem tw16451505501241251739 : True := ⟨⟩
theorem tw16464381851688173981 : True := ⟨⟩
theorem tw1660866043033822137 : True := ⟨⟩
theorem tw16632436399362319737 : True := ⟨⟩
theorem tw16801932918281679732 : True := ⟨⟩
theorem tw16914811099027908942 : True := ⟨⟩
theorem tw16948726328165291211 : True := ⟨⟩
theorem tw16983066920659062353 : True := ⟨⟩
theorem tw16997209708786679969 : True := ⟨⟩
theorem tw17389743616182948198 : True := ⟨⟩
theorem tw17417051698197696729 : True := ⟨⟩
theorem tw17444861058898362552 : True := ⟨⟩
theorem tw17467547302540086505 : True := ⟨⟩
theorem tw1753195748264432265 : True := ⟨⟩
theorem tw1754086261861382110 : True := ⟨⟩
theorem tw17555136304483818152 : True := ⟨⟩
theorem tw17560154312262401025 : True := ⟨⟩
theorem tw1756600491234676484 : True := ⟨⟩
theorem tw17582220723401789767 : True := ⟨⟩
theorem tw1760223044824406119 : True := ⟨⟩
theorem tw17656524326218035900 : True := ⟨⟩
theorem tw17933947650153036774 : True := ⟨⟩
theorem tw17946090394337348352 : True := ⟨⟩
theorem tw18089888669300166557 : True := ⟨⟩
theorem tw18097256926313113621 : True := ⟨⟩
theorem tw18158735113310705876 : True := ⟨⟩
theorem tw18285006270266852940 : True := ⟨⟩
theorem tw18383911057740386714 : True := ⟨⟩
theorem tw18389502490014285823 : True := ⟨⟩
theorem tw1867269261677431391 : True := ⟨⟩
theorem tw1904672906310654498 : True := ⟨⟩
theorem tw1997683866586712712 : True := ⟨⟩
theorem tw2089359442067397012 : True := ⟨⟩
theorem tw2207413452969287136 : True := ⟨⟩
theorem tw2293260855840441658 : True := ⟨⟩
theorem tw2449172293712269527 : True := ⟨⟩
theorem tw2556707223264194762 : True := ⟨⟩
theorem tw2639494619652884079 : True := ⟨⟩
theorem tw2769139949437375468 : True := ⟨⟩
theorem tw281760795977088941 : True := ⟨⟩
theorem tw2819558336937786990 : True := ⟨⟩
theorem tw2913827166196662756 : True := ⟨⟩
theorem tw2969399526624810936 : True := ⟨⟩
theorem tw3083763931346348578 : True := ⟨⟩
theorem tw3270367962714245911 : True := ⟨⟩
theorem tw3292647294878057379 : True := ⟨⟩
theorem tw3387308268881865272 : True := ⟨⟩
theorem tw3459028264366162591 : True := ⟨⟩
theorem tw346231177945289983 : True := ⟨⟩
theorem tw3592457637428532503 : True := ⟨⟩
theorem tw3611697507714319787 : True := ⟨⟩
theorem tw3664194625521820035 : True := ⟨⟩
theorem tw3676171260635737236 : True := ⟨⟩
theorem tw3681086618686807381 : True := ⟨⟩
theorem tw3731224903944402522 : True := ⟨⟩
theorem tw3732825755629495173 : True := ⟨⟩
theorem tw3808781540478448287 : True := ⟨⟩
theorem tw3843269035546893975 : True := ⟨⟩
theorem tw3849975769880039795 : True := ⟨⟩
theorem tw3874989057445468750 : True := ⟨⟩
theorem tw3915569445308054390 : True := ⟨⟩
theorem tw3924920227782665948 : True := ⟨⟩
theorem tw3948204700387426878 : True := ⟨⟩
theorem tw3985269845260591567 : True := ⟨⟩
theorem tw4272158509016154 : True := ⟨⟩
theorem tw4357454414801902586 : True := ⟨⟩
theorem tw4529285264526538810 : True := ⟨⟩
theorem tw453481295316133751 : True := ⟨⟩
theorem tw4778764401889579297 : True := ⟨⟩
theorem tw4801813772330628409 : True := ⟨⟩
theorem tw4923341428738674394 : True := ⟨⟩
theorem tw4958334351652096188 : True := ⟨⟩
theorem tw4967021566069797479 : True := ⟨⟩
theorem tw4987604224521085182 : True := ⟨⟩
theorem tw4998102814227011231 : True := ⟨⟩
theorem tw501138697164014893 : True := ⟨⟩
theorem tw5048161094885421623 : True := ⟨⟩
theorem tw5079390764610092443 : True := ⟨⟩
theorem tw5100337777694176306 : True := ⟨⟩
theorem tw5513354889909761140 : True := ⟨⟩
theorem tw5605011704409190050 : True := ⟨⟩
theorem tw5639860760961455083 : True := ⟨⟩
theorem tw5642802693055493805 : True := ⟨⟩
theorem tw5706356252967294044 : True := ⟨⟩
theorem tw570674582320114008 : True := ⟨⟩
theorem tw5768191330258677774 : True := ⟨⟩
theorem tw5820175351604813327 : True := ⟨⟩
theorem tw5855511156942489259 : True := ⟨⟩
theorem tw5890850433471080352 : True := ⟨⟩
theorem tw5918323440967233803 : True := ⟨⟩
theorem tw6103806820030046795 : True := ⟨⟩
theorem tw6140513305413934532 : True := ⟨⟩
theorem tw6196978192016075924 : True := ⟨⟩
theorem tw6222987621729524306 : True := ⟨⟩
theorem tw6264409807614512853 : True := ⟨⟩
theorem tw6272717748811743698 : True := ⟨⟩
theorem tw6477406589220417318 : True := ⟨⟩
theorem tw6581745923904789614 : True := ⟨⟩
theorem tw6591563897492393550 : True := ⟨⟩
theorem tw6669959716378260980 : True := ⟨⟩
theorem tw6862774254069459866 : True := ⟨⟩
theorem tw6978258005752041447 : True := ⟨⟩
theorem tw6988462476829821095 : True := ⟨⟩
theorem tw7053958804358403084 : True := ⟨⟩
theorem tw7273102323222598594 : True := ⟨⟩
theorem tw7339016638368497377 : True := ⟨⟩
theorem tw7498943310810092722 : True := ⟨⟩
theorem tw7538522008425368981 : True := ⟨⟩
theorem tw760100034272207980 : True := ⟨⟩
theorem tw7614386070040556324 : True := ⟨⟩
theorem tw7701509876118966100 : True := ⟨⟩
theorem tw7750646239344919954 : True := ⟨⟩
theorem tw7756495140458047243 : True := ⟨⟩
theorem tw7763088992973776718 : True := ⟨⟩
theorem tw7787013128210249102 : True := ⟨⟩
theorem tw7788002612869870813 : True := ⟨⟩
theorem tw7941809184583903307 : True := ⟨⟩
theorem tw7945760983436309871 : True := ⟨⟩
theorem tw8025962879718169331 : True := ⟨⟩
theorem tw8073811415482808032 : True := ⟨⟩
theorem tw8145221991160615866 : True := ⟨⟩
theorem tw816901562777943410 : True := ⟨⟩
theorem tw8235021645342266557 : True := ⟨⟩
theorem tw8340528438769897625 : True := ⟨⟩
theorem tw837490537749818195 : True := ⟨⟩
theorem tw8393444666832715493 : True := ⟨⟩
theorem tw8407784735681157401 : True := ⟨⟩
theorem tw846278190962328352 : True := ⟨⟩
theorem tw8469064609014502438 : True := ⟨⟩
theorem tw8520566563597589787 : True := ⟨⟩
theorem tw8677668663254912516 : True := ⟨⟩
theorem tw8711739543650821985 : True := ⟨⟩
theorem tw8822347439487825264 : True := ⟨⟩
theorem tw901567035834562221 : True := ⟨⟩
theorem tw9069395325058025913 : True := ⟨⟩
theorem tw907279833105303201 : True := ⟨⟩
theorem tw9140082896648681855 : True := ⟨⟩
theorem tw9170542015234077853 : True := ⟨⟩
theorem tw9242487146118841704 : True := ⟨⟩
theorem tw9246527668633551930 : True := ⟨⟩
theorem tw9246874682095320751 : True := ⟨⟩
theorem tw9259971117746042721 : True := ⟨⟩
theorem tw9281884942269513595 : True := ⟨⟩
theorem tw9284725061771836650 : True := ⟨⟩
theorem tw9339377408770853850 : True := ⟨⟩
theorem tw9371580162665291972 : True := ⟨⟩
theorem tw9390008132290012570 : True := ⟨⟩
theorem tw9429808345607203368 : True := ⟨⟩
theorem tw9438276923877254245 : True := ⟨⟩
theorem tw948710335001916209 : True := ⟨⟩
theorem tw9488394002882497065 : True := ⟨⟩
theorem tw9603622784274296783 : True := ⟨⟩
theorem tw9634283420296016891 : True := ⟨⟩
theorem tw966158060582482492 : True := ⟨⟩
theorem tw9676483781664618767 : True := ⟨⟩
theorem tw9700326032277572278 : True := ⟨⟩
theorem tw9843250820771003983 : True := ⟨⟩
theorem tw9912612495855093909 : True := ⟨⟩
end PySem.W.Fast
open PySem PySem.W PyProof.Rows
set_option maxRecDepth 100000 in
set_option maxHeartbeats 0 in
theorem PySem.Challenge.cw_pairwebs_k15_whole_pairings_holds : PySem.Challenge.rw_pairwebs_k15_whole_pairings.Holds := by
 w_on;o_law;k_head;(case hw=>w_witness2)
 k_fill
 refine K15.walk (l:=PySem.Challenge.rw_pairwebs_k15_whole_pairings) rfl rfl (fun w h Y=>PySem.W.kIn_of Y) ?F
 case F=>
  intro w mg fa h KX G hmg
  refine' K15.all_mk KX G hmg K15.good ⟨K15.dm ?_ ?_ ?_ ?_,K15.dm ?_ ?_ ?_ ?_,K15.dm ?_ ?_ ?_ ?_,K15.dm ?_ ?_ ?_ ?_,K15.dm ?_ ?_ ?_ ?_,K15.dm ?_ ?_ ?_ ?_,K15.dm ?_ ?_ ?_ ?_,K15.dm ?_ ?_ ?_ ?_,K15.dm ?_ ?_ ?_ ?_,K15.dm ?_ ?_ ?_ ?_,K15.dm ?_ ?_ ?_ ?_,K15.dm ?_ ?_ ?_ ?_,K15.dm ?_ ?_ ?_ ?_,K15.dm ?_ ?_ ?_ ?_,K15.dm ?_ ?_ ?_ ?_,K15.dm ?_ ?_ ?_ ?_,K15.dm ?_ ?_ ?_ ?_,K15.dm ?_ ?_ ?_ ?_,K15.dm ?_ ?_ ?_ ?_,K15.dm ?_ ?_ ?_ ?_,K15.dm ?_ ?_ ?_ ?_,K15.dm ?_ ?_ ?_ ?_,K15.dm ?_ ?_ ?_ ?_,K15.dm ?_ ?_ ?_ ?_,K15.dm ?_ ?_ ?_ ?_,K15.dm ?_ ?_ ?_ ?_,K15.dm ?_ ?_ ?_ ?_,K15.dm ?_ ?_ ?_ ?_,K15.dm ?_ ?_ ?_ ?_,K15.dm ?_ ?_ ?_ ?_,K15.dm ?_ ?_ ?_ ?_,K15.dm ?_ ?_ ?_ ?_,K15.dm ?_ ?_ ?_ ?_,K15.dm ?_ ?_ ?_ ?_,K15.dm ?_ ?_ ?_ ?_⟩ ?Z ?_
  case Z=>
   intro x hx
   simp only[Py.a1O',List.mem_cons,List.mem_nil_iff,or_false]at hx
   rcases hx with rfl|rfl|rfl|rfl|rfl|rfl|rfl|rfl|rfl|rfl|rfl|rfl|rfl|rfl|rfl|rfl|rfl|rfl|rfl|rfl|rfl<;>k_is
  all_goals first|k_is|skip
end
