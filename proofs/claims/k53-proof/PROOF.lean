import PyProof.Rows.All
import KE.KLam
import KE.KNestM
import PyProof.OldK
import Wide.All
import OpenK.AllK
import Wide.FinOn
import Lean
import PyProof.EqAt
import PyProof.EqKinds
import PyProof.TupleCall
import KE.KRevIter
import PyProof.Rows.SeqMore
import PyProof.Rows.ListMulArg
import PyProof.ZipIter
import PyProof.Rows.ZipGen
import PyProof.EnumMake
import PyProof.StrWalks
import PyProof.SliceStr2
import PyProof.StrBlockH
import PyProof.FString5
import PyProof.Rows.StrJoin2
import PyProof.Rows.Range3
import KE.KDictLaws
import PyProof.ConsumeWalk
import PyProof.SumWalkG
import PyProof.Rows.SeqCalls
import PyProof.Rows.SeqGen
import PyProof.Rows.MinMaxN
import PyProof.Rows.CallKwBuiltin
import PyProof.Rows.SortStr
import PyProof.StrOps2
import PyProof.Rows.StrMul
import PyProof.IsRules
import PyProof.Rows.SetFrom
import PyProof.CollectStr
import PyProof.Rows.SortRuns
import PyProof.Rows.SortKey
import KE.KSortTup
import PyProof.StrOps
import PyProof.RulesTry
import PyProof.StrLawsIn
import PyProof.StrLawsNeg
import PySem.Challenge.RW_nailhang_k53_whole_cords_fall_by_rules
set_option Elab.async false
set_option linter.all false
set_option maxRecDepth 100000
set_option maxHeartbeats 4000000
local macro_rules | `(tactic|omega) => `(tactic|lia)
noncomputable section
namespace L2
open PySem PySem.Spec PyProof.Rows
abbrev iP:=Sum Int Str
def D5:iP→Value→Bool
 |.inl k,v=>Value.isInt k v
 |.inr x,v=>Value.isStrOf x v
def HF(w:World):iP→Int
 |.inl k=>hashInt k
 |.inr x=>hashStr w x
theorem dY:∀{k:iP} {v:Value},D5 k v=true→(∃i t,k=Sum.inl i∧v=Value.int i t)∨(∃x t,k=Sum.inr x∧v=Value.str x t)
 |.inl i,v,h=>by
  obtain⟨t,e⟩:=Value.isInt_shape (k:=i) (v:=v) h
  exact .inl ⟨i,t,rfl,e⟩
 |.inr x,v,h=>by
  obtain⟨t,e⟩:=Value.isStrOf_shape (x:=x) (v:=v) h
  exact .inr ⟨x,t,rfl,e⟩
theorem Ez(a b:Int):decide ((Sum.inl a:iP)=Sum.inl b)=(a == b):=by
 by_cases e:a=b
 ·subst e;simp
 ·have h:¬(Sum.inl a:iP)=Sum.inl b:=fun q=>e (Sum.inl.inj q)
  rw[decide_eq_false h]
  exact(beq_eq_false_iff_ne.mpr e).symm
theorem EA(a b:Str):decide ((Sum.inr a:iP)=Sum.inr b)=decide (a=b):=by
 by_cases e:a=b
 ·subst e;simp
 ·have h:¬(Sum.inr a:iP)=Sum.inr b:=fun q=>e (Sum.inr.inj q)
  rw[decide_eq_false h,decide_eq_false e]
theorem EB(a:Int)(b:Str):decide ((Sum.inl a:iP)=Sum.inr b)=false:=decide_eq_false (fun q=>nomatch q)
theorem EC(a:Str)(b:Int):decide ((Sum.inr a:iP)=Sum.inl b)=false:=decide_eq_false (fun q=>nomatch q)
def pQ(prog:Program)(w:World):PySem.KeyKind prog w iP where
 is:=D5
 hash:=HF w
 inj:=fun v a b ha hb=>by
  rcases dY ha with⟨i,t,rfl,rfl⟩ |⟨x,t,rfl,rfl⟩
  ·rcases dY hb with⟨j,u,rfl,e⟩ |⟨y,u,rfl,e⟩
   ·injection e with e1 _;rw[e1]
   ·exact nomatch e
  ·rcases dY hb with⟨j,u,rfl,e⟩ |⟨y,u,rfl,e⟩
   ·exact nomatch e
   ·injection e with e1 _;rw[e1]
 byValue:=fun k v h=>by
  rcases dY h with⟨i,t,rfl,rfl⟩ |⟨x,t,rfl,rfl⟩ <;> rfl
 pyHash:=fun hv h=>by
  rcases dY hv with⟨i,t,rfl,rfl⟩ |⟨x,t,rfl,rfl⟩
  ·exact wpAny_pyHash_int h
  ·exact wpAny_pyHash_str h
 eqBool:=fun hu hv h=>by
  rcases dY hu with⟨i,t,rfl,rfl⟩ |⟨x,t,rfl,rfl⟩
  ·rcases dY hv with⟨j,u,rfl,rfl⟩ |⟨y,u,rfl,rfl⟩
   ·rw[Ez]at h;exact wpAny_eqBool_int h
   ·rw[EB]at h;exact SeqAt.EqAt.int_str i t y u _ _ _ _ h
  ·rcases dY hv with⟨j,u,rfl,rfl⟩ |⟨y,u,rfl,rfl⟩
   ·rw[EC]at h;exact SeqAt.EqAt.str_int x t j u _ _ _ _ h
   ·rw[EA]at h;exact wpAny_eqBool_str h
 «strs»:=fun k x t v h=>by
  rcases dY h with⟨i,u,rfl,e⟩ |⟨y,u,rfl,e⟩
  ·exact nomatch e
  ·injection e with e1 _
   subst e1
   cases v <;> rfl
end L2
namespace L2
open PySem PySem.Spec PyProof.Rows
inductive V where
 |non |bl (b:Bool) |int (i:Int) |str (x:Str) |byt (b:Array UInt8) |flt (b:UInt64) |ref (a:Addr) |ty (n:String)
 deriving DecidableEq
def RelV:V→Value→Prop
 |.non,u=>u=Value.none
 |.bl b,u=>u=Value.bool b
 |.int i,u=>∃t,u=Value.int i t
 |.str x,u=>∃t,u=Value.str x t
 |.byt b,u=>∃t,u=Value.bytes b t
 |.flt b,u=>∃t,u=Value.float b t
 |.ref a,u=>u=Value.ref a
 |.ty n,u=>u=Value.type n
abbrev Vals:List V→List Value→Prop:=Paired RelV
theorem Vals.length{xs:List V}{us:List Value}(r:Vals xs us):xs.length=us.length:=Paired.length r
theorem Vals.get:∀{xs:List V} {us:List Value} {i:Nat} {x:V},Vals xs us→xs[i]? =some x→∃u,us[i]? =some u∧RelV x u
 |_,_,_,_,.nil,e=>by simp at e
 |_,_,0,_,.cons r _,e=>by simp at e;subst e;exact⟨_,rfl,r⟩
 |_,_,i+1,x,.cons _ t,e=>by
  obtain⟨u,h1,h2⟩:=Vals.get (i:=i) (x:=x) t (by simpa using e)
  exact⟨u,by simpa using h1,h2⟩
theorem Vals.append:∀{xs ys:List V} {us ws:List Value},Vals xs us→Vals ys ws→Vals (xs++ys) (us++ws)
 |_,_,_,_,.nil,s=>s
 |_,_,_,_,.cons r t,s=>.cons r (Vals.append t s)
theorem Vals.take:∀{xs:List V} {us:List Value} (n:Nat),Vals xs us→Vals (xs.take n) (us.take n)
 |_,_,0,_=>.nil
 |_,_,_+1,.nil=>.nil
 |_,_,n+1,.cons r t=>.cons r (Vals.take n t)
theorem Vals.drop:∀{xs:List V} {us:List Value} (n:Nat),Vals xs us→Vals (xs.drop n) (us.drop n)
 |_,_,0,r=>r
 |_,_,_+1,.nil=>.nil
 |_,_,n+1,.cons _ t=>Vals.drop n t
def RelO:Option V→Option Value→Prop
 |some v,some u=>RelV v u
 |none,none=>True
 |_,_=>False
def KV{κ:Type}:List (κ×V)→List (κ×Value)→Prop:=Paired fun(p:κ×V) (q:κ×Value)=>p.1=q.1∧RelV p.2 q.2
def kV:iP→V
 |.inl i=>.int i
 |.inr x=>.str x
inductive HO where
 /-- a list -/
 |lst (xs:List V)
 /-- a tuple (never changes) -/
 |tup (xs:List V)
 /-- a dict whose keys are ints and xn;one whose keys are tuples of ints and xn (the empty one is both) -/
 |dK (kvs:List (iP×V)) |dT (kvs:List (List iP×V))
 /-- a set of ints:its members,its size -/
 |set (S:Int→Bool) (n:Nat)
 /-- an instance of the class at C,its dict at dx,its attributes -/
 |ins (C dx:Addr) (fs:List (Str×V))
 /-- the dict of the instance at x -/
 |own (x:Addr)
 /-- the dict of an exception -/
 |xd (fs:List (Str×V))
 /-- a bound method,f of x -/
 |met (f x:Addr)
 /-- a range object lo,lo+1,.. below hi -/
 |rng (lo hi:Int)
 /-- a thing that is known to the object (the script;a dict while a loop walks it):read,never written while it is so -/
 |frz (o:Obj) (u:HO)
 /-- a code object's table -/
 |tbl (q:Str)
 /-- any other thing,by what is true of its one object (a def of one's own:SetO a S n:=HO.ext fun h=> ..) -/
 |ext (φ:Heap→Prop)
abbrev Hp:=Addr→Option HO
def fS(H:Hp)(a:Addr)(o:HO):Hp:=fun b=>if b=a then some o else H b
theorem dZ{H:Hp}{a:Addr}{o:HO}:fS H a o a=some o:=by unfold fS;rw[if_pos rfl]
theorem bq{H:Hp}{a b:Addr}{o:HO}(h:b≠a):fS H a o b=H b:=by unfold fS;rw[if_neg h]
theorem cQ{H:Hp}{a b:Addr}{o:HO}(h:H a=some o)(h':H b=none):a≠b:=by
 intro e;subst e;rw[h]at h';cases h'
section
variable (P:Program) (w:World)
def ObjOk(H:Hp)(h:Heap)(a:Addr):HO→Prop
 |.lst xs=>xs.length≤sizeLine∧∃(its:List Value) (n:Nat),Vals xs its∧h.get? a=some {cls:=.type "list",data:=.seq its.toArray n}
 |.tup xs=>xs.length≤sizeLine∧∃its:List Value,Vals xs its∧IsTup h a its.toArray
 |.dK kvs=>kvs.length≤sizeLine∧(a == sysModules)=false∧∃vs,KV kvs vs∧h.DictOf (pQ P w) a vs
 |.dT kvs=>kvs.length≤sizeLine∧(a == sysModules)=false∧∃xs:List (List iP×Addr×Value),
   Paired (fun(p:List iP×V) (q:List iP×Addr×Value)=>p.1=q.1∧H q.2.1=some (.tup (p.1.map kV))∧RelV p.2 q.2.2) kvs xs∧
   ∃o es ep,h.get? a=some o∧o.ExactDict∧o.data=.dict es ep∧es.toList=xs.map (entryOfKey (tupleKind (pQ P w)))∧(xs.map (·.1)).Nodup
 |.set S n=>h.SetOf (intKind P w) a S n
 |.ins C dx fs=>H dx=some (.own a)∧fs.length≤1000∧dx≠a∧h.get? a=some (PySem.W.instObj C dx)∧
   ∃mA,h.Ns1 dx mA∧(∀f,RelO (fs.lookup f) (mA f))∧PySem.Within mA (fs.map (·.1))
 |.own _=>∃o,h.get? a=some o
 |.xd fs=>∃mA,h.Ns1 a mA∧∀f,RelO (fs.lookup f) (mA f)
 |.rng lo hi=>∃t u v,h.get? a=some {cls:=.type "range",data:=.fields #[.int lo t,.int hi u,.int 1 v]}
 |.frz o u=>h.get? a=some o∧ObjOk H h a u
 |.tbl q=>∃ps:Array Value,h.get? a=some (PySem.W.tabObj ps)∧TriplesOk ps.toList∧∀pos cv,codeAmong pos ps.toList=some cv→∃c,cv=Value.ref c∧H c=some (.own a)∧h.CodeRec cv q
 |.met f x=>h.get? a=some (PySem.W.methodObj (.ref f) (.ref x))
 |.ext φ=>φ h∧(∃o,h.get? a=some o)∧∀h1 h2:Heap,φ h1→(∀o,h1.get? a=some o→h2.get? a=some o)→φ h2
def HOk(H:Hp)(h:Heap):Prop:=∀a o,H a=some o→ObjOk P w H h a o
end
section
variable {P:Program} {w:World} {H H':Hp} {h h':Heap} {a:Addr} {o:HO}
theorem ObjOk.lt(x:ObjOk P w H h a o):a < h.objs.size:=by
 cases o with
 |lst xs=>obtain⟨_,_,_,_,e⟩:=x;exact Heap.lt_size e
 |tup xs=>obtain⟨_,_,_,p⟩:=x;exact p.lt
 |dK kvs=>obtain⟨_,_,_,_,o,_,_,e,_⟩:=x;exact Heap.lt_size e
 |dT kvs=>obtain⟨_,_,_,_,o,_,_,e,_⟩:=x;exact Heap.lt_size e
 |set S n=>obtain⟨o,_,_,_,e,_⟩:=x;exact Heap.lt_size e
 |ins C dx fs=>obtain⟨_,_,_,e,_⟩:=x;exact Heap.lt_size e
 |own y=>obtain⟨_,e⟩:=x;exact Heap.lt_size e
 |xd fs=>obtain⟨_,⟨_,_,_,e,_⟩,_⟩:=x;exact Heap.lt_size e
 |rng lo hi=>obtain⟨_,_,_,e⟩:=x;exact Heap.lt_size e
 |frz ob u=>obtain⟨e,_⟩:=x;exact Heap.lt_size e
 |tbl q=>obtain⟨_,e,_⟩:=x;exact Heap.lt_size e
 |met f y=>exact Heap.lt_size (show h.get? a=some _ from x)
 |ext φ=>obtain⟨_,⟨_,e⟩,_⟩:=x;exact Heap.lt_size e
theorem Paired.mapP{α β:Type}{F G:α→β→Prop}{l₁:List α}{l₂:List β}(h:Paired F l₁ l₂)(f:∀a b,F a b→G a b):Paired G l₁ l₂:=by
 induction h with
 |nil=>exact .nil
 |cons r _ t=>exact .cons (f _ _ r) t
theorem ObjOk.stay(x:ObjOk P w H h a o)(k:∀b u,(b=a∨H b=some (.own a))→h.get? b=some u→h'.get? b=some u)
  (ho:∀b,H b=some (.own a)→H' b=some (.own a)) (ht:∀b xs,H b=some (.tup xs)→H' b=some (.tup xs)):ObjOk P w H' h' a o:=by
 induction o with
 |lst xs=>obtain⟨z,its,n,r,e⟩:=x;exact⟨z,its,n,r,k _ _ (.inl rfl) e⟩
 |tup xs=>obtain⟨z,its,r,ob,e,c⟩:=x;exact⟨z,its,r,ob,k _ _ (.inl rfl) e,c⟩
 |dK kvs=>obtain⟨z,y,vs,r,ob,es,ep,e,c⟩:=x;exact⟨z,y,vs,r,ob,es,ep,k _ _ (.inl rfl) e,c⟩
 |dT kvs=>
  obtain⟨z,y,xs,r,ob,es,ep,e,c⟩:=x
  exact⟨z,y,xs,Paired.mapP r fun p q z=>⟨z.1,ht _ _ z.2.1,z.2.2⟩,ob,es,ep,k _ _ (.inl rfl) e,c⟩
 |set S n=>obtain⟨ob,es,ep,t,e,c⟩:=x;exact⟨ob,es,ep,t,k _ _ (.inl rfl) e,c⟩
 |ins C dx fs=>
  obtain⟨d,z,ne,e,mA,⟨od,es,ep,e2,c⟩,r⟩:=x
  exact⟨ho _ d,z,ne,k _ _ (.inl rfl) e,mA,⟨od,es,ep,k _ _ (.inr d) e2,c⟩,r⟩
 |own y=>obtain⟨ob,e⟩:=x;exact⟨ob,k _ _ (.inl rfl) e⟩
 |xd fs=>obtain⟨mA,⟨od,es,ep,e,c⟩,r⟩:=x;exact⟨mA,⟨od,es,ep,k _ _ (.inl rfl) e,c⟩,r⟩
 |rng lo hi=>obtain⟨t,u,v,e⟩:=x;exact⟨t,u,v,k _ _ (.inl rfl) e⟩
 |frz ob u ih=>obtain⟨e,q⟩:=x;exact⟨k _ _ (.inl rfl) e,ih q⟩
 |tbl q=>
  obtain⟨ps,e,t,r⟩:=x
  refine⟨ps,k _ _ (.inl rfl) e,t,fun pos cv z=>?_⟩
  obtain⟨c,ec,ho',c2,oc,vs,tq,hc,hoc,hd⟩:=r pos cv z
  subst ec
  cases hc
  exact⟨c,rfl,ho _ ho',c,oc,vs,tq,rfl,k _ _ (.inr ho') hoc,hd⟩
 |met f y=>
  have e:h.get? a=some (PySem.W.methodObj (.ref f) (.ref y)):=x
  show h'.get? a=some (PySem.W.methodObj (.ref f) (.ref y))
  exact k a _ (.inl rfl) e
 |ext φ=>obtain⟨p,⟨o,e⟩,st⟩:=x;exact⟨st _ _ p fun o q=>k _ _ (.inl rfl) q,⟨o,k _ _ (.inl rfl) e⟩,st⟩
theorem HOk.lt(x:HOk P w H h)(e:H a=some o):a < h.objs.size:=(x a o e).lt
theorem HOk.fresh(x:HOk P w H h)(e:h.objs.size≤a):H a=none:=by
 cases q:H a with
 |none=>rfl
 |some u=>exact absurd (Nat.lt_of_lt_of_le (x.lt q) e) (Nat.lt_irrefl _)
theorem HOk.kept(x:HOk P w H h)(k:∀b u,h.get? b=some u→h'.get? b=some u):HOk P w H h':=fun a o e=>
 (x a o e).stay (fun b u _ q=>k b u q) (fun _ q=>q) fun _ _ q=>q
theorem HOk.laid(x:HOk P w H h)(k:∀b u,h.get? b=some u→h'.get? b=some u)(hp:h.objs.size≤a)(new:ObjOk P w (fS H a o) h' a o):HOk P w (fS H a o) h':=fun b u e=>by
 have hn:=x.fresh hp
 by_cases hb:b=a
 ·subst hb;rw[dZ]at e;cases e;exact new
 ·rw[bq hb]at e
  exact(x b u e).stay (fun c v _ q=>k c v q) (fun c q=>by rw[bq (cQ q hn)];exact q) fun c xs q=>by rw[bq (cQ q hn)];exact q
end
def Rd(H:Hp)(a:Addr)(u:HO):Prop:=H a=some u∨∃o,H a=some (.frz o u)
theorem Rd.ok{P:Program}{w:World}{H:Hp}{h:Heap}{a:Addr}{u:HO}(r:Rd H a u)(x:HOk P w H h):ObjOk P w H h a u:=by
 rcases r with r |⟨o,r⟩
 ·exact x a u r
 ·obtain⟨_,q⟩:=x a _ r
  exact q
def Hx:Option HO→Prop
 |some (.lst _)=>True
 |some (.dK _)=>True
 |some (.dT _)=>True
 |some (.set _ _)=>True
 |some (.ins _ _ _)=>True
 |some (.ext _)=>True
 |_=>False
section
variable {P:Program} {w:World} {H:Hp} {h h':Heap} {x e:Addr} {o':HO}
theorem HOk.write(ok:HOk P w H h)(mu:Hx (H x))(he:e=x∨H e=some (.own x))(k:∀b u,b≠e→h.get? b=some u→h'.get? b=some u)(heo:∃u,h'.get? e=some u)
  (new:ObjOk P w (fS H x o') h' x o'):HOk P w (fS H x o') h':=fun b u q=>by
 have nown:∀c y,H c=some (.own y)→c≠x:=fun c y r z=>by subst z;rw[r]at mu;exact mu
 have ntup:∀c xs,H c=some (.tup xs)→c≠x:=fun c xs r z=>by subst z;rw[r]at mu;exact mu
 by_cases hb:b=x
 ·subst hb;rw[dZ]at q;cases q;exact new
 ·rw[bq hb]at q
  by_cases hbe:b=e
  ·have q':H b=some (.own x):=by
    rcases he with z |z
    ·exact absurd (hbe.trans z) hb
    ·rw[hbe];exact z
   rw[q]at q';cases q'
   obtain⟨v,hv⟩:=heo
   exact⟨v,by rw[hbe];exact hv⟩
  ·refine(ok b u q).stay (fun c v hc r=>k c v ?_ r) (fun c r=>by rw[bq (nown c b r)];exact r) fun c xs r=>by rw[bq (ntup c xs r)];exact r
   rcases hc with rfl |hc
   ·exact hbe
   ·rintro rfl
    rcases he with z |z
    ·exact nown c b hc z
    ·rw[hc]at z;cases z;exact hb rfl
end
structure Un (fs ex:List Addr) (H H':Hp) (h h':Heap):Prop where
 keep:∀b o,h.get? b=some o→H b=none→b∉fs→b∉ex→h'.get? b=some o
 slot:∀b o,h.get? b=some o→H b=none→b∈fs→b∉ex→∃sl,h'.get? b=some {o with slots:=sl}
 free:∀b o,h.get? b=some o→H b=none→b∉ex→H' b=none
 there:∀b o,h.get? b=some o→b∉ex→∃o',h'.get? b=some o'
 tups:∀b xs,H b=some (.tup xs)→H' b=some (.tup xs)
 frzs:∀b o u,H b=some (.frz o u)→H' b=some (.frz o u)
 tbls:∀b ps,H b=some (.tbl ps)→H' b=some (.tbl ps)
section
variable {fs fs' ex ex':List Addr} {H H1 H2:Hp} {h h1 h2 h':Heap} {a x e:Addr} {o:HO}
theorem Un.any(u:Un fs ex H H1 h h1){b:Addr}{ob:Obj}(q:h.get? b=some ob)(n:H b=none)(hx:b∉ex):∃sl,h1.get? b=some {ob with slots:=sl}:=by
 by_cases hb:b∈fs
 ·exact u.slot b ob q n hb hx
 ·exact⟨ob.slots,u.keep b ob q n hb hx⟩
theorem Un.kept(k:∀b u,h.get? b=some u→h'.get? b=some u):Un fs ex H H h h':=
 ⟨fun b ob q _ _ _=>k b ob q,fun b ob q _ _ _=>⟨ob.slots,k b ob q⟩,fun _ _ _ n _=>n,fun b ob q _=>⟨ob,k b ob q⟩,fun _ _ q=>q,fun _ _ _ q=>q,fun _ _ q=>q⟩
theorem Un.refl:Un fs ex H H h h:=Un.kept fun _ _ q=>q
theorem Un.laid(k:∀b u,h.get? b=some u→h'.get? b=some u)(hp:h.objs.size≤a)(hn:H a=none):Un fs ex H (fS H a o) h h' where
 keep:=fun b u q _ _ _=>k b u q
 slot:=fun b u q _ _ _=>⟨u.slots,k b u q⟩
 free:=fun b u q n _=>by rw[bq (Nat.ne_of_lt (Nat.lt_of_lt_of_le (Heap.lt_size q) hp))];exact n
 there:=fun b u q _=>⟨u,k b u q⟩
 tups:=fun b xs q=>by rw[bq (cQ q hn)];exact q
 frzs:=fun b u xs q=>by rw[bq (cQ q hn)];exact q
 tbls:=fun b ps q=>by rw[bq (cQ q hn)];exact q
theorem Un.write(mu:Hx (H x))(he:e=x∨H e=some (.own x))(k:∀b u,b≠e→h.get? b=some u→h'.get? b=some u)(heo:∃u,h'.get? e=some u):Un fs ex H (fS H x o) h h':=by
 have hx:∀b,H b=none→b≠x:=fun b n z=>by subst z;rw[n]at mu;exact mu
 have hb:∀b,H b=none→b≠e:=fun b n z=>by
  subst z
  rcases he with r |r
  ·exact hx b n r
  ·rw[n]at r;cases r
 have hm:∀b u,H b=some u→¬Hx (some u)→b≠x:=fun b u q nm z=>by subst z;rw[q]at mu;exact nm mu
 refine⟨fun b u q n _ _=>k b u (hb b n) q,fun b u q n _ _=>⟨u.slots,k b u (hb b n) q⟩,fun b u q n _=>by rw[bq (hx b n)];exact n,fun b u q _=>?_,
  fun b xs q=>by rw[bq (hm b _ q fun z=>z)];exact q,fun b u xs q=>by rw[bq (hm b _ q fun z=>z)];exact q,fun b ps q=>by rw[bq (hm b _ q fun z=>z)];exact q⟩
 by_cases hbe:b=e
 ·subst hbe;exact heo
 ·exact⟨u,k b u hbe q⟩
end
def Hy(h:Heap)(H:Hp):List Addr:=(List.range h.objs.size).filter fun a=>(H a).isSome
def uO(h:Heap)(H:Hp):Heap:=PySem.W.hideAll h (Hy h H)
theorem yJ(h:Heap)(H:Hp):(uO h H).objs.size=h.objs.size:=PySem.W.hideAll_size _ _
theorem qd{h:Heap}{H:Hp}{b:Addr}{o:Obj}(e:h.get? b=some o)(n:H b=none):(uO h H).get? b=some o:=
 PySem.W.hideAll_get _ e fun hm=>by
  have q:(H b).isSome=true:=(List.mem_filter.mp hm).2
  rw[n]at q;simp at q
theorem CC{h:Heap}{H:Hp}{b:Addr}{o:Obj}(e:(uO h H).get? b=some o):h.get? b=some o∧H b=none:=by
 have e':h.get? b=some o:=PySem.W.of_hideAll (Hy h H) e
 refine⟨e',?_⟩
 cases q:H b with
 |none=>rfl
 |some x=>
  have hm:b∈Hy h H:=List.mem_filter.mpr ⟨List.mem_range.mpr (Heap.lt_size e'),by simp[q]⟩
  have z:(uO h H).get? b=none:=PySem.W.hideAll_none (Hy h H) hm
  rw[z]at e;cases e
end L2
namespace L2
open PySem PySem.Spec PyProof.Rows
def An(K:PySem.W.Frag):Option Addr:=match PySem.W.nsIn K mainGlobals "in_told_order" with
 |some (some (.ref f))=>match K.lookup f with
  |some ⟨_,_,.func fd,_⟩=>match fd.code with
   |.ref c=>match K.lookup c with
    |some ⟨_,_,.fields vs,_⟩=>match (vs[11]? :Option Value)with
     |some (.ref P)=>some P
     |_=>none
    |_=>none
   |_=>none
  |_=>none
 |_=>none
def pv(K:PySem.W.Frag)(b:Addr):Option Str:=if An K=some b then some (Str.ofString "in_told_order.<locals>.<lambda>")else none
structure Mod (K:PySem.W.Frag) (mg:Str→Option Value) (base:Heap):Prop where
 kin:K.In base
 glob:base.Ns mainGlobals mg
 blt:∃mb,base.Ns builtinsNs mb∧∀x:Str,x≠"__name__"→mb x=bootBuiltins x
 nolimit:base.NoLimit
 bmain:∃bm ob,mg "__builtins__"=some (.ref bm)∧bm≠builtinsNs∧base.get? bm=some ob∧ob.cls=.type "module"∧ob.dict=some builtinsNs∧ob.data=.plain
structure Cx where
 prog:Program
 w:World
 K:PySem.W.Frag
 mg:Str→Option Value
 base:Heap
 A:Around
 N:List Str
 s₀:Shared
 H₀:Hp
 env:Env
 outer:List Env
 stack:List Env
 ex:List Addr
 fn:Str→Bool
 calm:Bool
 pn:List (Addr×Obj)
 xe:Value→Shared→Prop
def Al(l:List Env):List Addr:=l.filterMap (·.frame)
abbrev Cx.fs(X:Cx):List Addr:=Al X.outer
def Gq(sc:Scope)(x:Str):Prop:=sc.names.lookup x=some .local∨sc.names.lookup x=some .cell∨sc.names.lookup x=some .free
def D6(sc:Scope)(x:Str):Prop:=sc.names.lookup x=some .local∨sc.names.lookup x=some .cell
def HG(env:Env)(h:Heap)(m:Str→Option Value)(x:Str)(u:Value):Prop:=
 (env.kindOf x=some .local∧m x=some u)∨((env.kindOf x=some .cell∨env.kindOf x=some .free)∧∃c,env.cells.lookup x=some c∧h.IsCell c (some u))
structure Cx.Ok (X:Cx):Prop where
 mod:Mod X.K X.mg X.base
 kind:X.env.scope.kind=.function
 glob:X.env.globals=mainGlobals
 blt:X.env.builtins=builtinsNs
 above:X.s₀.heap.objs.size≤X.env.locals
 inj:∀x y c,X.env.cells.lookup x=some c→X.env.cells.lookup y=some c→x=y
 has:∀x,(X.env.kindOf x=some .cell∨X.env.kindOf x=some .free)→∃c,X.env.cells.lookup x=some c
 cab:∀x c,X.fn x=true→X.env.cells.lookup x=some c→X.s₀.heap.objs.size≤c
 hd:X.calm=true→X.A.handled=none
 frames:X.A.frames=some X.stack
 stk:X.stack=X.outer∨(X.stack=X.env::X.outer∧X.env.frame=some X.env.locals)
 exf:∀b∈X.ex,b≠X.env.locals∧∀x c,X.env.cells.lookup x=some c→c≠b
 bs:∀b o,X.base.get? b=some o→X.s₀.heap.get? b=some o∧X.H₀ b=none
 bsz:X.base.objs.size≤X.s₀.heap.objs.size
 noex:∀b o,X.base.get? b=some o→b∉X.ex
 exfs:∀b∈X.ex,b∉X.fs
 funs:X.s₀.heap.FunFrames X.base X.outer
 frf:∀b∈X.fs,X.H₀ b=none
 tab:∀b q,pv X.K b=some q→X.H₀ b=some (.tbl q)
structure Inv (X:Cx) (pins:List (Addr×Obj)) (σ:List (Option V)) (H:Hp) (s:Shared):Prop where
 ok:X.Ok
 os:s.os=X.s₀.os
 bare:AllBare s.gens
 base:Un X.fs X.ex X.H₀ H X.s₀.heap s.heap
 loc:∃m,s.heap.Ns X.env.locals m∧∀(i:Nat) (x:Str) (v:V),X.N[i]? =some x→σ[i]? =some (some v)→Gq X.env.scope x→∃u,RelV v u∧HG X.env s.heap m x u
 cell:∀x c,X.env.cells.lookup x=some c→∃v,s.heap.IsCell c v
 free:H X.env.locals=none
 freeC:∀x c,X.env.cells.lookup x=some c→H c=none
 pin:∀p∈X.pn++pins,s.heap.get? p.1=some p.2∧H p.1=none∧p.1≠X.env.locals∧p.1∉X.fs∧∀v,p.2.data≠ .cell v
 hok:HOk X.prog X.w H s.heap
 len:σ.length=X.N.length
section
variable {X:Cx} {pins:List (Addr×Obj)} {σ:List (Option V)} {H H':Hp} {s:Shared} {h':Heap}
theorem Cx.Ok.nofr(ok:X.Ok){b:Addr}{o:Obj}(e:X.base.get? b=some o):b∉X.fs:=fun hb=>by
 have:=(ok.funs.mem hb).1
 rw[e]at this;cases this
theorem Inv.bs(I:Inv X pins σ H s):∀b o,X.base.get? b=some o→s.heap.get? b=some o∧H b=none:=fun b o e=>
 ⟨I.base.keep b o (I.ok.bs b o e).1 (I.ok.bs b o e).2 (I.ok.nofr e) (I.ok.noex b o e),I.base.free b o (I.ok.bs b o e).1 (I.ok.bs b o e).2 (I.ok.noex b o e)⟩
theorem Inv.bk(I:Inv X pins σ H s):∀b o,X.base.get? b=some o→s.heap.get? b=some o:=fun b o e=>(I.bs b o e).1
theorem Inv.mod(I:Inv X pins σ H s):Mod X.K X.mg X.base:=I.ok.mod
theorem Inv.tab(I:Inv X pins σ H s):∀b q,pv X.K b=some q→H b=some (.tbl q):=fun b q e=>I.base.tbls b q (I.ok.tab b q e)
theorem Inv.kIn(I:Inv X pins σ H s):X.K.In s.heap:=I.ok.mod.kin.keeps I.bk
theorem Inv.nolimit(I:Inv X pins σ H s):s.heap.NoLimit:=I.ok.mod.nolimit.keeps I.bk
theorem Inv.lt(I:Inv X pins σ H s):X.env.locals < s.heap.objs.size:=let ⟨_,hn,_⟩:=I.loc;hn.lt
theorem Inv.sz(I:Inv X pins σ H s):X.s₀.heap.objs.size≤s.heap.objs.size:=Nat.le_trans I.ok.above (Nat.le_of_lt I.lt)
theorem Inv.nofs(I:Inv X pins σ H s){a:Addr}(h:s.heap.objs.size≤a):a∉X.fs:=fun hb=>by
 obtain⟨_,o,ho,_⟩:=I.ok.funs.mem hb
 exact absurd (Nat.lt_of_lt_of_le (Heap.lt_size ho) (Nat.le_trans I.sz h)) (Nat.lt_irrefl _)
theorem Inv.cne(I:Inv X pins σ H s):∀x c,X.env.cells.lookup x=some c→c≠X.env.locals:=fun x c e z=>by
 obtain⟨v,o,ho,hd⟩:=I.cell x c e
 obtain⟨m,⟨o',es,ep,ho',hd',_⟩,_⟩:=I.loc
 rw[z,ho']at ho;cases ho;rw[hd']at hd;cases hd
theorem Inv.funs(I:Inv X pins σ H s):s.heap.FunFrames X.base X.outer:=by
 have all:∀(l:List Env),(∀b∈Al l,b∈X.fs)→X.s₀.heap.FunFrames X.base l→s.heap.FunFrames X.base l:=by
  intro l
  induction l with
  |nil=>intro _ _;trivial
  |cons env r ih=>
   intro hs hl
   obtain⟨hk,⟨L,o,hf,hn,ho,hd⟩,hr⟩:=hl
   have hL:L∈X.fs:=hs L (by unfold Al;rw[List.filterMap_cons,hf];exact List.mem_cons_self)
   obtain⟨sl,e⟩:=I.base.slot L o ho (I.ok.frf L hL) hL fun z=>I.ok.exfs L z hL
   exact⟨hk,⟨L,_,hf,hn,e,hd⟩,ih (fun b hb=>hs b (by unfold Al;rw[List.filterMap_cons,hf];exact List.mem_cons_of_mem _ hb)) hr⟩
 exact all X.outer (fun _ hb=>hb) I.ok.funs
theorem Inv.stack(I:Inv X pins σ H s):s.heap.FunFrames X.base X.stack:=by
 rcases I.ok.stk with e |⟨e,hf⟩
 ·rw[e];exact I.funs
 ·rw[e]
  obtain⟨m,hn,_⟩:=I.loc
  refine .cons (by rw[I.ok.kind];decide) hf hn ?_ I.funs
  exact Heap.get?_none_of_le (Nat.le_trans I.ok.bsz I.ok.above)
theorem Inv.stkSub(I:Inv X pins σ H s):∀b∈Al X.stack,b∈X.env.locals::X.fs:=fun b hb=>by
 rcases I.ok.stk with e |⟨e,hf⟩
 ·rw[e]at hb;exact List.mem_cons_of_mem _ hb
 ·rw[e]at hb
  unfold Al at hb
  rw[List.filterMap_cons,hf]at hb
  exact hb
theorem Inv.stkFree(I:Inv X pins σ H s):∀b∈Al X.stack,H b=none:=fun b hb=>by
 rcases List.mem_cons.mp (I.stkSub b hb)with e |hb
 ·rw[e];exact I.free
 ·obtain⟨_,o,ho,_⟩:=I.ok.funs.mem hb
  exact I.base.free b o ho (I.ok.frf b hb) fun z=>I.ok.exfs b z hb
theorem Inv.step{g':Array GenState}{t':Nat}{d':Drawn}{ch:List Addr}(I:Inv X pins σ H s)
  (hch:∀b∈ch,(b∈X.ex∨X.s₀.heap.objs.size≤b)∧b≠X.env.locals∧(∀x c,X.env.cells.lookup x=some c→c≠b)∧∀p∈X.pn++pins,p.1≠b)
  (keep:∀b o,b≠X.env.locals→b∉X.fs→b∉ch→s.heap.get? b=some o→H b=none→h'.get? b=some o)
  (slot:∀b o,b≠X.env.locals→b∈X.fs→b∉ch→s.heap.get? b=some o→H b=none→∃sl,h'.get? b=some {o with slots:=sl}) (free:∀b o,b∉ch→s.heap.get? b=some o→H b=none→H' b=none)
  (there:∀b o,b∉ch→s.heap.get? b=some o→∃o',h'.get? b=some o')
  (tups:∀b xs,H b=some (.tup xs)→H' b=some (.tup xs)) (frzs:∀b o u,H b=some (.frz o u)→H' b=some (.frz o u)) (tbls:∀b ps,H b=some (.tbl ps)→H' b=some (.tbl ps))
  (ns:∀m,s.heap.Ns X.env.locals m→h'.Ns X.env.locals m) (hok:HOk X.prog X.w H' h') (hg:AllBare g'):
  Inv X pins σ H' {s with heap:=h',gens:=g',drawn:=d',toks:=t'}:=by
 have neL:∀b o,X.s₀.heap.get? b=some o→b≠X.env.locals:=fun b o e=>Nat.ne_of_lt (Nat.lt_of_lt_of_le (Heap.lt_size e) I.ok.above)
 have neC:∀b o,X.s₀.heap.get? b=some o→b∉X.ex→b∉ch:=fun b o e hx hb=>by
  rcases(hch b hb).1 with z |z
  ·exact hx z
  ·exact absurd (Nat.lt_of_lt_of_le (Heap.lt_size e) z) (Nat.lt_irrefl _)
 have cellK:∀x c,X.env.cells.lookup x=some c→∀v,s.heap.IsCell c v→h'.IsCell c v:=fun x c e v ⟨o,ho,hd⟩=>by
  have nch:c∉ch:=fun z=>(hch c z).2.2.1 x c e rfl
  by_cases hc:c∈X.fs
  ·obtain⟨sl,q⟩:=slot c o (I.cne x c e) hc nch ho (I.freeC x c e)
   exact⟨_,q,hd⟩
  ·exact⟨o,keep c o (I.cne x c e) hc nch ho (I.freeC x c e),hd⟩
 refine⟨I.ok,I.os,hg,⟨fun b o e n hb hx=>?_,fun b o e n hb hx=>?_,fun b o e n hx=>?_,fun b o e hx=>?_,fun b xs e=>tups b xs (I.base.tups b xs e),fun b o xs e=>frzs b o xs (I.base.frzs b o xs e),fun b ps e=>?_⟩,?_,fun x c e=>?_,?_,fun x c e=>?_,fun p hp=>?_,hok,I.len⟩
 ·exact keep b o (neL b o e) hb (neC b o e hx) (I.base.keep b o e n hb hx) (I.base.free b o e n hx)
 ·obtain⟨sl,e1⟩:=I.base.slot b o e n hb hx
  obtain⟨sl',e2⟩:=slot b _ (neL b o e) hb (neC b o e hx) e1 (I.base.free b o e n hx)
  exact⟨sl',e2⟩
 ·obtain⟨o',e1⟩:=I.base.there b o e hx
  exact free b o' (neC b o e hx) e1 (I.base.free b o e n hx)
 ·obtain⟨o',e1⟩:=I.base.there b o e hx
  exact there b o' (neC b o e hx) e1
 ·exact tbls b _ (I.base.tbls b ps e)
 ·obtain⟨m,hn,hl⟩:=I.loc
  refine⟨m,ns m hn,fun i x v e1 e2 e3=>?_⟩
  obtain⟨u,r,l⟩:=hl i x v e1 e2 e3
  refine⟨u,r,?_⟩
  rcases l with l |⟨k,c,e,z⟩
  ·exact .inl l
  ·exact .inr ⟨k,c,e,cellK x c e _ z⟩
 ·obtain⟨v,z⟩:=I.cell x c e
  exact⟨v,cellK x c e v z⟩
 ·obtain⟨m,⟨o,_,_,ho,_⟩,_⟩:=I.loc
  exact free _ o (fun z=>(hch _ z).2.1 rfl) ho I.free
 ·obtain⟨v,o,ho,hd⟩:=I.cell x c e
  exact free c o (fun z=>(hch c z).2.2.1 x c e rfl) ho (I.freeC x c e)
 ·obtain⟨e,n,ne,nf,d⟩:=I.pin p hp
  have nch:p.1∉ch:=fun z=>(hch p.1 z).2.2.2 p hp rfl
  exact⟨keep p.1 p.2 ne nf nch e n,free p.1 p.2 nch e n,ne,nf,d⟩
theorem Inv.un{t':Nat}(I:Inv X pins σ H s)(u:Un X.fs [] H H' s.heap h')(hok:HOk X.prog X.w H' h'):Inv X pins σ H' {s with heap:=h',toks:=t'}:=by
 obtain⟨m,⟨o,es,ep,ho,r⟩,_⟩:=id I.loc
 obtain⟨sl,hL⟩:=u.any ho I.free (by simp)
 exact I.step (g':=s.gens) (d':=s.drawn) (ch:=[]) (fun _ z=>nomatch z) (fun b o _ hb _ e n=>u.keep b o e n hb (by simp)) (fun b o _ hb _ e n=>u.slot b o e n hb (by simp)) (fun b o _ e n=>u.free b o e n (by simp)) (fun b o _ e=>u.there b o e (by simp)) u.tups u.frzs u.tbls (fun m' hm=>by
  obtain⟨o',es',ep',ho',r'⟩:=hm
  rw[ho]at ho';cases ho'
  exact⟨_,es',ep',hL,r'⟩) hok I.bare
theorem Inv.call{g':Array GenState}{t':Nat}{d':Drawn}{ch:List Addr}(I:Inv X pins σ H s)(u:Un (Al X.stack) ch H H' s.heap h')(hok:HOk X.prog X.w H' h')(hg:AllBare g')
  (hch:∀b∈ch,(b∈X.ex∨X.s₀.heap.objs.size≤b)∧b≠X.env.locals∧(∀x c,X.env.cells.lookup x=some c→c≠b)∧∀p∈X.pn++pins,p.1≠b):
  Inv X pins σ H' {s with heap:=h',gens:=g',drawn:=d',toks:=t'}:=by
 obtain⟨m,⟨o,es,ep,ho,r⟩,_⟩:=id I.loc
 obtain⟨sl,hL⟩:=u.any ho I.free fun z=>(hch _ z).2.1 rfl
 exact I.step (ch:=ch) hch (fun b o hL hb hc e n=>u.keep b o e n (fun z=>(List.mem_cons.mp (I.stkSub b z)).elim hL hb) hc) (fun b o _ _ hc e n=>u.any e n hc) (fun b o hc e n=>u.free b o e n hc) (fun b o hc e=>u.there b o e hc) u.tups u.frzs u.tbls (fun m' hm=>by
  obtain⟨o',es',ep',ho',r'⟩:=hm
  rw[ho]at ho';cases ho'
  exact⟨_,es',ep',hL,r'⟩) hok hg
theorem Inv.turned{t':Nat}{it:Addr}(I:Inv X pins σ H s)(k:∀b o,b≠it→s.heap.get? b=some o→h'.get? b=some o)(hn:H it=none)(hL:it≠X.env.locals)
  (h1:it∈X.ex∨X.s₀.heap.objs.size≤it) (h2:∀x c,X.env.cells.lookup x=some c→c≠it) (h3:∀p∈X.pn++pins,p.1≠it):Inv X pins σ H {s with heap:=h',toks:=t'}:=by
 have nit:∀b u,H b=some u→b≠it:=fun b u e z=>by rw[z,hn]at e;cases e
 refine I.step (g':=s.gens) (d':=s.drawn) (ch:=[it]) (fun b hb=>?_) (fun b o _ _ hc e _=>k b o (fun z=>hc (by simp[z])) e) (fun b o _ _ hc e _=>⟨o.slots,k b o (fun z=>hc (by simp[z])) e⟩) (fun _ _ _ _ n=>n)
  (fun b o hc e=>⟨o,k b o (fun z=>hc (by simp[z])) e⟩) (fun _ _ e=>e) (fun _ _ _ e=>e) (fun _ _ e=>e) (fun m hm=>?_) (fun b u e=>?_) I.bare
 ·have e:b=it:=by simpa using hb
  subst e
  exact⟨h1,hL,h2,h3⟩
 ·obtain⟨o,es,ep,ho,r⟩:=hm
  exact⟨o,es,ep,k _ o (Ne.symm hL) ho,r⟩
 ·refine(I.hok b u e).stay (fun c v hc q=>k c v ?_ q) (fun _ q=>q) fun _ _ q=>q
  rcases hc with z |z
  ·rw[z];exact nit b u e
  ·exact nit c _ z
theorem Inv.tok(I:Inv X pins σ H s)(t:Nat):Inv X pins σ H {s with toks:=t}:=I.un (h':=s.heap) (t':=t) Un.refl I.hok
theorem Inv.kept{t':Nat}(I:Inv X pins σ H s)(k:∀b u,s.heap.get? b=some u→h'.get? b=some u):Inv X pins σ H {s with heap:=h',toks:=t'}:=I.un (Un.kept k) (I.hok.kept k)
theorem Inv.laid{a:Addr}{o:HO}{t':Nat}(I:Inv X pins σ H s)(k:∀b u,s.heap.get? b=some u→h'.get? b=some u)(hp:s.heap.objs.size≤a)(new:ObjOk X.prog X.w (fS H a o) h' a o):
  Inv X pins σ (fS H a o) {s with heap:=h',toks:=t'}:=I.un (Un.laid k hp (I.hok.fresh hp)) (I.hok.laid k hp new)
theorem Inv.write{x e:Addr}{o:HO}{t':Nat}(I:Inv X pins σ H s)(mu:Hx (H x))(he:e=x∨H e=some (.own x))(k:∀b u,b≠e→s.heap.get? b=some u→h'.get? b=some u)(heo:∃u,h'.get? e=some u)
  (new:ObjOk X.prog X.w (fS H x o) h' x o):Inv X pins σ (fS H x o) {s with heap:=h',toks:=t'}:=I.un (Un.write mu he k heo) (I.hok.write mu he k heo new)
theorem Inv.pins_of{pins':List (Addr×Obj)}(I:Inv X pins σ H s)(h:∀p∈pins',s.heap.get? p.1=some p.2∧H p.1=none∧p.1≠X.env.locals∧p.1∉X.fs∧∀v,p.2.data≠ .cell v):Inv X pins' σ H s:=
 ⟨I.ok,I.os,I.bare,I.base,I.loc,I.cell,I.free,I.freeC,fun p hp=>(List.mem_append.mp hp).elim (fun z=>I.pin p (List.mem_append_left _ z)) (h p),I.hok,I.len⟩
theorem uP{N:List Str}(hN:N.Nodup){i j:Nat}{x:Str}(a:N[i]? =some x)(b:N[j]? =some x):i=j:=by
 obtain⟨h1,e1⟩:=List.getElem?_eq_some_iff.mp a
 obtain⟨h2,e2⟩:=List.getElem?_eq_some_iff.mp b
 exact(List.getElem_inj hN).mp (e1.trans e2.symm)
theorem yK{M:Model}{A:Around}{E:Value→Shared→Prop}{i:Nat}{x:Str}{v:V}{u:Value}{Q:Unit→Shared→Prop}(I:Inv X pins σ H s)(hN:X.N.Nodup)(hi:X.N[i]? =some x)(hx:D6 X.env.scope x)(r:RelV v u)
  (h:∀s',Inv X pins (σ.set i (some v)) H s'→(∃a,Heap.SameBut a s.heap s'.heap∧(a=X.env.locals∨X.env.cells.lookup x=some a))→Q () s') (hf:X.fn x=true∨X.env.scope.names.lookup x=some .local:=by first |exact .inl rfl |exact .inr rfl |assumption):wpAny M A (storeName X.env x u) Q E s:=by
 obtain⟨m,hn,hl⟩:=id I.loc
 have hcls:(X.env.scope.kind ==.class||(X.env.scope.kind ==.module&&X.env.locals != X.env.globals))=false:=by rw[I.ok.kind];rfl
 have hiσ:i < σ.length:=by rw[I.len];exact(List.getElem?_eq_some_iff.mp hi).1
 have cne:=I.cne
 have tracked:∀{a:Addr} {h':Heap},(∃o,s.heap.get? a=some o∧H a=none)→Heap.SameBut a s.heap h'→HOk X.prog X.w H h':=fun {a h'} ha hs b ob e=>by
  obtain⟨_,_,hfree⟩:=ha
  refine(I.hok b ob e).stay (fun c w' hc q=>(hs.2 c ?_).trans q) (fun _ q=>q) fun _ _ q=>q
  rintro rfl
  rcases hc with rfl |hc
  ·rw[hfree]at e;cases e
  ·rw[hfree]at hc;cases hc
 rcases hx with hk |hk
 ·refine wpAny_storeName_local hk hn (fun h' hn' hs=>?_) hcls
  obtain⟨oL,_,_,hoL,_⟩:=id hn
  refine h _ ⟨I.ok,I.os,I.bare,⟨fun b o e n hb hx=>?_,fun b o e n hb hx=>?_,I.base.free,fun b o e hx=>?_,I.base.tups,I.base.frzs,I.base.tbls⟩,⟨_,hn',fun j y v' e1 e2 e3=>?_⟩,fun y c e=>?_,I.free,I.freeC,fun p hp=>?_,tracked ⟨oL,hoL,I.free⟩ hs,by simpa using I.len⟩ ⟨_,hs,.inl rfl⟩
  ·exact(hs.2 b (Nat.ne_of_lt (Nat.lt_of_lt_of_le (Heap.lt_size e) I.ok.above))).trans (I.base.keep b o e n hb hx)
  ·obtain⟨sl,e1⟩:=I.base.slot b o e n hb hx
   exact⟨sl,(hs.2 b (Nat.ne_of_lt (Nat.lt_of_lt_of_le (Heap.lt_size e) I.ok.above))).trans e1⟩
  ·obtain⟨o',e1⟩:=I.base.there b o e hx
   exact⟨o',(hs.2 b (Nat.ne_of_lt (Nat.lt_of_lt_of_le (Heap.lt_size e) I.ok.above))).trans e1⟩
  ·by_cases hj:j=i
   ·subst hj
    rw[hi]at e1;cases e1
    rw[List.getElem?_set_self hiσ]at e2
    cases e2
    exact⟨u,r,.inl ⟨hk,by simp⟩⟩
   ·rw[List.getElem?_set_ne (Ne.symm hj)]at e2
    obtain⟨u',r',q⟩:=hl j y v' e1 e2 e3
    refine⟨u',r',?_⟩
    rcases q with⟨k,e⟩ |⟨k,c,e,z⟩
    ·refine .inl ⟨k,?_⟩
     have:y≠x:=fun e=>hj (uP hN e1 (e▸hi))
     simp[this,e]
    ·exact .inr ⟨k,c,e,z.sameBut hs (cne y c e)⟩
  ·obtain⟨w',z⟩:=I.cell y c e
   exact⟨w',z.sameBut hs (cne y c e)⟩
  ·obtain⟨e,n,ne,nf,d⟩:=I.pin p hp
   exact⟨(hs.2 p.1 ne).trans e,n,ne,nf,d⟩
 ·have hfn:X.fn x=true:=by
   rcases hf with z |z
   ·exact z
   ·rw[z]at hk;cases hk
  obtain⟨c,hc⟩:=I.ok.has x (.inl hk)
  obtain⟨w',z⟩:=I.cell x c hc
  refine wpAny_storeName_cell I.ok.kind hk hc z (fun h' hc' hs=>?_)
  obtain⟨oc,hoc,hocd⟩:=id z
  refine h {s with heap:=h'} ⟨I.ok,I.os,I.bare,⟨fun b o e n hb hx=>?_,fun b o e n hb hx=>?_,I.base.free,fun b o e hx=>?_,I.base.tups,I.base.frzs,I.base.tbls⟩,⟨m,hn.sameBut hs (Ne.symm (cne x c hc)),fun j y v' e1 e2 e3=>?_⟩,fun y c' e=>?_,I.free,I.freeC,fun p hp=>?_,tracked ⟨oc,hoc,I.freeC x c hc⟩ hs,by simpa using I.len⟩ ⟨c,hs,.inr hc⟩
  ·exact(hs.2 b (Nat.ne_of_lt (Nat.lt_of_lt_of_le (Heap.lt_size e) (I.ok.cab x c hfn hc)))).trans (I.base.keep b o e n hb hx)
  ·obtain⟨sl,e1⟩:=I.base.slot b o e n hb hx
   exact⟨sl,(hs.2 b (Nat.ne_of_lt (Nat.lt_of_lt_of_le (Heap.lt_size e) (I.ok.cab x c hfn hc)))).trans e1⟩
  ·obtain⟨o',e1⟩:=I.base.there b o e hx
   exact⟨o',(hs.2 b (Nat.ne_of_lt (Nat.lt_of_lt_of_le (Heap.lt_size e) (I.ok.cab x c hfn hc)))).trans e1⟩
  ·by_cases hj:j=i
   ·subst hj
    rw[hi]at e1;cases e1
    rw[List.getElem?_set_self hiσ]at e2
    cases e2
    exact⟨u,r,.inr ⟨.inl hk,c,hc,hc'⟩⟩
   ·rw[List.getElem?_set_ne (Ne.symm hj)]at e2
    obtain⟨u',r',q⟩:=hl j y v' e1 e2 e3
    refine⟨u',r',?_⟩
    rcases q with q |⟨k,c',e,z'⟩
    ·exact .inl q
    ·refine .inr ⟨k,c',e,z'.sameBut hs ?_⟩
     rintro rfl
     exact hj (uP hN e1 (I.ok.inj _ _ _ e hc▸hi))
  ·by_cases hcc:c'=c
   ·subst hcc;exact⟨_,hc'⟩
   ·obtain⟨w2,z2⟩:=I.cell y c' e
    exact⟨w2,z2.sameBut hs hcc⟩
  ·obtain⟨e,n,ne,nf,d⟩:=I.pin p hp
   refine⟨(hs.2 p.1 ?_).trans e,n,ne,nf,d⟩
   intro q
   rw[q,hoc]at e
   have q':oc=p.2:=Option.some.inj e
   exact d w' (by rw[←q'];exact hocd)
theorem uQ{M:Model}{A:Around}{E:Value→Shared→Prop}{i:Nat}{x:Str}{v:V}{u:Value}{Q:Unit→Shared→Prop}(I:Inv X pins σ H s)(hN:X.N.Nodup)(hi:X.N[i]? =some x)(hx:D6 X.env.scope x)(r:RelV v u)
  (h:∀s',Inv X pins (σ.set i (some v)) H s'→Q () s') (hf:X.fn x=true∨X.env.scope.names.lookup x=some .local:=by first |exact .inl rfl |exact .inr rfl |assumption):wpAny M A (storeName X.env x u) Q E s:=
 yK I hN hi hx r (fun s' I' _=>h s' I') hf
theorem Inv.call'{s':Shared}{ch:List Addr}(I:Inv X pins σ H s)(ho:s'.os=s.os)(u:Un (Al X.stack) ch H H' s.heap s'.heap)(hok:HOk X.prog X.w H' s'.heap)(hg:AllBare s'.gens)
  (hch:∀b∈ch,(b∈X.ex∨X.s₀.heap.objs.size≤b)∧b≠X.env.locals∧(∀x c,X.env.cells.lookup x=some c→c≠b)∧∀p∈X.pn++pins,p.1≠b):Inv X pins σ H' s':=by
 obtain⟨h',g',d',t',o'⟩:=s'
 have e:o'=s.os:=ho
 subst e
 exact I.call (g':=g') (t':=t') (d':=d') u hok hg hch
end
abbrev XK:=Value→Option Addr→Hp→Prop
abbrev St:=List (Option V)
abbrev VK:=V→Hp→Prop
abbrev TE:=St→Hp→VK→Prop
abbrev TT:=St→Hp→(Bool→Hp→Prop)→Prop
abbrev TA:=St→Hp→(List V→Hp→Prop)→Prop
structure Ends where
 nx:St→Hp→Prop
 rt:VK
 bk:St→Hp→Prop:=fun _ _=>False
 ct:St→Hp→Prop:=fun _ _=>False
abbrev TS:=Ends→St→Hp→Prop
def EP(X:Cx)(pins:List (Addr×Obj))(σ:St)(Q:VK)(u:Value)(s':Shared):Prop:=∃v H',Inv X pins σ H' s'∧RelV v u∧Q v H'
def TP(X:Cx)(pins:List (Addr×Obj))(σ:St)(Q:Bool→Hp→Prop)(b:Bool)(s':Shared):Prop:=∃H',Inv X pins σ H' s'∧Q b H'
def AP(X:Cx)(pins:List (Addr×Obj))(σ:St)(Q:List V→Hp→Prop)(us:List Value)(s':Shared):Prop:=∃vs H',Inv X pins σ H' s'∧Vals vs us∧Q vs H'
def SP(X:Cx)(pins:List (Addr×Obj))(D:Ends)(f:Flow)(s':Shared):Prop:=
 match f with
 |.next=>∃σ' H',Inv X pins σ' H' s'∧D.nx σ' H'
 |.brk=>∃σ' H',Inv X pins σ' H' s'∧D.bk σ' H'
 |.cont=>∃σ' H',Inv X pins σ' H' s'∧D.ct σ' H'
 |.ret u=>∃v σ' H',Inv X pins σ' H' s'∧RelV v u∧D.rt v H'
def PE(X:Cx)(e:Expr)(t:TE):Prop:=
 ∀(pins:List (Addr×Obj)) (s:Shared) (σ:St) (H:Hp) (Q:VK),Inv X pins σ H s→t σ H Q→wpAny (model X.prog X.w) X.A (eval e X.env) (EP X pins σ Q) X.xe s
def PT(X:Cx)(e:Expr)(t:TT):Prop:=
 ∀(pins:List (Addr×Obj)) (s:Shared) (σ:St) (H:Hp) (Q:Bool→Hp→Prop),Inv X pins σ H s→t σ H Q→wpAny (model X.prog X.w) X.A (isTrue e X.env (eval e X.env)) (TP X pins σ Q) X.xe s
def PW(X:Cx)(e:Expr)(t:TT):Prop:=
 ∀(whole:Sem Value) (pins:List (Addr×Obj)) (s:Shared) (σ:St) (H:Hp) (Q:Bool→Hp→Prop),Inv X pins σ H s→t σ H Q→wpAny (model X.prog X.w) X.A (isTrue e X.env whole) (TP X pins σ Q) X.xe s
theorem PW.pt{X:Cx}{e:Expr}{t:TT}(h:PW X e t):PT X e t:=h _
def PA(X:Cx)(es:List Expr)(t:TA):Prop:=
 ∀(pos:Pos) (pins:List (Addr×Obj)) (s:Shared) (σ:St) (H:Hp) (Q:List V→Hp→Prop),Inv X pins σ H s→t σ H Q→wpAny (model X.prog X.w) X.A (spliced (backTo pos (starEach es X.env))) (AP X pins σ Q) X.xe s
def PS(X:Cx)(st:Stmt)(t:TS):Prop:=
 ∀(pins:List (Addr×Obj)) (s:Shared) (σ:St) (H:Hp) (D:Ends),Inv X pins σ H s→t D σ H→wpAny (model X.prog X.w) X.A (exec st X.env) (SP X pins D) X.xe s
def PSs(X:Cx)(st:List Stmt)(t:TS):Prop:=
 ∀(pins:List (Addr×Obj)) (s:Shared) (σ:St) (H:Hp) (D:Ends),Inv X pins σ H s→t D σ H→wpAny (model X.prog X.w) X.A (execs st X.env) (SP X pins D) X.xe s
theorem gV{α:Type}{t:Sem α}{Q Q':α→Shared→Prop}{M:Model}{A:Around}{E:Value→Shared→Prop}{s:Shared}(h:wpAny M A t Q E s)(hQ:∀a s,Q a s→Q' a s):wpAny M A t Q' E s:=wpAny_mono h hQ fun _ _ x=>x
end L2
namespace L2
open PySem PySem.Spec PyProof.Rows
section
variable {X:Cx}
def HH(i:Nat):TE:=fun σ H Q=>∃v,σ[i]? =some (some v)∧Q v H
def tC(v:V):TE:=fun _ H Q=>Q v H
theorem wb {i:Nat} {x:Str} {pos:Pos} (hN:X.N[i]? =some x) (hv:Gq X.env.scope x) (hd:(x == ("__debug__":Str))=false:=by decide) (hcd:(x == ("__classdict__":Str))=false:=by decide):PE X (.Name x pos) (HH i):=by
 intro pins s σ H Q I h
 obtain⟨v,e,h⟩:=h
 obtain⟨m,hn,hl⟩:=I.loc
 obtain⟨u,r,l⟩:=hl i x v hN e hv
 have fin:EP X pins σ Q u s:=⟨v,H,I,r,h⟩
 rcases l with⟨hk,hm⟩ |⟨hk,c,hc,hcell⟩
 ·exact wpAny_Name (wpAny_loadName_local I.ok.kind hk hn hm fin) hd
 ·rcases hk with hk |hk
  ·exact wpAny_Name (wpAny_loadName_cell I.ok.kind hk hc hcell fin) hd
  ·exact wpAny_Name (wpAny_loadName_free I.ok.kind hk hc hcell fin hcd) hd
theorem ED{i j pos}:PE X (.Constant (.int i) j pos) (tC (.int i)):=fun _ _ _ H _ I h=>wpAny_Constant_int ⟨.int i,H,I.tok _,⟨_,rfl⟩,h⟩
theorem Gr{b j pos}:PE X (.Constant (.bool b) j pos) (tC (.bl b)):=fun _ _ _ H _ I h=>Constant_bool ⟨.bl b,H,I,rfl,h⟩
theorem Ao{x j pos}:PE X (.Constant (.str x) j pos) (tC (.str x)):=fun _ _ _ H _ I h=>Calls.Constant_str ⟨.str x,H,I.tok _,⟨_,rfl⟩,h⟩
def Gl(X:Cx)(x:Str):Prop:=X.env.kindOf x=some .globalImplicit
theorem xo{E:Value→Shared→Prop}{pins:List (Addr×Obj)}{s:Shared}{σ:St}{H:Hp}{x:Str}{u:Value}{pos:Pos}{Q:Value→Shared→Prop}(I:Inv X pins σ H s)(hg:Gl X x)(hm:X.mg x=some u)(h:Q u s)
  (hd:(x == ("__debug__":Str))=false:=by decide):wpAny (model X.prog X.w) X.A (eval (.Name x pos) X.env) Q E s:=
 Calls.Name_function_global I.ok.kind hg (Calls.loadGlobal_global (by rw[I.ok.glob];exact I.mod.glob.keeps I.bk) hm h) hd
theorem mZ{E:Value→Shared→Prop}{pins:List (Addr×Obj)}{s:Shared}{σ:St}{H:Hp}{x:Str}{u:Value}{pos:Pos}{Q:Value→Shared→Prop}(I:Inv X pins σ H s)(hg:Gl X x)(hm:X.mg x=none)(hv:bootBuiltins x=some u)(h:Q u s)
  (hn:x≠"__name__":=by decide) (hd:(x == ("__debug__":Str))=false:=by decide):wpAny (model X.prog X.w) X.A (eval (.Name x pos) X.env) Q E s:=by
 obtain⟨mb,h1,h2⟩:=I.mod.blt
 exact Calls.Name_function_global I.ok.kind hg (Calls.loadGlobal_builtin (by rw[I.ok.glob];exact I.mod.glob.keeps I.bk) hm (by rw[I.ok.blt];exact h1.keeps I.bk) ((h2 x hn).trans hv) h) hd
theorem xp {x:Str} {v:V} {u:Value} {pos:Pos} (hg:Gl X x) (hm:X.mg x=some u) (r:RelV v u) (hd:(x == ("__debug__":Str))=false:=by decide):PE X (.Name x pos) (tC v):=
 fun _ _ _ H _ I h=>xo I hg hm ⟨v,H,I,r,h⟩ hd
theorem CD {x:Str} {v:V} {u:Value} {pos:Pos} (hg:Gl X x) (hm:X.mg x=none) (hv:bootBuiltins x=some u) (r:RelV v u) (hn:x≠"__name__":=by decide) (hd:(x == ("__debug__":Str))=false:=by decide):PE X (.Name x pos) (tC v):=
 fun _ _ _ H _ I h=>mZ I hg hm hv ⟨v,H,I,r,h⟩ hn hd
variable {a b:Expr} {ta tb:TE} {pos:Pos}
variable {tA tB':TT} {rest:List Expr}
def HI(t u:TT):TT:=fun σ H Q=>t σ H fun c H1=>if c=true then u σ H1 Q else Q false H1
def IN(t u:TT):TT:=fun σ H Q=>t σ H fun c H1=>if c=true then Q true H1 else u σ H1 Q
def HJ(t:TT):TT:=fun σ H Q=>t σ H fun c H1=>Q (!c) H1
theorem CF(ha:PT X a tA):PW X (.BoolOp .And [a] pos) tA:=by
 intro wh pins s σ H Q I h
 refine isTrue_and (gV (ha pins s σ H Q I h) fun c s1 e=>?_)
 cases c with
 |true=>exact isTrue_and_nil e
 |false=>exact e
theorem EE(ha:PT X a tA):PW X (.BoolOp .Or [a] pos) tA:=by
 intro wh pins s σ H Q I h
 refine isTrue_or (gV (ha pins s σ H Q I h) fun c s1 e=>?_)
 cases c with
 |false=>exact isTrue_or_nil e
 |true=>exact e
theorem EF(ha:PT X a tA)(hb:PW X (.BoolOp .And (b::rest) pos) tB'):PW X (.BoolOp .And (a::b::rest) pos) (HI tA tB'):=by
 intro wh pins s σ H Q I h
 refine isTrue_and (gV (ha pins s σ H _ I h) fun c s1 ⟨H1,I1,q1⟩=>?_)
 cases c with
 |true=>exact hb wh pins s1 σ H1 Q I1 q1
 |false=>exact⟨H1,I1,q1⟩
theorem Gs(ha:PT X a tA)(hb:PW X (.BoolOp .Or (b::rest) pos) tB'):PW X (.BoolOp .Or (a::b::rest) pos) (IN tA tB'):=by
 intro wh pins s σ H Q I h
 refine isTrue_or (gV (ha pins s σ H _ I h) fun c s1 ⟨H1,I1,q1⟩=>?_)
 cases c with
 |true=>exact⟨H1,I1,q1⟩
 |false=>exact hb wh pins s1 σ H1 Q I1 q1
theorem EG(ha:PT X a tA):PT X (.UnaryOp .Not a pos) (HJ tA):=by
 intro pins s σ H Q I h
 exact isTrue_not (ha pins s σ H (fun c H1=>Q (!c) H1) I h)
def Gu(ta tb:TE):TE:=fun σ H Q=>ta σ H fun x H1=>∃c,x=.bl c∧if c=true then tb σ H1 Q else Q (.bl false) H1
theorem EH{op}{t:TE}(h:PE X a t):PE X (.BoolOp op [a] pos) t:=fun pins s σ H Q I hw=>BoolOp_one (h pins s σ H Q I hw)
theorem EI(ha:PE X a ta)(hb:PE X (.BoolOp .And (b::rest) pos) tb):PE X (.BoolOp .And (a::b::rest) pos) (Gu ta tb):=by
 intro pins s σ H Q I h
 refine BoolOp_and (gV (ha pins s σ H _ I h) fun v s1 ⟨x,H1,I1,r1,q1⟩=>?_)
 obtain⟨c,rfl,q1⟩:=q1
 cases r1
 refine wpAny_truthy_bool ?_
 cases c with
 |true=>exact hb pins s1 σ H1 Q I1 q1
 |false=>exact⟨.bl false,H1,I1,rfl,q1⟩
end
end L2
namespace L2
open PySem PySem.Spec PyProof.Rows
def SqL(K:PySem.W.Frag)(H:Hp)(a:Addr)(xs:List V):Prop:=
 Rd H a (.lst xs)∨
  ∃(o:Obj) (its:Array Value) (n:Nat),K.lookup a=some o∧o.cls=.type "list"∧o.dict=none∧o.data=.seq its n∧its.size≤sizeLine∧Vals xs its.toList
def SqT(K:PySem.W.Frag)(H:Hp)(a:Addr)(xs:List V):Prop:=
 Rd H a (.tup xs)∨
  ∃(o:Obj) (its:Array Value) (n:Nat),K.lookup a=some o∧o.cls=.type "tuple"∧o.data=.seq its n∧its.size≤sizeLine∧Vals xs its.toList
def HK:Value→Option V
 |.none=>some .non
 |.bool b=>some (.bl b)
 |.int i _=>some (.int i)
 |.str x _=>some (.str x)
 |.bytes b _=>some (.byt b)
 |.float b _=>some (.flt b)
 |.ref a=>some (.ref a)
 |.type n=>some (.ty n)
 |_=>none
theorem RelV.abs{x:V}{u:Value}(r:RelV x u):HK u=some x:=by
 cases x with
 |non=>cases r;rfl
 |bl _=>cases r;rfl
 |int _=>obtain⟨t,rfl⟩:=r;rfl
 |str _=>obtain⟨t,rfl⟩:=r;rfl
 |byt _=>obtain⟨t,rfl⟩:=r;rfl
 |flt _=>obtain⟨t,rfl⟩:=r;rfl
 |ref _=>cases r;rfl
 |ty _=>cases r;rfl
theorem RelV.inj{x y:V}{u:Value}(r:RelV x u)(q:RelV y u):x=y:=Option.some.inj (r.abs.symm.trans q.abs)
theorem Vals.inj{xs ys:List V}{us:List Value}(h:Vals xs us)(k:Vals ys us):xs=ys:=by
 induction h generalizing ys with
 |nil=>cases k;rfl
 |cons r _ ih=>cases k with |cons r' t'=>rw[r.inj r',ih t']
section
variable {X:Cx} {pins:List (Addr×Obj)} {σ:St} {H:Hp} {s:Shared} {a:Addr} {xs ys:List V}
theorem SqL.of{K:PySem.W.Frag}(h:H a=some (.lst xs)):SqL K H a xs:=.inl (.inl h)
theorem SqT.of{K:PySem.W.Frag}(h:H a=some (.tup xs)):SqT K H a xs:=.inl (.inl h)
theorem Inv.list(I:Inv X pins σ H s)(h:SqL X.K H a xs):∃its:List Value,Vals xs its∧PlainL s.heap a its.toArray∧xs.length≤sizeLine:=by
 rcases h with h |⟨o,its,n,hk,hc,hd,hs,hz,r⟩
 ·obtain⟨z,its,n,r,e⟩:=h.ok I.hok
  exact⟨its,r,⟨_,n,e,rfl,rfl,rfl⟩,z⟩
 ·refine⟨its.toList,r,⟨o,n,I.kIn a o hk,hc,hd,by simpa using hs⟩,?_⟩
  have e:=r.length
  simp only[Array.length_toList]at e
  omega
theorem Inv.tuple(I:Inv X pins σ H s)(h:SqT X.K H a xs):∃its:List Value,Vals xs its∧IsTup s.heap a its.toArray∧xs.length≤sizeLine:=by
 rcases h with h |⟨o,its,n,hk,hc,hs,hz,r⟩
 ·obtain⟨z,its,r,p⟩:=h.ok I.hok
  exact⟨its,r,p,z⟩
 ·refine⟨its.toList,r,⟨o,I.kIn a o hk,hc,n,by simpa using hs⟩,?_⟩
  have e:=r.length
  simp only[Array.length_toList]at e
  omega
theorem Inv.list_inj(I:Inv X pins σ H s)(h:SqL X.K H a xs)(h':SqL X.K H a ys):xs=ys:=by
 obtain⟨its,r,⟨o,n,e,_,_,d⟩,_⟩:=I.list h
 obtain⟨its',r',⟨o',n',e',_,_,d'⟩,_⟩:=I.list h'
 rw[e]at e';cases e'
 rw[d]at d'
 injection d' with d1 _
 have:its=its':=by simpa using congrArg Array.toList d1
 subst this
 exact r.inj r'
theorem Inv.tuple_inj(I:Inv X pins σ H s)(h:SqT X.K H a xs)(h':SqT X.K H a ys):xs=ys:=by
 obtain⟨its,r,⟨o,e,_,n,d⟩,_⟩:=I.tuple h
 obtain⟨its',r',⟨o',e',_,n',d'⟩,_⟩:=I.tuple h'
 rw[e]at e';cases e'
 rw[d]at d'
 injection d' with d1 _
 have:its=its':=by simpa using congrArg Array.toList d1
 subst this
 exact r.inj r'
end
abbrev Cx.wish(X:Cx)(E:Value→Shared→Prop):Cx:={X with xe:=E}
abbrev Cx.nox(X:Cx):Cx:=X.wish fun _ _=>False
theorem Cx.Ok.wish{X:Cx}(ok:X.Ok)(E:Value→Shared→Prop):(X.wish E).Ok:=
 ⟨ok.mod,ok.kind,ok.glob,ok.blt,ok.above,ok.inj,ok.has,ok.cab,ok.hd,ok.frames,ok.stk,ok.exf,ok.bs,ok.bsz,ok.noex,ok.exfs,ok.funs,ok.frf,ok.tab⟩
theorem Cx.Ok.unwish{X:Cx}{E:Value→Shared→Prop}(ok:(X.wish E).Ok):X.Ok:=
 ⟨ok.mod,ok.kind,ok.glob,ok.blt,ok.above,ok.inj,ok.has,ok.cab,ok.hd,ok.frames,ok.stk,ok.exf,ok.bs,ok.bsz,ok.noex,ok.exfs,ok.funs,ok.frf,ok.tab⟩
section
variable {X:Cx} {pins:List (Addr×Obj)} {σ:St} {H:Hp} {s:Shared} {E:Value→Shared→Prop}
theorem Inv.wish(I:Inv X pins σ H s)(E:Value→Shared→Prop):Inv (X.wish E) pins σ H s:=⟨I.ok.wish E,I.os,I.bare,I.base,I.loc,I.cell,I.free,I.freeC,I.pin,I.hok,I.len⟩
theorem Inv.unwish(I:Inv (X.wish E) pins σ H s):Inv X pins σ H s:=⟨I.ok.unwish,I.os,I.bare,I.base,I.loc,I.cell,I.free,I.freeC,I.pin,I.hok,I.len⟩
theorem SP.unwish{D:Ends}{f:Flow}{s':Shared}(h:SP (X.wish E) pins D f s'):SP X pins D f s':=by
 cases f with
 |next=>obtain⟨σ',H',I,q⟩:=h;exact⟨σ',H',I.unwish,q⟩
 |brk=>obtain⟨σ',H',I,q⟩:=h;exact⟨σ',H',I.unwish,q⟩
 |cont=>obtain⟨σ',H',I,q⟩:=h;exact⟨σ',H',I.unwish,q⟩
 |ret u=>obtain⟨v,σ',H',I,r,q⟩:=h;exact⟨v,σ',H',I.unwish,r,q⟩
theorem PSs.nox{st:List Stmt}{t:TS}(h:PSs X.nox st t):PSs X st t:=fun pins s σ H D I hw=>
 wpAny_mono (h pins s σ H D (I.wish _) hw) (fun _ _ q=>q.unwish) fun _ _ z=>False.elim z
end
section
variable {X:Cx} {st:Stmt} {rest:List Stmt} {t u:TS} {e:Expr} {te:TE} {pos:Pos}
def Gv:TS:=fun D σ H=>D.nx σ H
def HL(t u:TS):TS:=fun D σ H=>t {D with nx:=u D} σ H
theorem CG:PSs X [] Gv:=fun _ _ σ H _ I h=>wpAny_execs_nil ⟨σ,H,I,h⟩
theorem Ap(h1:PS X st t)(h2:PSs X rest u):PSs X (st::rest) (HL t u):=by
 intro pins s σ H D I h
 refine wpAny_execs_cons (gV (h1 pins s σ H {D with nx:=u D} I h) fun f s1 q=>?_)
 cases f with
 |next=>
  obtain⟨σ',H',I',q⟩:=q
  exact h2 pins s1 σ' H' D I' q
 |ret v=>exact q
 |brk=>exact q
 |cont=>exact q
theorem CH(h1:PS X st t):PSs X [st] t:=by
 intro pins s σ H D I h
 refine wpAny_execs_cons (gV (h1 pins s σ H D I h) fun f s1 q=>?_)
 cases f with
 |next=>exact wpAny_execs_nil q
 |ret v=>exact q
 |brk=>exact q
 |cont=>exact q
theorem Inv.quiet{pins:List (Addr×Obj)}{σ:St}{H:Hp}{s:Shared}(I:Inv X pins σ H s):interactive X.env=false:=by simp[interactive,I.ok.kind]
def Gw(te:TE):TS:=fun D σ H=>te σ H fun _ H1=>D.nx σ H1
theorem CI(he:PE X e te)(hs:swapsWith e none pos.line X.env=pure false:=by rfl):PS X (.Expr e pos) (Gw te):=by
 intro pins s σ H D I h
 exact wpAny_Expr_any (gV (he pins s σ H _ I h) fun v s1 ⟨x,H1,I1,r1,q1⟩=>⟨σ,H1,I1,q1⟩) I.quiet hs
def HM(te:TE):TS:=fun D σ H=>te σ H D.rt
theorem EJ(he:PE X e te):PS X (.Return (some e) pos) (HM te):=by
 intro pins s σ H D I h
 exact wpAny_Return_some (gV (he pins s σ H _ I h) fun v s1 ⟨x,H1,I1,r1,q1⟩=>⟨x,σ,H1,I1,r1,q1⟩)
def HN(c:TT)(t u:TS):TS:=fun D σ H=>c σ H fun b H1=>if b=true then t D σ H1 else u D σ H1
theorem Gx{c:Expr}{a b:List Stmt}{tc:TT}(hc:PT X c tc)(ha:PSs X a t)(hb:PSs X b u):PS X (.If c a b pos) (HN tc t u):=by
 intro pins s σ H D I h
 refine wpAny_If (gV (hc pins s σ H _ I h) fun d s1 ⟨H1,I1,q1⟩=>?_)
 cases d with
 |true=>exact ha pins s1 σ H1 D I1 q1
 |false=>exact hb pins s1 σ H1 D I1 q1
def EK:TS:=fun _ _ _=>False
theorem Aq:PS X st EK:=fun _ _ _ _ _ _ h=>h.elim
end
abbrev TG:=V→St→Hp→(St→Hp→Prop)→Prop
abbrev CJ:=List V→St→Hp→(St→Hp→Prop)→Prop
def PG(X:Cx)(target:Expr)(t:TG):Prop:=
 ∀(pins:List (Addr×Obj)) (s:Shared) (σ:St) (H:Hp) (v:V) (u:Value) (Q:St→Hp→Prop),Inv X pins σ H s→RelV v u→t v σ H Q→
  wpAny (model X.prog X.w) X.A (assign target X.env u) (fun _ s'=>∃σ' H',Inv X pins σ' H' s'∧Q σ' H') X.xe s
def EL(X:Cx)(ts:List Expr)(t:CJ):Prop:=
 ∀(pins:List (Addr×Obj)) (s:Shared) (σ:St) (H:Hp) (vs:List V) (us:List Value) (Q:St→Hp→Prop),Inv X pins σ H s→Vals vs us→t vs σ H Q→
  wpAny (model X.prog X.w) X.A (assignInOrder ((assignEach ts X.env).map (·.2)) us) (fun _ s'=>∃σ' H',Inv X pins σ' H' s'∧Q σ' H') X.xe s
section
variable {X:Cx} {pos:Pos}
def Ar(i:Nat):TG:=fun v σ H Q=>Q (σ.set i (some v)) H
theorem tE{i:Nat}{x:Str}(hN:X.N.Nodup)(hi:X.N[i]? =some x)(hx:D6 X.env.scope x)(hf:X.fn x=true∨X.env.scope.names.lookup x=some .local:=by first |exact .inl rfl |exact .inr rfl |assumption):PG X (.Name x pos) (Ar i):=by
 intro pins s σ H v u Q I r h
 exact wpAny_assign_Name (uQ I hN hi hx r (fun s' I'=>⟨_,H,I',h⟩) hf)
def HP:CJ:=fun vs σ H Q=>vs=[]∧Q σ H
def Gy(t:TG)(u:CJ):CJ:=fun vs σ H Q=>∃v r,vs=v::r∧t v σ H fun σ' H'=>u r σ' H' Q
theorem CK:EL X [] HP:=by
 intro pins s σ H vs us Q I r h
 obtain⟨e,h⟩:=h
 subst e
 cases r
 exact assignInOrder_nil ⟨σ,H,I,h⟩
theorem As{e:Expr}{es:List Expr}{t:TG}{u:CJ}(h1:PG X e t)(h2:EL X es u)
  (hs:(assignEach (e::es) X.env).map (·.2)=assign e X.env::(assignEach es X.env).map (·.2):=by rfl):EL X (e::es) (Gy t u):=by
 intro pins s σ H vs us Q I r h
 obtain⟨v,vr,e1,h⟩:=h
 subst e1
 cases r with
 |cons r rr=>
  rw[hs]
  refine assignInOrder_cons (gV (h1 pins s σ H _ _ _ I r h) fun _ s1 ⟨σ1,H1,I1,q1⟩=>?_)
  exact h2 pins s1 σ1 H1 _ _ Q I1 rr q1
def HQ(K:PySem.W.Frag)(n:Nat)(t:CJ):TG:=fun v σ H Q=>∃a xs,v=.ref a∧SqT K H a xs∧xs.length=n∧t xs σ H Q
theorem EM{es:List Expr}{k:Nat}{t:CJ}{n:Nat}(hc:X.calm=true)(h:EL X es t)
  (hn:(assignEach es X.env).length=n:=by rfl) (hst:(assignEach es X.env).findIdx? (·.1)=none:=by rfl):PG X (.Tuple es k pos) (HQ X.K n t):=by
 intro pins s σ H v u Q I r hw
 obtain⟨a,xs,e1,hq,hl,hw⟩:=hw
 subst e1
 cases r
 obtain⟨its,rv,ht,hz⟩:=I.tuple hq
 refine assign_Tuple_tuple (I.ok.hd hc) ht (by simp[hn,←hl,rv.length]) hst fun h' hx=>?_
 have I1:Inv X pins σ H {s with heap:=h'}:=I.kept (t':=s.toks) fun b o e=>hx b o (Nat.ne_of_lt (Heap.lt_size e)) e
 exact h pins _ σ H xs _ Q I1 (by simpa using rv) hw
def Gz(te:TE)(g:TG):TS:=fun D σ H=>te σ H fun x H1=>g x σ H1 D.nx
theorem EN{i:Nat}{x:Str}{e:Expr}{te:TE}{pos':Pos}(hN:X.N.Nodup)(hi:X.N[i]? =some x)(hx:D6 X.env.scope x)(he:PE X e te)(hs:swapsWith e (some (.Name x pos')) pos.line X.env=pure false:=by rfl)(hf:X.fn x=true∨X.env.scope.names.lookup x=some .local:=by first |exact .inl rfl |exact .inr rfl |assumption):
  PS X (.Assign [.Name x pos'] e pos) (Gz te (Ar i)):=by
 intro pins s σ H D I h
 refine wpAny_Assign_Name (gV (he pins s σ H _ I h) fun v s1 ⟨y,H1,I1,r1,q1⟩=>?_) hs
 exact uQ I1 hN hi hx r1 (fun s2 I2=>⟨_,H1,I2,q1⟩) hf
end
structure It where
 go:Nat→Hp→Prop
 yld:Nat→Hp→V→Hp→Prop
 stop:Nat→Hp→Prop
def uR(X:Cx)(pins:List (Addr×Obj))(H:Hp)(b:Addr):Prop:=
 H b=none∧b≠X.env.locals∧b∉X.fs∧(b∈X.ex∨X.s₀.heap.objs.size≤b)∧(∀x c,X.env.cells.lookup x=some c→c≠b)∧∀p∈X.pn++pins,p.1≠b
theorem Inv.fpOk{X:Cx}{pins:List (Addr×Obj)}{σ:St}{H H':Hp}{s:Shared}{b:Addr}(I:Inv X pins σ H s)(hb:s.heap.objs.size≤b)(hn:H' b=none):uR X pins H' b:=by
 refine⟨hn,Nat.ne_of_gt (Nat.lt_of_lt_of_le I.lt hb),I.nofs hb,.inr (Nat.le_trans I.sz hb),fun x c e z=>?_,fun p hp z=>?_⟩
 ·obtain⟨v,q⟩:=I.cell x c e
  exact absurd (Nat.lt_of_lt_of_le q.lt (by rw[z];exact hb)) (Nat.lt_irrefl _)
 ·exact absurd (Nat.lt_of_lt_of_le (Heap.lt_size (I.pin p hp).1) (by rw[z];exact hb)) (Nat.lt_irrefl _)
structure Turn (P:Program) (w:World) (K:PySem.W.Frag) (tg:Expr) (J:It) (fp:List Addr) (it:Addr) (tn:Nat→Heap→Prop):Prop where
 mem:it∈fp
 obj:∀i h,tn i h→∀b∈fp,∃o,h.get? b=some o∧∀v,o.data≠ .cell v
 keep:∀i h h',tn i h→(∀b∈fp,∀o,h.get? b=some o→h'.get? b=some o)→tn i h'
 item:∀(X:Cx),X.prog=P→X.w=w→X.K=K→X.calm=true→∀(i:Nat) (pins:List (Addr×Obj)) (s:Shared) (σ:St) (H:Hp) (E:Value→Shared→Prop),Inv X pins σ H s→(∀b∈fp,uR X pins H b)→tn i s.heap→J.go i H→
  wpAny (model P w) X.A (pyNext (.ref it)) (fun r s1=>∃u,r=some u∧
   wpAny (model P w) X.A (letOwnedTupleGo tg (.ref it) u) (fun _ s2=>∃x H',Inv X pins σ H' s2∧RelV x u∧J.yld i H x H'∧tn (i+1) s2.heap∧∀b∈fp,H' b=none) E s1) E s
 done:∀(X:Cx),X.prog=P→X.w=w→X.K=K→X.calm=true→∀(i:Nat) (pins:List (Addr×Obj)) (s:Shared) (σ:St) (H:Hp) (E:Value→Shared→Prop),Inv X pins σ H s→(∀b∈fp,uR X pins H b)→tn i s.heap→J.stop i H→
  wpAny (model P w) X.A (pyNext (.ref it)) (fun r s1=>r=none∧Inv X pins σ H s1) E s
 self:∀(A:Around) (i:Nat) (s:Shared) (Q:Value→Shared→Prop) (E:Value→Shared→Prop),tn i s.heap→Q (.ref it) s→wpAny (model P w) A (pyIter (.ref it)) Q E s
abbrev TI:=St→Hp→(It→Hp→Prop)→Prop
def IF(X:Cx)(pins:List (Addr×Obj))(σ:St)(tg:Expr)(R:It→Hp→Prop)(itv:Value)(s2:Shared):Prop:=
 ∃(it:Addr) (fp:List Addr) (tn:Nat→Heap→Prop) (J:It) (H':Hp),itv=.ref it∧Inv X pins σ H' s2∧Turn X.prog X.w X.K tg J fp it tn∧tn 0 s2.heap∧(∀b∈fp,uR X pins H' b)∧R J H'
def PI(X:Cx)(tg iter:Expr)(wi:TI):Prop:=
 ∀(pins:List (Addr×Obj)) (s:Shared) (σ:St) (H:Hp) (R:It→Hp→Prop),Inv X pins σ H s→wi σ H R→
  wpAny (model X.prog X.w) X.A (eval iter X.env) (fun v s1=>wpAny (model X.prog X.w) X.A (pyIter v) (IF X pins σ tg R) X.xe s1) X.xe s
theorem uS{M:Model}{A:Around}{E:Value→Shared→Prop}{s:Shared}{tg:Expr}{it:Addr}{u:Value}{o:Obj}{n:String}{vs:Array Value}{Q:Unit→Shared→Prop}(ho:s.heap.get? it=some o)(hc:o.cls=.type n)(hd:o.data=.fields vs)
  (hn:["enumerate","zip","dict_itemiterator","dict_reverseitemiterator","odict_iterator","itertools.zip_longest","itertools.pairwise"].contains n=false) (hQ:Q () s):wpAny M A (letOwnedTupleGo tg (.ref it) u) Q E s:=by
 unfold letOwnedTupleGo
 cases tg <;> first
  |exact wpAny_pure hQ
  |(cases u <;> first
    |exact wpAny_pure hQ
    |(refine wpAny_bind (wpAny_load ho ?_)
      rw[hc,hd]
      show wpAny M A (if (["enumerate","zip","dict_itemiterator","dict_reverseitemiterator","odict_iterator","itertools.zip_longest","itertools.pairwise"].contains n&&vs[0]? == some (rawInt _))=true then _ else _) Q E s
      rw[if_neg (by intro h;rw[hn,Bool.false_and]at h;cases h)]
      exact wpAny_pure hQ))
def HR(K:PySem.W.Frag)(a:Addr):It:=
 ⟨fun i H=>∃xs x,SqL K H a xs∧xs[i]? =some x,fun i H x H'=>H'=H∧∀xs,SqL K H a xs→xs[i]? =some x,fun i H=>∃xs,SqL K H a xs∧xs.length≤i⟩
def HS(K:PySem.W.Frag)(a:Addr):It:=
 ⟨fun i H=>∃xs x,SqT K H a xs∧xs[i]? =some x,fun i H x H'=>H'=H∧∀xs,SqT K H a xs→xs[i]? =some x,fun i H=>∃xs,SqT K H a xs∧xs.length≤i⟩
def GA(lo:Int)(n:Nat):It:=⟨fun i _=>i < n,fun i H x H'=>H'=H∧x=.int (lo+i),fun i _=>n≤i⟩
theorem yL{P:Program}{w:World}{K:PySem.W.Frag}{tg:Expr}(a it:Addr):Turn P w K tg (HR K a) [it] it (fun i h=>h.IsListIter it a i) where
 mem:=by simp
 obj:=fun i h st b hb=>by
  have e:b=it:=by simpa using hb
  subst e
  obtain⟨o,e,c,d⟩:=st
  exact⟨o,e,fun v z=>by rw[d]at z;cases z⟩
 keep:=fun i h h' st k=>st.at fun o e=>k it (by simp) o e
 item:=by
  intro X hP hw hK hc i pins s σ H E I hf st hg
  subst hP hw hK
  obtain⟨xs,x,hq,hx⟩:=hg
  obtain⟨its,rv,p,hz⟩:=I.list hq
  obtain⟨u,hu,ru⟩:=rv.get hx
  obtain⟨f0,f1,f2,f3,f4,f5⟩:=hf it (by simp)
  refine wpAny_pyNext_list_item st p.isList (x:=u) (by simpa using hu) fun h' st' sb=>?_
  have I1:Inv X pins σ H {s with heap:=h'}:=I.turned (t':=s.toks) (fun b o hb e=>(sb.2 b hb).trans e) f0 f1 f3 f4 f5
  obtain⟨o,e,c,d⟩:=id st'
  exact⟨u,rfl,uS (s:={s with heap:=h'}) e c d (by decide) ⟨x,H,I1,ru,⟨rfl,fun ys hy=>by rw[I.list_inj hy hq];exact hx⟩,st',fun b hb=>(hf b hb).1⟩⟩
 done:=by
  intro X hP hw hK hc i pins s σ H E I hf st hg
  subst hP hw hK
  obtain⟨xs,hq,hx⟩:=hg
  obtain⟨its,rv,p,hz⟩:=I.list hq
  obtain⟨f0,f1,f2,f3,f4,f5⟩:=hf it (by simp)
  have hl:=rv.length
  exact wpAny_pyNext_list_end (I.ok.hd hc) st p.isList (by simp;omega) fun h' eb=>⟨rfl,I.turned (t':=s.toks) (fun b o hb e=>eb b o hb e) f0 f1 f3 f4 f5⟩
 self:=fun _ _ _ _ _ st h=>wpAny_pyIter_listiter st h
theorem wc{P:Program}{w:World}{K:PySem.W.Frag}{tg:Expr}(a it:Addr):Turn P w K tg (HS K a) [it] it (fun i h=>h.IsTupleIter it a i) where
 mem:=by simp
 obj:=fun i h st b hb=>by
  have e:b=it:=by simpa using hb
  subst e
  obtain⟨o,e,c,d⟩:=st
  exact⟨o,e,fun v z=>by rw[d]at z;cases z⟩
 keep:=fun i h h' st k=>st.at fun o e=>k it (by simp) o e
 item:=by
  intro X hP hw hK hc i pins s σ H E I hf st hg
  subst hP hw hK
  obtain⟨xs,x,hq,hx⟩:=hg
  obtain⟨its,rv,p,hz⟩:=I.tuple hq
  obtain⟨u,hu,ru⟩:=rv.get hx
  obtain⟨f0,f1,f2,f3,f4,f5⟩:=hf it (by simp)
  refine wpAny_pyNext_tuple_item st (show s.heap.IsTuple a its.toArray from p) (x:=u) (by simpa using hu) fun h' st' sb=>?_
  have I1:Inv X pins σ H {s with heap:=h'}:=I.turned (t':=s.toks) (fun b o hb e=>(sb.2 b hb).trans e) f0 f1 f3 f4 f5
  obtain⟨o,e,c,d⟩:=id st'
  exact⟨u,rfl,uS (s:={s with heap:=h'}) e c d (by decide) ⟨x,H,I1,ru,⟨rfl,fun ys hy=>by rw[I.tuple_inj hy hq];exact hx⟩,st',fun b hb=>(hf b hb).1⟩⟩
 done:=by
  intro X hP hw hK hc i pins s σ H E I hf st hg
  subst hP hw hK
  obtain⟨xs,hq,hx⟩:=hg
  obtain⟨its,rv,p,hz⟩:=I.tuple hq
  obtain⟨f0,f1,f2,f3,f4,f5⟩:=hf it (by simp)
  have hl:=rv.length
  exact wpAny_pyNext_tuple_end (I.ok.hd hc) st (show s.heap.IsTuple a its.toArray from p) (by simp;omega) fun h' eb=>⟨rfl,I.turned (t':=s.toks) (fun b o hb e=>eb b o hb e) f0 f1 f3 f4 f5⟩
 self:=fun _ _ _ _ _ st h=>wpAny_pyIter_tupleiter st h
theorem wd{P:Program}{w:World}{K:PySem.W.Frag}{tg:Expr}(it:Addr)(lo:Int)(n:Nat):Turn P w K tg (GA lo n) [it] it (fun i h=>IsRangeIter h it (lo+(i:Nat)*1) ((n:Int) - (i:Nat)) 1) where
 mem:=by simp
 obj:=fun i h st b hb=>by
  have e:b=it:=by simpa using hb
  subst e
  exact⟨_,st,fun v z=>by
   have z':Data.fields _=Data.cell v:=z
   cases z'⟩
 keep:=fun i h h' st k=>k it (by simp) _ st
 item:=by
  intro X hP hw hK hc i pins s σ H E I hf st hg
  subst hP hw hK
  obtain⟨f0,f1,f2,f3,f4,f5⟩:=hf it (by simp)
  have W:=Walks.range (prog:=X.prog) (w:=X.w) (I.ok.hd hc) it lo 1 n
  refine W.item i s _ _ hg st fun v h' tk hv st' kk=>?_
  obtain⟨t,rfl⟩:=hv
  have I1:Inv X pins σ H {s with heap:=h',toks:=tk}:=I.turned (fun b o hb e=>kk b o (by simpa using hb) e) f0 f1 f3 f4 f5
  refine⟨_,rfl,uS (s:={s with heap:=h',toks:=tk}) (n:="range_iterator") st' rfl rfl (by decide) ⟨.int (lo+i),H,I1,⟨t,?_⟩,⟨rfl,rfl⟩,st',fun b hb=>(hf b hb).1⟩⟩
  rw[Int.mul_one]
 done:=by
  intro X hP hw hK hc i pins s σ H E I hf st hg
  subst hP hw hK
  obtain⟨f0,f1,f2,f3,f4,f5⟩:=hf it (by simp)
  exact wpAny_pyNext_range_end (I.ok.hd hc) st (by have:n≤i:=hg;omega) fun h' eb=>⟨rfl,I.turned (t':=s.toks) (fun b o hb e=>eb b o hb e) f0 f1 f3 f4 f5⟩
 self:=fun _ _ _ _ _ st h=>wpAny_pyIter_rangeiter st h
end L2
namespace L2
open PySem PySem.Spec PyProof.Rows
section
variable {X:Cx} {tg:Expr}
def GB(K:PySem.W.Frag)(tl:TE):TI:=fun σ H R=>tl σ H fun x H1=>∃a,x=.ref a∧(∃xs,SqL K H1 a xs)∧R (HR K a) H1
def HU(K:PySem.W.Frag)(tl:TE):TI:=fun σ H R=>tl σ H fun x H1=>∃a,x=.ref a∧(∃xs,SqT K H1 a xs)∧R (HS K a) H1
theorem CL{l:Expr}{tl:TE}(hl:PE X l tl):PI X tg l (GB X.K tl):=by
 intro pins s σ H R I h
 refine gV (hl pins s σ H _ I h) fun v s1 ⟨x,H1,I1,r1,q1⟩=>?_
 obtain⟨a,e,⟨xs,hq⟩,q⟩:=q1
 subst e
 cases r1
 obtain⟨its,rv,p,hz⟩:=I1.list hq
 refine wpAny_pyIter_list p.isList ?_
 refine⟨s1.heap.objs.size,[s1.heap.objs.size],_,_,H1,rfl,I1.kept (t':=s1.toks) fun b o e=>Heap.get?_push_of_some _ e,yL a _,⟨_,Heap.get?_push_size _ rfl,rfl,rfl⟩,fun b hb=>?_,q⟩
 have e:b=s1.heap.objs.size:=by simpa using hb
 subst e
 exact I1.fpOk (Nat.le_refl _) (I1.hok.fresh (Nat.le_refl _))
theorem EO{l:Expr}{tl:TE}(hl:PE X l tl):PI X tg l (HU X.K tl):=by
 intro pins s σ H R I h
 refine gV (hl pins s σ H _ I h) fun v s1 ⟨x,H1,I1,r1,q1⟩=>?_
 obtain⟨a,e,⟨xs,hq⟩,q⟩:=q1
 subst e
 cases r1
 obtain⟨its,rv,p,hz⟩:=I1.tuple hq
 refine wpAny_pyIter_tuple (show s1.heap.IsTuple a its.toArray from p) ?_
 refine⟨s1.heap.objs.size,[s1.heap.objs.size],_,_,H1,rfl,I1.kept (t':=s1.toks) fun b o e=>Heap.get?_push_of_some _ e,wc a _,⟨_,Heap.get?_push_size _ rfl,rfl,rfl⟩,fun b hb=>?_,q⟩
 have e:b=s1.heap.objs.size:=by simpa using hb
 subst e
 exact I1.fpOk (Nat.le_refl _) (I1.hok.fresh (Nat.le_refl _))
theorem uT{pins:List (Addr×Obj)}{σ:St}{H:Hp}{s:Shared}{R:It→Hp→Prop}{E:Value→Shared→Prop}{lo hi:Int}{t u v:Tok}{tk:Nat}(I:Inv X pins σ H s)(h1: -(2 ^ 62)≤lo)(h2:lo < 2 ^ 62)(h3: -(2 ^ 62)≤hi)(h4:hi < 2 ^ 62)
  (q:R (GA lo (hi - lo).toNat) H):wpAny (model X.prog X.w) X.A (pyIter (.ref s.heap.objs.size)) (IF X pins σ tg R) E {s with heap:=s.heap.push {cls:=.type "range",data:=.fields #[.int lo t,.int hi u,.int 1 v]},toks:=tk}:=by
 refine wpAny_pyIter_range (IsRange.new ..) (small_one h1 h2 h3 h4) ?_
 have I1:Inv X pins σ H {s with heap:=s.heap.push {cls:=.type "range",data:=.fields #[.int lo t,.int hi u,.int 1 v]},toks:=tk}:=I.kept fun b o e=>Heap.get?_push_of_some _ e
 refine⟨(s.heap.push {cls:=.type "range",data:=.fields #[.int lo t,.int hi u,.int 1 v]}).objs.size,[(s.heap.push {cls:=.type "range",data:=.fields #[.int lo t,.int hi u,.int 1 v]}).objs.size],_,_,H,rfl,
  I1.kept (t':=tk) fun b o e=>Heap.get?_push_of_some _ e,wd _ lo (hi - lo).toNat,?_,fun b hb=>?_,q⟩
 ·have e1:lo+((0:Nat):Int)*1=lo:=by simp
  have e2:(((hi - lo).toNat:Nat):Int) - ((0:Nat):Int)=Builtin.Range.rangeSize lo hi 1:=by rw[rangeSize_one];split <;> omega
  show IsRangeIter _ _ (lo+((0:Nat):Int)*1) ((((hi - lo).toNat:Nat):Int) - ((0:Nat):Int)) 1
  rw[e1,e2]
  exact Heap.get?_push_size _ rfl
 ·have e:b=(s.heap.push {cls:=.type "range",data:=.fields #[.int lo t,.int hi u,.int 1 v]}).objs.size:=by simpa using hb
  subst e
  exact I1.fpOk (Nat.le_refl _) (I1.hok.fresh (Nat.le_refl _))
def GC(ta:TA):TI:=fun σ H R=>ta σ H fun vs H1=>∃j:Int,vs=[.int j]∧ -(2 ^ 62)≤j∧j < 2 ^ 62∧R (GA 0 j.toNat) H1
def GD(ta:TA):TI:=fun σ H R=>ta σ H fun vs H1=>∃i j:Int,vs=[.int i,.int j]∧(-(2 ^ 62)≤i∧i < 2 ^ 62∧ -(2 ^ 62)≤j∧j < 2 ^ 62)∧R (GA i (j - i).toNat) H1
theorem yM {a:Expr} {ta:TA} {p pos:Pos} (hg:Gl X "range") (hm:X.mg "range"=none) (ha:PA X [a] ta) (hs:starEach [a] X.env=[(false,eval a X.env)]:=by rfl):PI X tg (.Call (.Name "range" p) [a] [] pos) (GC ta):=by
 intro pins s σ H R I h
 refine Call_ (mZ I hg hm boot_range (PyProof.Rows.callWith_type1 (gV (ha pos pins s σ H _ I h) fun us s1 ⟨vs,H1,I1,r1,q1⟩=>?_) hs rfl))
 obtain⟨j,e,q1,q2,q⟩:=q1
 subst e
 cases r1 with
 |cons r rr=>
  cases rr
  obtain⟨t,rfl⟩:=r
  exact call_range_1 (uT I1 (by omega) (by omega) q1 q2 (by simpa using q))
theorem yN {a b:Expr} {ta:TA} {p pos:Pos} (hg:Gl X "range") (hm:X.mg "range"=none) (ha:PA X [a,b] ta) (hs:starEach [a,b] X.env=[(false,eval a X.env),(false,eval b X.env)]:=by rfl) (hs2:starEach [b] X.env=[(false,eval b X.env)]:=by rfl):
  PI X tg (.Call (.Name "range" p) [a,b] [] pos) (GD ta):=by
 intro pins s σ H R I h
 refine Call_ (mZ I hg hm boot_range (PyProof.Rows.callWith_type1 (gV (ha pos pins s σ H _ I h) fun us s1 ⟨vs,H1,I1,r1,q1⟩=>?_) (by rw[hs,hs2]) (by rw[hs2];rfl)))
 obtain⟨i,j,e,⟨q1,q2,q3,q4⟩,q⟩:=q1
 subst e
 cases r1 with
 |cons r rr=>
  cases rr with
  |cons r' rr=>
   cases rr
   obtain⟨t,rfl⟩:=r
   obtain⟨t',rfl⟩:=r'
   exact call_range_2 (uT I1 q1 q2 q3 q4 q)
def HV(wi:TI)(g:TG)(tb:TS):TS:=fun D σ H=>wi σ H fun J H1=>∃W:Nat→Nat→St→Hp→Prop,(∃m,W 0 m σ H1)∧∀i m σ H,W i m σ H→
 (J.stop i H∧D.nx σ H)∨(J.go i H∧∃N:St→Hp→Prop,(∀σ' H',N σ' H'→∃m',m' < m∧W (i+1) m' σ' H')∧∀x H',J.yld i H x H'→g x σ H' fun σ2 H2=>tb {D with nx:=N,ct:=N,bk:=D.nx} σ2 H2)
def qe(fp:List Addr)(h:Heap):List (Addr×Obj):=fp.filterMap fun b=>(h.get? b).map fun o=>(b,o)
theorem kK{fp:List Addr}{h:Heap}{b:Addr}{o:Obj}(hb:b∈fp)(e:h.get? b=some o):(b,o)∈qe fp h:=List.mem_filterMap.mpr ⟨b,hb,by rw[e];rfl⟩
theorem yO{fp:List Addr}{h:Heap}{p:Addr×Obj}(hp:p∈qe fp h):p.1∈fp∧h.get? p.1=some p.2:=by
 obtain⟨b,hb,e⟩:=List.mem_filterMap.mp hp
 cases q:h.get? b with
 |none=>rw[q]at e;cases e
 |some o=>
  rw[q]at e
  have e':(b,o)=p:=Option.some.inj e
  subst e'
  exact⟨hb,q⟩
theorem Inv.pinned{pins:List (Addr×Obj)}{σ:St}{H:Hp}{s:Shared}{fp:List Addr}(I:Inv X pins σ H s)(hf:∀b∈fp,uR X pins H b)(ho:∀b∈fp,∃o,s.heap.get? b=some o∧∀v,o.data≠ .cell v):Inv X (pins++qe fp s.heap) σ H s:=
 I.pins_of fun p hp=>(List.mem_append.mp hp).elim (fun z=>I.pin p (List.mem_append_right _ z)) fun z=>by
  obtain⟨hb,e⟩:=yO z
  obtain⟨f0,f1,f2,_⟩:=hf p.1 hb
  obtain⟨o,e',d⟩:=ho p.1 hb
  rw[e]at e';cases e'
  exact⟨e,f0,f1,f2,d⟩
theorem Inv.unpinned{pins pl:List (Addr×Obj)}{σ:St}{H:Hp}{s:Shared}(I:Inv X (pins++pl) σ H s):Inv X pins σ H s:=I.pins_of fun p hp=>I.pin p (List.mem_append_right _ (List.mem_append_left _ hp))
theorem EQ{iter:Expr}{body:List Stmt}{wi:TI}{g:TG}{tb:TS}{pos:Pos}(hp:PassesOwn (model X.prog X.w) X.A X.env X.xe)(hc:X.calm=true)(hi:PI X tg iter wi)(hg:PG X tg g)(hb:PSs X body tb)
  (hs:∀x,foldedSetIterable iter X.env x=pure x:=by intro _;rfl):PS X (.For tg iter body [] pos) (HV wi g tb):=by
 intro pins s σ H D I h
 refine wpAny_For (gV (hi pins s σ H _ I h) fun v s1 h1=>gV h1 fun itv s2 h2=>?_) hs
 obtain⟨it,fp,tn,J,H2,e,I2,T,st2,f2,W,⟨m0,w0⟩,turn⟩:=h2
 subst e
 -- what stays true of the iterator's objects through the loop
 have stat:∀{H':Hp},(∀b∈fp,H' b=none)→∀b∈fp,uR X pins H' b:=fun hn b hb=>⟨hn b hb,(f2 b hb).2⟩
 refine codeAny_forLoop_any (fun n s'=>∃i σ' H',Inv X pins σ' H' s'∧tn i s'.heap∧(∀b∈fp,H' b=none)∧W i n σ' H') ?_ m0 ⟨0,σ,H2,I2,st2,fun b hb=>(f2 b hb).1,w0⟩
 rintro n s3 ⟨i,σ3,H3,I3,st3,fr3,w3⟩
 rcases turn i n σ3 H3 w3 with⟨stop,qn⟩ |⟨go,N,hN,step⟩
 ·refine wpAny_passesOwn hp (gV (T.done X rfl rfl rfl hc i pins s3 σ3 H3 X.xe I3 (stat fr3) st3 stop) fun r s4 ⟨hr,I4⟩=>?_)
  subst hr
  exact wpAny_execs_nil ⟨σ3,H3,I4,qn⟩
 ·refine wpAny_passesOwn hp (gV (T.item X rfl rfl rfl hc i pins s3 σ3 H3 X.xe I3 (stat fr3) st3 go) fun r s4 ⟨u,hr,h4⟩=>?_)
  subst hr
  refine wpAny_passesOwn hp (gV h4 fun _ s5 ⟨x,H5,I5,r5,y5,st5,fr5⟩=>?_)
  have I5':=I5.pinned (stat fr5) (T.obj _ _ st5)
  refine wpAny_passesOwn hp (gV (hg _ s5 σ3 H5 x u _ I5' r5 (step x H5 y5)) fun _ s6 ⟨σ6,H6,I6,q6⟩=>?_)
  refine wpAny_passesOwn hp (gV (hb _ s6 σ6 H6 _ I6 q6) fun f s7 q7=>?_)
  have again:∀{σ7:St} {H7:Hp},Inv X (pins++qe fp s5.heap) σ7 H7 s7→N σ7 H7→∃m,m < n∧∃i σ' H',Inv X pins σ' H' s7∧tn i s7.heap∧(∀b∈fp,H' b=none)∧W i m σ' H':=fun {σ7 H7} I7 n7=>by
   obtain⟨m',hm,w7⟩:=hN σ7 H7 n7
   refine⟨m',hm,i+1,σ7,H7,I7.unpinned,T.keep _ _ _ st5 fun b hb o e=>(I7.pin (b,o) (List.mem_append_right _ (List.mem_append_right _ (kK hb e)))).1,fun b hb=>?_,w7⟩
   obtain⟨o,e,d⟩:=T.obj _ _ st5 b hb
   exact(I7.pin (b,o) (List.mem_append_right _ (List.mem_append_right _ (kK hb e)))).2.1
  cases f with
  |next=>obtain⟨σ7,H7,I7,n7⟩:=q7;exact again I7 n7
  |cont=>obtain⟨σ7,H7,I7,n7⟩:=q7;exact again I7 n7
  |brk=>obtain⟨σ7,H7,I7,q7⟩:=q7;exact⟨σ7,H7,I7.unpinned,q7⟩
  |ret v=>obtain⟨x7,σ7,H7,I7,r7,q7⟩:=q7;exact⟨x7,σ7,H7,I7.unpinned,r7,q7⟩
end
end L2
namespace L2
open PySem PySem.Spec PyProof.Rows
abbrev R2:=V→V→Hp→VK→Prop
def OpR(X:Cx)(f:Value→Value→Sem Value)(r:R2):Prop:=
 ∀(pins:List (Addr×Obj)) (s:Shared) (σ:St) (H:Hp) (x y:V) (v u:Value) (Q:VK),Inv X pins σ H s→RelV x v→RelV y u→r x y H Q→
  wpAny (model X.prog X.w) X.A (f v u) (EP X pins σ Q) X.xe s
def HW(X:Cx)(f:Value→Sem Value)(r:V→Hp→VK→Prop):Prop:=
 ∀(pins:List (Addr×Obj)) (s:Shared) (σ:St) (H:Hp) (x:V) (v:Value) (Q:VK),Inv X pins σ H s→RelV x v→r x H Q→
  wpAny (model X.prog X.w) X.A (f v) (EP X pins σ Q) X.xe s
def CallR(X:Cx)(f:Value)(r:List V→Hp→VK→Prop):Prop:=
 ∀(pins:List (Addr×Obj)) (s:Shared) (σ:St) (H:Hp) (xs:List V) (us:List Value) (Q:VK),Inv X pins σ H s→Vals xs us→r xs H Q→
  wpAny (model X.prog X.w) X.A (call f us) (EP X pins σ Q) X.xe s
def HX(X:Cx)(r:V→Hp→(Bool→Hp→Prop)→Prop):Prop:=
 ∀(pins:List (Addr×Obj)) (s:Shared) (σ:St) (H:Hp) (x:V) (v:Value) (Q:Bool→Hp→Prop),Inv X pins σ H s→RelV x v→r x H Q→
  wpAny (model X.prog X.w) X.A (truthy v) (TP X pins σ Q) X.xe s
def GE(r:R2)(ta tb:TE):TE:=fun σ H Q=>ta σ H fun x H1=>tb σ H1 fun y H2=>r x y H2 Q
def IO(r:V→Hp→VK→Prop)(ta:TE):TE:=fun σ H Q=>ta σ H fun x H1=>r x H1 Q
def rI(C:Int→Int→Prop)(g:Int→Int→V):R2:=fun x y H Q=>∃i j,x=.int i∧y=.int j∧C i j∧Q (g i j) H
def CM(g:Int→Int→V):R2:=fun x y H Q=>∃i j,x=.int i∧y=.int j∧Q (g i j) H
def rU(g:Int→V):V→Hp→VK→Prop:=fun x H Q=>∃i,x=.int i∧Q (g i) H
section
variable {X:Cx} {a b c:Expr} {ta tb tc:TE} {pos:Pos}
theorem ER(ha:PE X a ta)(hb:PE X b tb){pins:List (Addr×Obj)}{s:Shared}{σ:St}{H:Hp}{R:V→V→Hp→Prop}(I:Inv X pins σ H s)
  (h:ta σ H fun x H1=>tb σ H1 fun y H2=>R x y H2) {Q:Value→Shared→Prop} {f:Value→Value→Sem Value}
  (hf:∀v u s2 x y H2,Inv X pins σ H2 s2→RelV x v→RelV y u→R x y H2→wpAny (model X.prog X.w) X.A (f v u) Q X.xe s2):
  wpAny (model X.prog X.w) X.A (eval a X.env) (fun v s₁=>wpAny (model X.prog X.w) X.A (eval b X.env) (fun u s₂=>wpAny (model X.prog X.w) X.A (f v u) Q X.xe s₂) X.xe s₁) X.xe s:=by
 refine gV (ha pins s σ H _ I h) fun v s1 ⟨x,H1,I1,r1,q1⟩=>?_
 refine gV (hb pins s1 σ H1 _ I1 q1) fun u s2 ⟨y,H2,I2,r2,q2⟩=>?_
 exact hf v u s2 x y H2 I2 r1 r2 q2
theorem GF{op:Operator}{r:R2}(ho:OpR X (binaryOp op) r)(ha:PE X a ta)(hb:PE X b tb):PE X (.BinOp a op b pos) (GE r ta tb):=by
 intro pins s σ H Q I h
 exact wpAny_BinOp (ER ha hb I h fun v u s2 x y H2 I2 rx ry q=>ho pins s2 σ H2 x y v u Q I2 rx ry q)
theorem GG{op:UnaryOp}{r:V→Hp→VK→Prop}(ho:HW X (unaryOp op) r)(ha:PE X a ta):PE X (.UnaryOp op a pos) (IO r ta):=by
 intro pins s σ H Q I h
 exact UnaryOp_ (gV (ha pins s σ H _ I h) fun v s1 ⟨x,H1,I1,r1,q1⟩=>ho pins s1 σ H1 x v Q I1 r1 q1)
theorem GH{f:Value→Value→Sem Value}{C:Int→Int→Prop}{g:Int→Int→Int}
  (rule:∀(i j:Int) (t u:Tok) (s:Shared) (Q:Value→Shared→Prop) (E:Value→Shared→Prop),C i j→Q (.int (g i j) s.toks) {s with toks:=s.toks+1}→wpAny (model X.prog X.w) X.A (f (.int i t) (.int j u)) Q E s):
  OpR X f (rI C fun i j=>.int (g i j)):=by
 intro pins s σ H x y v u Q I rx ry h
 obtain⟨i,j,rfl,rfl,hc,q⟩:=h
 obtain⟨t,rfl⟩:=rx
 obtain⟨t',rfl⟩:=ry
 exact rule i j t t' s _ _ hc ⟨.int (g i j),H,I.tok _,⟨_,rfl⟩,q⟩
theorem ES{f:Value→Value→Sem Value}{g:Int→Int→Int}
  (rule:∀(i j:Int) (t u:Tok) (s:Shared) (Q:Value→Shared→Prop) (E:Value→Shared→Prop),Q (.int (g i j) s.toks) {s with toks:=s.toks+1}→wpAny (model X.prog X.w) X.A (f (.int i t) (.int j u)) Q E s):
  OpR X f (CM fun i j=>.int (g i j)):=by
 intro pins s σ H x y v u Q I rx ry h
 obtain⟨i,j,rfl,rfl,q⟩:=h
 obtain⟨t,rfl⟩:=rx
 obtain⟨t',rfl⟩:=ry
 exact rule i j t t' s _ _ ⟨.int (g i j),H,I.tok _,⟨_,rfl⟩,q⟩
theorem CN{f:Value→Value→Sem Value}{g:Int→Int→Bool}
  (rule:∀(i j:Int) (t u:Tok) (s:Shared) (Q:Value→Shared→Prop) (E:Value→Shared→Prop),Q (.bool (g i j)) s→wpAny (model X.prog X.w) X.A (f (.int i t) (.int j u)) Q E s):
  OpR X f (CM fun i j=>.bl (g i j)):=by
 intro pins s σ H x y v u Q I rx ry h
 obtain⟨i,j,rfl,rfl,q⟩:=h
 obtain⟨t,rfl⟩:=rx
 obtain⟨t',rfl⟩:=ry
 exact rule i j t t' s _ _ ⟨.bl (g i j),H,I,rfl,q⟩
def GI(i j:Int):Prop:=0≤j∧j≤1000000∧i.natAbs < 2 ^ 64
def CMul(i j:Int):Prop:=(-(2 ^ 64) < i∧i < 2 ^ 64)∨(-(2 ^ 64) < j∧j < 2 ^ 64)
theorem CMul.ok{i j:Int}(h:CMul i j):IntMulOk i j:=by
 rcases h with⟨h1,h2⟩ |⟨h1,h2⟩
 ·exact .of_left (intBits_le_64 h1 h2)
 ·exact .of_right (intBits_le_64 h1 h2)
theorem we(k:Nat):(0:Int)≤2 ^ k:=by
 rw[two_pow_cast]
 exact Int.natCast_nonneg _
theorem ET:OpR X (binaryOp .Add) (CM fun i j=>.int (i+j)):=ES fun _ _ _ _ _ _ _ q=>add_int q
theorem EU:OpR X (binaryOp .Sub) (CM fun i j=>.int (i - j)):=ES fun _ _ _ _ _ _ _ q=>sub_int q
theorem EV:OpR X (binaryOp .Mod) (rI (fun _ j=>0 < j) fun i j=>.int (i % j)):=GH fun i j _ _ _ _ _ hc q=>by
 have h1:(0:Int) < j:=hc
 exact mod_int' (by omega) (by rw[Int.fmod_eq_emod_of_nonneg i (by omega)];exact q)
theorem EW:OpR X (binaryOp .Pow) (rI GI fun i j=>.int (i ^ j.toNat)):=GH fun _ _ _ _ _ _ _ hc q=>pow_int_small hc.1 hc.2.1 hc.2.2 q
theorem EY:OpR X (binaryOp .RShift) (rI (fun _ j=>0≤j) fun i j=>.int (i / 2 ^ j.toNat)):=GH fun i j _ _ _ _ _ hc q=>
 rshift_int hc (by rw[Int.fdiv_eq_ediv_of_nonneg i (we _)];exact q)
theorem EZ:OpR X (binaryOp .BitAnd) (CM fun i j=>.int (Builtin.bitAnd i j)):=ES fun _ _ _ _ _ _ _ q=>and_int q
theorem IQ{f:Value→Sem Value}{g:Int→Int}
  (rule:∀(i:Int) (t:Tok) (s:Shared) (Q:Value→Shared→Prop) (E:Value→Shared→Prop),Q (.int (g i) s.toks) {s with toks:=s.toks+1}→wpAny (model X.prog X.w) X.A (f (.int i t)) Q E s):
  HW X f (rU fun i=>.int (g i)):=by
 intro pins s σ H x v Q I rx h
 obtain⟨i,rfl,q⟩:=h
 obtain⟨t,rfl⟩:=rx
 exact rule i t s _ _ ⟨.int (g i),H,I.tok _,⟨_,rfl⟩,q⟩
theorem E7:HW X (unaryOp .USub) (rU fun i=>.int (-i)):=IQ fun _ _ _ _ _ q=>neg_int q
end
def E8:V→V→Bool
 |.non,.non=>true |.non,.int _=>true |.int _,.non=>true |.non,.bl _=>true |.bl _,.non=>true |.non,.str _=>true |.str _,.non=>true
 |.int _,.int _=>true |.bl _,.bl _=>true |.str _,.str _=>true |.byt _,.byt _=>true
 |.int _,.str _=>true |.str _,.int _=>true |.bl _,.str _=>true |.str _,.bl _=>true
 |_,_=>false
def IG:R2:=fun x y H Q=>E8 x y=true∧Q (.bl (decide (x=y))) H
def IH:R2:=fun x y H Q=>E8 x y=true∧Q (.bl (!decide (x=y))) H
theorem xq{i j:Int}:decide (V.int i=V.int j)=(i == j):=by
 rw[Bool.eq_iff_iff]
 simp
theorem At{i j:Bool}:decide (V.bl i=V.bl j)=(i == j):=by
 rw[Bool.eq_iff_iff]
 simp
theorem xr{i j:Str}:decide (V.str i=V.str j)=(i == j):=by
 rw[Bool.eq_iff_iff]
 simp
theorem xt{i j:Array UInt8}:decide (V.byt i=V.byt j)=(i.toList == j.toList):=by
 rw[Bool.eq_iff_iff]
 cases i
 cases j
 simp
section
variable {X:Cx} {a b c:Expr} {ta tb tc:TE} {pos:Pos}
theorem bu{pins:List (Addr×Obj)}{σ:St}{H:Hp}{s:Shared}{Q:VK}{k k':Bool}(I:Inv X pins σ H s)(q:Q (.bl k) H)(e:k=k'):EP X pins σ Q (.bool k') s:=by
 subst e
 exact⟨.bl k,H,I,rfl,q⟩
theorem D7:OpR X (compareOp .Eq) IG:=by
 intro pins s σ H x y v u Q I rx ry h
 obtain⟨hs,q⟩:=h
 cases x with
 |non=>
  cases rx
  cases y with
  |non=>cases ry;exact PySem.EqNone.eq_none_none (bu I q (by simp))
  |bl j=>cases ry;exact PySem.EqNone.eq_none_bool (bu I q (by simp))
  |int j=>obtain⟨t',rfl⟩:=ry;exact PySem.EqNone.eq_none_int (bu I q (by simp))
  |str j=>obtain⟨t',rfl⟩:=ry;exact PySem.EqNone.eq_none_str (bu I q (by simp))
  |_=>exact absurd (show false=true from hs) Bool.false_ne_true
 |bl i=>
  cases rx
  cases y with
  |non=>cases ry;exact PySem.EqNone.eq_bool_none (bu I q (by simp))
  |bl j=>cases ry;exact eq_bool (bu I q At)
  |str j=>obtain⟨t',rfl⟩:=ry;exact PySem.EqMixed.eq_bool_str (bu I q (by simp))
  |_=>exact absurd (show false=true from hs) Bool.false_ne_true
 |int i=>
  obtain⟨t,rfl⟩:=rx
  cases y with
  |non=>cases ry;exact PySem.EqNone.eq_int_none (bu I q (by simp))
  |int j=>obtain⟨t',rfl⟩:=ry;exact eq_int (bu I q xq)
  |str j=>obtain⟨t',rfl⟩:=ry;exact PySem.EqMixed.eq_int_str (bu I q (by simp))
  |_=>exact absurd (show false=true from hs) Bool.false_ne_true
 |str i=>
  obtain⟨t,rfl⟩:=rx
  cases y with
  |non=>cases ry;exact PySem.EqNone.eq_str_none (bu I q (by simp))
  |bl j=>cases ry;exact PySem.EqMixed.eq_str_bool (bu I q (by simp))
  |int j=>obtain⟨t',rfl⟩:=ry;exact PySem.EqMixed.eq_str_int (bu I q (by simp))
  |str j=>obtain⟨t',rfl⟩:=ry;exact eq_str (bu I q xr)
  |_=>exact absurd (show false=true from hs) Bool.false_ne_true
 |byt i=>
  obtain⟨t,rfl⟩:=rx
  cases y with
  |byt j=>obtain⟨t',rfl⟩:=ry;exact PySem.W.eq_bytes (bu I q xt)
  |_=>exact absurd (show false=true from hs) Bool.false_ne_true
 |_=>cases y <;> exact absurd (show false=true from hs) Bool.false_ne_true
theorem GJ:OpR X (compareOp .NotEq) IH:=by
 intro pins s σ H x y v u Q I rx ry h
 obtain⟨hs,q⟩:=h
 cases x with
 |non=>
  cases rx
  cases y with
  |non=>cases ry;exact PySem.EqNone.ne_none_none (bu I q (by simp))
  |bl j=>cases ry;exact PySem.EqNone.ne_none_bool (bu I q (by simp))
  |int j=>obtain⟨t',rfl⟩:=ry;exact PySem.EqNone.ne_none_int (bu I q (by simp))
  |str j=>obtain⟨t',rfl⟩:=ry;exact PySem.EqNone.ne_none_str (bu I q (by simp))
  |_=>exact absurd (show false=true from hs) Bool.false_ne_true
 |bl i=>
  cases rx
  cases y with
  |non=>cases ry;exact PySem.EqNone.ne_bool_none (bu I q (by simp))
  |bl j=>cases ry;exact ne_bool (bu I q (congrArg not At))
  |str j=>obtain⟨t',rfl⟩:=ry;exact PySem.EqMixed.ne_bool_str (bu I q (by simp))
  |_=>exact absurd (show false=true from hs) Bool.false_ne_true
 |int i=>
  obtain⟨t,rfl⟩:=rx
  cases y with
  |non=>cases ry;exact PySem.EqNone.ne_int_none (bu I q (by simp))
  |int j=>obtain⟨t',rfl⟩:=ry;exact ne_int (bu I q (congrArg not xq))
  |str j=>obtain⟨t',rfl⟩:=ry;exact PySem.EqMixed.ne_int_str (bu I q (by simp))
  |_=>exact absurd (show false=true from hs) Bool.false_ne_true
 |str i=>
  obtain⟨t,rfl⟩:=rx
  cases y with
  |non=>cases ry;exact PySem.EqNone.ne_str_none (bu I q (by simp))
  |bl j=>cases ry;exact PySem.EqMixed.ne_str_bool (bu I q (by simp))
  |int j=>obtain⟨t',rfl⟩:=ry;exact PySem.EqMixed.ne_str_int (bu I q (by simp))
  |str j=>obtain⟨t',rfl⟩:=ry;exact ne_str (bu I q (congrArg not xr))
  |_=>exact absurd (show false=true from hs) Bool.false_ne_true
 |byt i=>
  obtain⟨t,rfl⟩:=rx
  cases y with
  |byt j=>obtain⟨t',rfl⟩:=ry;exact PySem.W.ne_bytes (bu I q (congrArg not xt))
  |_=>exact absurd (show false=true from hs) Bool.false_ne_true
 |_=>cases y <;> exact absurd (show false=true from hs) Bool.false_ne_true
theorem GK:OpR X (compareOp .Lt) (CM fun i j=>.bl (decide (i < j))):=CN fun _ _ _ _ _ _ _ q=>lt_int q
theorem GL:OpR X (compareOp .LtE) (CM fun i j=>.bl (decide (i≤j))):=CN fun _ _ _ _ _ _ _ q=>le_int q
theorem GM:OpR X (compareOp .Gt) (CM fun i j=>.bl (decide (j < i))):=CN fun _ _ _ _ _ _ _ q=>gt_int q
theorem GN:OpR X (compareOp .GtE) (CM fun i j=>.bl (decide (j≤i))):=CN fun _ _ _ _ _ _ _ q=>ge_int q
theorem yP:OpR X (compareOp .Lt) (fun x y H Q=>∃i j,x=.str i∧y=.str j∧Q (.bl (decide (i.cps.toList < j.cps.toList))) H):=by
 intro pins s σ H x y v u Q I rx ry h
 obtain⟨i,j,rfl,rfl,q⟩:=h
 obtain⟨t,rfl⟩:=rx
 obtain⟨t',rfl⟩:=ry
 exact lt_str (bu I q rfl)
theorem yQ:OpR X (compareOp .In) (fun x y H Q=>∃i j,x=.str i∧y=.str j∧Q (.bl (!(Builtin.Str.occurrences j i 0 j.length 1).isEmpty)) H):=by
 intro pins s σ H x y v u Q I rx ry h
 obtain⟨i,j,rfl,rfl,q⟩:=h
 obtain⟨t,rfl⟩:=rx
 obtain⟨t',rfl⟩:=ry
 exact in_str (bu I q rfl)
theorem OpR.or{f:Value→Value→Sem Value}{r r':R2}(h:OpR X f r)(h':OpR X f r'):OpR X f (fun x y H Q=>r x y H Q∨r' x y H Q):=by
 intro pins s σ H x y v u Q I rx ry q
 rcases q with q |q
 ·exact h pins s σ H x y v u Q I rx ry q
 ·exact h' pins s σ H x y v u Q I rx ry q
theorem tF(b:Expr){op:CmpOp}(h:op≠ .In:=by decide)(h2:op≠ .NotIn:=by decide):behindInMarks op b=false:=by
 have e1:(op == CmpOp.In)=false:=by cases op <;> first |rfl |exact absurd rfl h
 have e2:(op == CmpOp.NotIn)=false:=by cases op <;> first |rfl |exact absurd rfl h2
 cases b <;> simp[behindInMarks,e1,e2]
theorem CO{op:CmpOp}{r:R2}(ho:OpR X (compareOp op) r)(ha:PE X a ta)(hb:PE X b tb)(hm:behindInMarks op b=false):PE X (.Compare a [op] [b] pos) (GE r ta tb):=by
 intro pins s σ H Q I h
 exact wpAny_Compare1 (ER ha hb I h fun v u s2 x y H2 I2 rx ry q=>ho pins s2 σ H2 x y v u Q I2 rx ry q) hm
def GO(t:TE):TT:=fun σ H Q=>t σ H fun x H'=>∃k,x=.bl k∧Q k H'
theorem CP{op:CmpOp}{r:R2}(ho:OpR X (compareOp op) r)(ha:PE X a ta)(hb:PE X b tb)(hm:behindInMarks op b=false):PT X (.Compare a [op] [b] pos) (GO (GE r ta tb)):=by
 intro pins s σ H Q I h
 refine wpAny_isTrue_Compare1 (gV (ha pins s σ H _ I h) fun v s1 ⟨x,H1,I1,r1,q1⟩=>gV (hb pins s1 σ H1 _ I1 q1) fun u s2 ⟨y,H2,I2,r2,q2⟩=>
  gV (ho pins s2 σ H2 x y v u _ I2 r1 r2 q2) fun c s3 ⟨z,H3,I3,r3,k,e,q3⟩=>?_) hm
 subst e
 cases r3
 exact wpAny_truthy_bool ⟨H3,I3,q3⟩
def Au(r r':R2)(ta tb tc:TE):TE:=fun σ H Q=>ta σ H fun x H1=>tb σ H1 fun y H2=>r x y H2 fun z H3=>∃k,z=.bl k∧
 (if k=true then tc σ H3 fun w' H4=>r' y w' H4 Q else Q (.bl false) H3)
theorem Av{op op':CmpOp}{r r':R2}(ho:OpR X (compareOp op) r)(ho':OpR X (compareOp op') r')(ha:PE X a ta)(hb:PE X b tb)(hc:PE X c tc)
  (hm:lastMarks [op,op'] [b,c]=false:=by with_unfolding_all rfl):PE X (.Compare a [op,op'] [b,c] pos) (Au r r' ta tb tc):=by
 intro pins s σ H Q I h
 refine Compare_chain (gV (ha pins s σ H _ I h) fun v s1 ⟨x,H1,I1,r1,q1⟩=>chain_link (gV (hb pins s1 σ H1 _ I1 q1) fun u s2 ⟨y,H2,I2,r2,q2⟩=>
  gV (ho pins s2 σ H2 x y v u _ I2 r1 r2 q2) fun d s3 ⟨z,H3,I3,r3,k,e,q3⟩=>?_)) hm
 subst e
 cases r3
 refine wpAny_truthy_bool ?_
 cases k with
 |false=>exact ite_ff ⟨.bl false,H3,I3,rfl,q3⟩
 |true=>exact ite_tt (chain_last (gV (hc pins s3 σ H3 _ I3 q3) fun w' s4 ⟨z',H4,I4,r4,q4⟩=>ho' pins s4 σ H4 y z' u w' Q I4 r2 r4 q4))
def Aw(K:PySem.W.Frag)(x:V)(H:Hp)(k:Bool):Prop:=
 match x with
 |.non=>k=false
 |.bl b=>k=b
 |.int i=>k=(i != 0)
 |.str y=>y.length≤sizeLine∧k=((y.length:Int) != 0)
 |.byt y=>y.size≤sizeLine∧k=((y.size:Int) != 0)
 |.ref p=>(∃xs,SqL K H p xs∧k= !xs.isEmpty)∨(∃xs,SqT K H p xs∧k= !xs.isEmpty)∨∃kvs,H p=some (.dK kvs)∧k= !kvs.isEmpty
 |_=>False
theorem wf{κ:Type}{kvs:List (κ×V)}{vs:List (κ×Value)}(r:KV kvs vs):(!vs.isEmpty)= !kvs.isEmpty:=by
 cases r <;> rfl
theorem qf{xs:List V}{its:List Value}(r:Vals xs its):(!its.toArray.isEmpty)= !xs.isEmpty:=by
 cases r <;> simp
theorem oj:(sizeLine:Nat) < 2 ^ 63:=by rw[sizeLine_eq];decide
theorem E9:HX X (fun x H Q=>∃k,Aw X.K x H k∧Q k H):=by
 intro pins s σ H x v Q I rx h
 obtain⟨k,e,q⟩:=h
 have hl:=oj
 have hs:sizeLine=16777216:=sizeLine_eq
 cases x with
 |non=>
  cases rx
  have e':k=false:=e
  subst e'
  exact truthy_none ⟨H,I,q⟩
 |bl b=>
  cases rx
  have e':k=b:=e
  subst e'
  exact wpAny_truthy_bool ⟨H,I,q⟩
 |int i=>
  obtain⟨t,rfl⟩:=rx
  have e':k=(i != 0):=e
  subst e'
  exact PySem.P.truthy_int ⟨H,I,q⟩
 |str y=>
  obtain⟨t,rfl⟩:=rx
  obtain⟨hy,e'⟩:y.length≤sizeLine∧k=((y.length:Int) != 0):=e
  subst e'
  exact PySem.P.truthy_str (by omega) ⟨H,I.tok _,q⟩
 |byt y=>
  obtain⟨t,rfl⟩:=rx
  obtain⟨hy,e'⟩:y.size≤sizeLine∧k=((y.size:Int) != 0):=e
  subst e'
  exact PySem.W.truthy_bytes (by omega) ⟨H,I.tok _,q⟩
 |ref p=>
  cases rx
  have e':(∃xs,SqL X.K H p xs∧k= !xs.isEmpty)∨(∃xs,SqT X.K H p xs∧k= !xs.isEmpty)∨∃kvs,H p=some (.dK kvs)∧k= !kvs.isEmpty:=e
  rcases e' with⟨xs,hx,e'⟩ |⟨xs,hx,e'⟩ |⟨kvs,hx,e'⟩
  ·subst e'
   obtain⟨its,r,pl,hz⟩:=I.list hx
   have hlen:=r.length
   exact wpAny_truthy_list pl.isList (by simp only[List.size_toArray];omega) ⟨H,I.tok _,by rw[qf r];exact q⟩
  ·subst e'
   obtain⟨its,r,pl,hz⟩:=I.tuple hx
   have hlen:=r.length
   exact truthy_tuple pl (by simp only[List.size_toArray];omega) ⟨H,I.tok _,by rw[qf r];exact q⟩
  ·subst e'
   obtain⟨hz,hS,vs,r,m⟩:kvs.length≤sizeLine∧(p == sysModules)=false∧∃vs,KV kvs vs∧s.heap.DictOf (pQ X.prog X.w) p vs:=I.hok p _ hx
   have hlen:kvs.length=vs.length:=Paired.length r
   exact wpAny_truthy_dict hS m (by omega) ⟨H,I.tok _,by rw[wf r];exact q⟩
 |_=>exact(show False from e).elim
theorem Ax(ha:PE X a ta)(he:∀whole,isTrue a X.env whole=(do let v ←whole;standAt a.pos;holding [v] (truthy v))):
  PT X a (fun σ H Q=>ta σ H fun x H'=>∃k,Aw X.K x H' k∧Q k H'):=by
 intro pins s σ H Q I h
 exact isTrue_plain (gV (ha pins s σ H _ I h) fun v s1 ⟨x,H1,I1,r1,q1⟩=>E9 pins s1 σ H1 x v Q I1 r1 q1) (he _)
theorem wg:OpR X (binaryOp .Add) (fun x y H Q=>∃i j,x=.str i∧y=.str j∧i.length+j.length≤sizeLine∧Q (.str (i++j)) H):=by
 intro pins s σ H x y v u Q I rx ry h
 obtain⟨i,j,rfl,rfl,hz,q⟩:=h
 obtain⟨t,rfl⟩:=rx
 obtain⟨t',rfl⟩:=ry
 exact add_str (fun t' tk=>⟨.str (i++j),H,I.tok _,⟨_,rfl⟩,q⟩) hz
theorem xu{x:V}{us:List Value}(r:Vals [x] us):∃u,us=[u]∧RelV x u:=by
 cases r with
 |cons r1 r2=>cases r2;exact⟨_,rfl,r1⟩
theorem Ay:CallR X (.builtin "abs") (fun xs H Q=>∃i,xs=[.int i]∧Q (.int (if i < 0 then -i else i)) H):=by
 intro pins s σ H xs us Q I r h
 obtain⟨i,rfl,q⟩:=h
 obtain⟨u,rfl,t,rfl⟩:=xu r
 exact call_abs_int fun u tk=>⟨.int (if i < 0 then -i else i),H,I.tok _,⟨_,rfl⟩,q⟩
end
end L2
namespace L2
open PySem PySem.Spec PyProof.Rows
structure ObjM (h:Heap) (x dx C:Addr) (mA:Str→Option Value):Prop where
 obj:h.get? x=some (PySem.W.instObj C dx)
 ns:h.Ns1 dx mA
 ne:dx≠x
theorem yR{h:Heap}{dx:Addr}{mA:Str→Option Value}(n:h.Ns1 dx mA):∃od,h.get? dx=some od∧∀name,PySem.W.lookIn name od=some (mA name):=by
 obtain⟨o,es,ep,ho,hd,hk,_,hm⟩:=n
 refine⟨o,ho,fun name=>?_⟩
 have e:=hm name
 unfold nsFind findBy at e
 rw[←Array.find?_toList]at e
 unfold PySem.W.lookIn
 rw[hd]
 dsimp only
 split
 ·rename_i y q
  rw[q]at e
  exact congrArg some e
 ·rename_i q
  rw[q]at e
  have a:es.toList.any (·.refKey)=false:=by
   rw[List.any_eq_false]
   intro y hy
   obtain⟨z,t,hkey⟩:=hk y (Array.mem_toList_iff.mp hy)
   simp[DictEntry.refKey,hkey]
  have a':¬es.toList.any (·.refKey)=true:=by rw[a];exact Bool.false_ne_true
  rw[if_neg a']
  exact congrArg some e
theorem ObjM.look{h:Heap}{x dx C:Addr}{mA:Str→Option Value}(I:ObjM h x dx C mA):∃od,PySem.W.InstAt h x (PySem.W.instObj C dx) C (some od)∧∀name,PySem.W.lookIn name od=some (mA name):=
 let ⟨od,ho,hl⟩:=yR I.ns
 ⟨od,⟨I.obj,rfl,rfl,ho⟩,hl⟩
section
variable {P:Program} {w:World} {H H':Hp} {h h':Heap} {a C dx:Addr} {fs fs':List (Str×V)}
theorem CQ(hok:HOk P w H h)(e:H a=some (.ins C dx fs)):∃mA,ObjM h a dx C mA∧(∀f,RelO (fs.lookup f) (mA f))∧PySem.Within mA (fs.map (·.1))∧fs.length≤1000∧H dx=some (.own a):=by
 obtain⟨d,z,ne,ob,mA,n,r,q⟩:=(show ObjOk P w H h a (.ins C dx fs)from hok a _ e)
 exact⟨mA,⟨ob,n,ne⟩,r,q,z,d⟩
end
structure Cls (K:PySem.W.Frag) (C:Addr):Prop where
 pg:PySem.W.plainGet K C Str.empty=true
 hd:PySem.W.hasDictIn K C=true
 po:PySem.W.plainOver K C=true
 sa:PySem.W.findIn K (.ref C) "__setattr__"=some (some (.builtin "object.__setattr__"))
theorem Cls.get{K:PySem.W.Frag}{C:Addr}(c:Cls K C)(f:Str):PySem.W.plainGet K C f=true:=c.pg
section
variable {X:Cx} {pins:List (Addr×Obj)} {σ:St} {H:Hp} {s:Shared} {A:Around} {E:Value→Shared→Prop} {Q:Value→Shared→Prop} {c:Value} {b:Bool}
inductive TyOf (K:PySem.W.Frag) (H:Hp):V→Value→Prop where
 |non:TyOf K H .non (.type "NoneType")
 |bl (x:Bool):TyOf K H (.bl x) (.type "bool")
 |int (i:Int):TyOf K H (.int i) (.type "int")
 |str (x:Str):TyOf K H (.str x) (.type "str")
 |flt (x:UInt64):TyOf K H (.flt x) (.type "float")
 |lst {a:Addr} {xs:List V} (e:H a=some (.lst xs)):TyOf K H (.ref a) (.type "list")
 |frz {a:Addr} {o:Obj} {xs:List V} (e:H a=some (.frz o (.lst xs))):TyOf K H (.ref a) (.type "list")
 |tup {a:Addr} {xs:List V} (e:H a=some (.tup xs)):TyOf K H (.ref a) (.type "tuple")
 |dK {a:Addr} {kvs:List (iP×V)} (e:H a=some (.dK kvs)):TyOf K H (.ref a) (.type "dict")
 |dT {a:Addr} {kvs:List (List iP×V)} (e:H a=some (.dT kvs)):TyOf K H (.ref a) (.type "dict")
 |ins {a C dx:Addr} {fs:List (Str×V)} (e:H a=some (.ins C dx fs)) (cl:Cls K C) (ha:PySem.W.findIn K (.ref C) "__class__"=some (some (.builtin "object.__class__")))
   (hn:PySem.W.specialIn K (.builtin "object.__class__") "__get__"=some (some (.builtin "getset_descriptor.__get__"))) (htk:PySem.W.takesIn K (.builtin "object.__class__")=some true)
   (hm:PySem.W.mroIn K C (.type "object")=some true):TyOf K H (.ref a) (.ref C)
theorem mn{x:V}{u t:Value}(I:Inv X pins σ H s)(rx:RelV x u)(ty:TyOf X.K H x t)(e:PySem.W.kitOne X.K t c=some b)(h:∀tk,Q (.bool b) {s with toks:=tk}):
  wpAny (model X.prog X.w) A (call (.builtin "isinstance") [u,c]) Q E s:=by
 cases ty with
 |non=>cases(show u=Value.none from rx);exact PySem.W.kia_one PySem.W.kitx_none I.kIn True.intro e (fun z=>nomatch z) h
 |bl y=>cases(show u=Value.bool y from rx);exact PySem.W.kia_one PySem.W.kitx_bool I.kIn True.intro e (fun z=>nomatch z) h
 |int i=>obtain⟨t,q⟩:=(show ∃t,u=Value.int i t from rx);cases q;exact PySem.W.kia_one PySem.W.kitx_int I.kIn True.intro e (fun z=>nomatch z) h
 |str y=>obtain⟨t,q⟩:=(show ∃t,u=Value.str y t from rx);cases q;exact PySem.W.kia_one PySem.W.kitx_str I.kIn True.intro e (fun z=>nomatch z) h
 |flt y=>obtain⟨t,q⟩:=(show ∃t,u=Value.float y t from rx);cases q;exact PySem.W.kia_one PySem.W.kitx_float I.kIn True.intro e (fun z=>nomatch z) h
 | @lst a xs ea=>
  cases(show u=Value.ref a from rx)
  obtain⟨_,_,n,_,h1⟩:=(show ObjOk X.prog X.w H s.heap a (.lst xs)from I.hok a _ ea)
  exact PySem.W.kia_one PySem.W.kitx_list I.kIn ⟨_,h1,rfl⟩ e (fun z=>nomatch z) h
 | @frz a ob xs ea=>
  cases(show u=Value.ref a from rx)
  obtain⟨_,_,_,n,_,h1⟩:=(show ObjOk X.prog X.w H s.heap a (.frz ob (.lst xs))from I.hok a _ ea)
  exact PySem.W.kia_one PySem.W.kitx_list I.kIn ⟨_,h1,rfl⟩ e (fun z=>nomatch z) h
 | @tup a xs ea=>
  cases(show u=Value.ref a from rx)
  obtain⟨_,_,_,p⟩:=(show ObjOk X.prog X.w H s.heap a (.tup xs)from I.hok a _ ea)
  obtain⟨o,h1,h2,_⟩:=p
  exact PySem.W.kia_one PySem.W.kitx_tuple I.kIn ⟨o,h1,h2⟩ e (fun z=>nomatch z) h
 | @dK a kvs ea=>
  cases(show u=Value.ref a from rx)
  obtain⟨_,_,vs,_,p⟩:=(show ObjOk X.prog X.w H s.heap a (.dK kvs)from I.hok a _ ea)
  obtain⟨o,es,ep,h1,h2,_⟩:=p
  exact PySem.W.kia_one PySem.W.kitx_dict I.kIn ⟨o,h1,h2.1⟩ e (fun z=>nomatch z) h
 | @dT a kvs ea=>
  cases(show u=Value.ref a from rx)
  obtain⟨_,_,xs,_,o,es,ep,h1,h2,_⟩:=(show ObjOk X.prog X.w H s.heap a (.dT kvs)from I.hok a _ ea)
  exact PySem.W.kia_one PySem.W.kitx_dict I.kIn ⟨o,h1,h2.1⟩ e (fun z=>nomatch z) h
 | @ins a C dx fs ea cl ha hn htk hm=>
  cases(show u=Value.ref a from rx)
  obtain⟨mA,O,_⟩:=CQ I.hok ea
  obtain⟨od,J,_⟩:=O.look
  exact PySem.W.kia_one (PySem.W.kitx_own (cl.get _) cl.hd ha hn htk hm) I.kIn J e (fun z=>nomatch z) h
end
end L2
namespace L2
open PySem PySem.Spec PyProof.Rows
structure Room (k:Nat) (A:Around):Prop where
 hd:A.handled=none
 dp:A.depth+3*k+5 < recursionLimit
 un:A.units+16*k+200 < cLine
theorem Room.mono{j k:Nat}{A:Around}(r:Room k A)(h:j≤k):Room j A:=⟨r.hd,by have:=r.dp;omega,by have:=r.un;omega⟩
theorem Room.deeper{k:Nat}{A:Around}(r:Room (k+1) A)(env:Env):Room k (A.deeper env):=
 ⟨r.hd,by have:=r.dp;show A.depth+1+3*k+5 < _;omega,by have:=r.un;show A.units+3+16*k+200 < _;omega⟩
theorem Room.depth{k:Nat}{A:Around}(r:Room k A):A.depth < recursionLimit:=by have:=r.dp;omega
theorem Room.units{k:Nat}{A:Around}(r:Room k A):A.units+64 < cLine:=by have:=r.un;omega
def HY:TA:=fun _ H Q=>Q [] H
def GP(ta:TE)(tr:TA):TA:=fun σ H Q=>ta σ H fun x H1=>tr σ H1 fun xs H2=>Q (x::xs) H2
section
variable {X:Cx} {e:Expr} {es:List Expr} {te:TE} {t:TA} {pos:Pos}
theorem iY:PA X [] HY:=fun _ _ _ _ H Q I h=>Calls.spliced_nil ⟨[],H,I,.nil,h⟩
theorem gc(ha:PE X e te)(hr:PA X es t)(hs:starEach (e::es) X.env=(false,eval e X.env)::starEach es X.env:=by rfl):PA X (e::es) (GP te t):=by
 intro pos pins s σ H Q I h
 rw[hs]
 show wpAny _ _ (spliced ((false,eval e X.env)::backTo pos (starEach es X.env))) _ _ s
 refine Calls.spliced_cons (gV (ha pins s σ H _ I h) fun u s1 ⟨x,H1,I1,r1,q1⟩=>?_)
 exact gV (hr pos pins s1 σ H1 _ I1 q1) fun us s2 ⟨xs,H2,I2,r2,q2⟩=>⟨x::xs,H2,I2,.cons r1 r2,q2⟩
def HZ(t:TA):TE:=fun σ H Q=>t σ H fun xs H1=>xs.length≤sizeLine∧∀p,H1 p=none→Q (.ref p) (fS H1 p (.tup xs))
def H0(t:TA):TE:=fun σ H Q=>t σ H fun xs H1=>xs.length≤sizeLine∧∀p,H1 p=none→Q (.ref p) (fS H1 p (.lst xs))
theorem E_{x1}(h:PA X es t):PE X (.Tuple es x1 pos) (HZ t):=by
 intro pins s σ H Q I hq
 refine wpAny_Tuple_spliced (gV (h pos pins s σ H _ I hq) fun us s1 ⟨xs,H1,I1,r,z,q⟩=>⟨by rw[←r.length];exact z,?_⟩)
 have hf:H1 s1.heap.objs.size=none:=I1.hok.fresh (Nat.le_refl _)
 refine⟨.ref s1.heap.objs.size,fS H1 s1.heap.objs.size (.tup xs),I1.laid (t':=s1.toks) (fun b u e=>Heap.get?_push_of_some _ e) (Nat.le_refl _) ?_,rfl,q _ hf⟩
 exact⟨z,us,r,⟨_,Heap.get?_push_size _ rfl,rfl,_,rfl⟩⟩
theorem Fa(h:PA X es t):PE X (.List es pos) (H0 t):=by
 intro pins s σ H Q I hq
 refine wpAny_List_spliced (gV (h pos pins s σ H _ I hq) fun us s1 ⟨xs,H1,I1,r,z,q⟩=>⟨by rw[←r.length];exact z,?_⟩)
 have hf:H1 s1.heap.objs.size=none:=I1.hok.fresh (Nat.le_refl _)
 refine⟨.ref s1.heap.objs.size,fS H1 s1.heap.objs.size (.lst xs),I1.laid (t':=s1.toks) (fun b u e=>Heap.get?_push_of_some _ e) (Nat.le_refl _) ?_,rfl,q _ hf⟩
 exact⟨z,us,0,r,Heap.get?_push_size _ rfl⟩
end
abbrev Sp:=List V→Hp→VK→XK→Prop
abbrev Cw:=List Env→Hp→Shared→XK→Value→Shared→Prop
structure Env0 (P:Program) (w:World) (K:PySem.W.Frag) (mg:Str→Option Value) (base:Heap) (A:Around) (outer:List Env) (s:Shared) (H:Hp):Prop where
 frames:A.frames=some outer
 mod:Mod K mg base
 bs:∀b o,base.get? b=some o→s.heap.get? b=some o∧H b=none
 bsz:base.objs.size≤s.heap.objs.size
 funs:s.heap.FunFrames base outer
 frf:∀b∈Al outer,H b=none
 hok:HOk P w H s.heap
 bare:AllBare s.gens
 tab:∀b q,pv K b=some q→H b=some (.tbl q)
def CE(outer:List Env)(P:Program)(w:World)(H:Hp)(s:Shared)(Q:VK)(u:Value)(s':Shared):Prop:=
 ∃v H',s'.os=s.os∧AllBare s'.gens∧Un (Al outer) [] H H' s.heap s'.heap∧HOk P w H' s'.heap∧RelV v u∧Q v H'
def CR(CX:Cw)(outer:List Env)(P:Program)(w:World)(H:Hp)(s:Shared)(Q:VK)(E:XK)(r:Result)(s':Shared):Prop:=
 match r with
 |.ok (.ret u)=>CE outer P w H s Q u s'
 |.ok _=>False
 |.error e=>CX outer H s E e s'
structure FnOk (P:Program) (w:World) (K:PySem.W.Frag) (mg:Str→Option Value) (base:Heap) (CX:Cw) (k:Nat) (f:Addr) (fd:FuncData) (ps:List Str) (sp:Sp):Prop where
 len:∀vs H Q E,sp vs H Q E→vs.length=ps.length
 run:∀(A:Around) (outer:List Env) (s:Shared) (H:Hp) (args:Args) (us:List Value) (vs:List V) (Q:VK) (E:XK),Room k A→Env0 P w K mg base A outer s H→BindsTo s fd args (ps.zip us)→Vals vs us→sp vs H Q E→
  codeAny (model P w) A (.call (.ref f) args) (CR CX outer P w H s Q E) s
section
variable {X:Cx} {pins:List (Addr×Obj)} {σ:St} {H:Hp} {s s':Shared}
theorem Inv.env0(I:Inv X pins σ H s):Env0 X.prog X.w X.K X.mg X.base X.A X.stack s H:=
 ⟨I.ok.frames,I.ok.mod,I.bs,Nat.le_trans I.ok.bsz I.sz,I.stack,I.stkFree,I.hok,I.bare,I.tab⟩
theorem Inv.after{Q:VK}{u:Value}(I:Inv X pins σ H s)(h:CE X.stack X.prog X.w H s Q u s'):EP X pins σ Q u s':=by
 obtain⟨v,H',os,bare,un,hok,r,q⟩:=h
 obtain⟨hh,g,d,t,os'⟩:=s'
 obtain rfl:os'=s.os:=os
 exact⟨v,H',I.call (h':=hh) (g':=g) (d':=d) (t':=t) (ch:=[]) un hok bare (fun b z=>absurd z (by simp)),r,q⟩
end
def D8(sp:Sp)(dvs:List V)(E:XK)(t:TA):TE:=fun σ H Q=>t σ H fun vs H1=>sp (vs++dvs) H1 Q E
def Binds(K:PySem.W.Frag)(fd:FuncData)(ps:List Str)(ds:List Value):Prop:=
 ∀(s:Shared) (us:List Value),K.In s.heap→(us++ds).length=ps.length→BindsTo s fd ⟨us,[]⟩ (ps.zip (us++ds))
theorem Binds.all{K:PySem.W.Frag}{fd:FuncData}{ps:List Str}(h:∀us:List Value,us.length=ps.length→bindArgs fd ⟨us,[]⟩=pure (ps.zip us)):Binds K fd ps []:=fun s us _ hl=>by
 rw[List.append_nil]at hl ⊢
 exact .of_eq (h us hl)
def wj(CX:Cw)(X:Cx)(E:XK):Prop:=∀(pins:List (Addr×Obj)) (σ:St) (H:Hp) (s:Shared) (e:Value) (s':Shared),Inv X pins σ H s→CX X.stack H s E e s'→X.xe e s'
section
variable {X:Cx} {CX:Cw} {k:Nat} {f C:Addr} {fd:FuncData} {ps:List Str} {sp:Sp} {dvs:List V} {ds:List Value} {E:XK} {x m:Str} {p pos apos:Pos} {e o:Expr} {es:List Expr} {ta:TE} {t:TA}
theorem Fb{pins:List (Addr×Obj)}{σ:St}{H:Hp}{s:Shared}{Q:VK}{us:List Value}{vs:List V}(F:FnOk X.prog X.w X.K X.mg X.base CX k f fd ps sp)(hr:Room k X.A)(hb:Binds X.K fd ps ds)(hd:Vals dvs ds)(hx:wj CX X E)
  (I:Inv X pins σ H s) (r:Vals vs us) (h:sp (vs++dvs) H Q E):wpAny (model X.prog X.w) X.A (call (.ref f) us) (EP X pins σ Q) X.xe s:=by
 have r2:Vals (vs++dvs) (us++ds):=r.append hd
 have hl:(us++ds).length=ps.length:=by rw[←r2.length];exact F.len _ _ _ _ h
 refine wpAny_call (codeAny_mono (F.run X.A X.stack s H ⟨us,[]⟩ (us++ds) (vs++dvs) Q E hr I.env0 (hb s us I.kIn hl) r2 h) fun r s' hq=>?_)
 cases r with
 |error e=>exact hx pins σ H s e s' I hq
 |ok fl=>
  cases fl with
  |ret u=>exact I.after hq
  |next=>exact False.elim hq
  |brk=>exact False.elim hq
  |cont=>exact False.elim hq
theorem CS(F:FnOk X.prog X.w X.K X.mg X.base CX k f fd ps sp)(hr:Room k X.A)(hg:Gl X x)(hm:X.mg x=some (.ref f))(hk:PySem.W.keepIn X.K (.ref f)=true)(hb:Binds X.K fd ps ds)(hd:Vals dvs ds)(hx:wj CX X E)
  (ha:PA X (e::es) t) (hdb:(x == ("__debug__":Str))=false:=by decide) (he:starEach (e::es) X.env=(false,eval e X.env)::starEach es X.env:=by rfl) (hpl:(backTo pos (starEach es X.env)).any (·.1)=false:=by rfl):
  PE X (.Call (.Name x p) (e::es) [] pos) (D8 sp dvs E t):=by
 intro pins s σ H Q I h
 refine wpAny_Call_Name_kw (xo I hg hm ?_ hdb)
 refine PySem.W.callWith_K (h₀:=X.base) I.ok.mod.kin hk (gV (ha pos pins s σ H _ I h) fun us s1 ⟨vs,H1,I1,r,q⟩=>⟨I1.kIn,?_⟩) he hpl
 exact Fb F hr hb hd hx I1 r q
end
structure FnScope (N P:List Str) (sc:Scope):Prop where
 kind:sc.kind=.function
 co:sc.isCoroutine=false
 gen:sc.isGenerator=false
 nd:N.Nodup
 pre:N.take P.length=P
 par:∀x∈P,sc.names.lookup x=some .local∨sc.names.lookup x=some .cell
 nofree:∀y∈sc.names,y.2≠ .free
theorem sf{kindOf:Str→Option NameKind}{x:Str}:∀{binds:List (Str×Value)} {m:Str→Option Value},(∀v,(x,v)∉binds)→bindL kindOf binds m x=m x
 |[],_,_=>rfl
 |(n,v)::r,m,h=>by
  unfold bindL
  rw[sf fun w hw=>h w (List.mem_cons_of_mem _ hw)]
  split
  ·have:x≠n:=by rintro rfl;exact h v List.mem_cons_self
   simp[this]
  ·rfl
theorem si{kindOf:Str→Option NameKind}{x:Str}:∀{binds:List (Str×Value)} {m:Str→Option Value},(∀v,(x,v)∉binds)→bindC kindOf binds m x=m x
 |[],_,_=>rfl
 |(n,v)::r,m,h=>by
  unfold bindC
  rw[si fun w hw=>h w (List.mem_cons_of_mem _ hw)]
  split
  ·rfl
  ·have:x≠n:=by rintro rfl;exact h v List.mem_cons_self
   simp[this]
theorem sj{kindOf:Str→Option NameKind}{x:Str}{v:Value}:∀{P:List Str} {vs:List Value} {i:Nat} {m:Str→Option Value},P.Nodup→P[i]? =some x→vs[i]? =some v→kindOf x=some .local→
  bindL kindOf (P.zip vs) m x=some v
 |[],_,_,_,_,h,_,_=>by simp at h
 |_::_,[],_,_,_,_,h,_=>by simp at h
 |p::P,w::vs,0,m,nd,h1,h2,hk=>by
  simp at h1 h2;subst h1;subst h2
  show bindL kindOf ((p,w)::P.zip vs) m p=_
  unfold bindL
  rw[sf fun v hv=>(List.nodup_cons.mp nd).1 (List.of_mem_zip hv).1,if_pos hk]
  simp
 |p::P,w::vs,i+1,m,nd,h1,h2,hk=>by
  show bindL kindOf ((p,w)::P.zip vs) m x=_
  unfold bindL
  exact sj (i:=i) (List.nodup_cons.mp nd).2 (by simpa using h1) (by simpa using h2) hk
theorem sk{kindOf:Str→Option NameKind}{x:Str}{v:Value}:∀{P:List Str} {vs:List Value} {i:Nat} {m:Str→Option Value},P.Nodup→P[i]? =some x→vs[i]? =some v→kindOf x≠some .local→
  bindC kindOf (P.zip vs) m x=some v
 |[],_,_,_,_,h,_,_=>by simp at h
 |_::_,[],_,_,_,_,h,_=>by simp at h
 |p::P,w::vs,0,m,nd,h1,h2,hk=>by
  simp at h1 h2;subst h1;subst h2
  show bindC kindOf ((p,w)::P.zip vs) m p=_
  unfold bindC
  rw[si fun v hv=>(List.nodup_cons.mp nd).1 (List.of_mem_zip hv).1,if_neg hk]
  simp
 |p::P,w::vs,i+1,m,nd,h1,h2,hk=>by
  show bindC kindOf ((p,w)::P.zip vs) m x=_
  unfold bindC
  exact sk (i:=i) (List.nodup_cons.mp nd).2 (by simpa using h1) (by simpa using h2) hk
def lH(N:List Str)(vs:List V):St:=vs.map some++List.replicate (N.length - vs.length) none
def rJ(CX:Cw)(P:Program)(w:World)(K:PySem.W.Frag)(mg:Str→Option Value)(base:Heap)(N:List Str)(qual:Str)(scope:Scope)(f:Addr)(cd:Value)(A:Around)(outer:List Env)(s:Shared)(H:Hp)(E:XK):Cx where
 prog:=P
 w:=w
 K:=K
 mg:=mg
 base:=base
 A:=A.deeper (envOfC qual scope s.heap.objs.size f cd)
 N:=N
 s₀:=s
 H₀:=H
 env:=envOfC qual scope s.heap.objs.size f cd
 outer:=outer
 stack:=envOfC qual scope s.heap.objs.size f cd::outer
 ex:=[]
 calm:=true
 fn:=fun _=>true
 pn:=[]
 xe:=fun e s'=>wpAny (model P w) (A.deeper (envOfC qual scope s.heap.objs.size f cd)) (leaving (envOfC qual scope s.heap.objs.size f cd) e) (fun _ s''=>CX outer H s E e s'') (fun e' s''=>CX outer H s E e' s'') s'
theorem uU{sc:Scope}{n:Nat}{x:Str}(h:sc.names.lookup x=some .cell):∃c,(cellsFrom n sc.names []).lookup x=some c:=by
 have q:=PySem.W.cellsFrom_some sc.names n [] (.inl h)
 exact Option.isSome_iff_exists.mp q
theorem yS{CX:Cw}{P:Program}{w:World}{K:PySem.W.Frag}{mg:Str→Option Value}{base:Heap}{N ps:List Str}{qual:Str}{scope:Scope}{f:Addr}{cd:Value}{A:Around}{outer:List Env}{s s1:Shared}{H:Hp}{E:XK}{us:List Value}{vs:List V}
  (S:FnScope N ps scope) (hd:A.handled=none) (e0:Env0 P w K mg base A outer s H) (hl:vs.length=ps.length) (r:Vals vs us)
  (x:InCallC s s.heap.objs.size (bindL (envOfC qual scope s.heap.objs.size f cd).kindOf (ps.zip us) fun _=>none) (cellsFrom (s.heap.objs.size+1) scope.names []) (bindC (envOfC qual scope s.heap.objs.size f cd).kindOf (ps.zip us) fun _=>none) s1):
  Inv (rJ CX P w K mg base N qual scope f cd A outer s H E) [] (lH N vs) H s1:=by
 have hpl:ps.length≤N.length:=by have:=congrArg List.length S.pre;rw[List.length_take]at this;omega
 obtain⟨h1,tk,rfl,hk⟩:=x.done
 have noA:∀b:Addr,b∉(rJ CX P w K mg base N qual scope f cd A outer s H E).ex:=fun b z=>absurd (show b∈([]:List Addr)from z) (by simp)
 refine⟨⟨e0.mod,S.kind,rfl,rfl,Nat.le_refl _,fun y z c h1 h2=>?_,fun y hy=>?_,fun y c _ h=>?_,fun _=>hd,Around.frames_deeper e0.frames,.inr ⟨rfl,rfl⟩,fun b z=>absurd z (noA b),e0.bs,e0.bsz,fun b _ _=>noA b,fun b z=>absurd z (noA b),e0.funs,e0.frf,e0.tab⟩,
  rfl,e0.bare,Un.kept hk,⟨_,x.toInCall.ns,fun i y v h1 h2 h3=>?_⟩,fun y c h=>⟨_,x.cell y c h⟩,e0.hok.fresh (Nat.le_refl _),fun y c h=>?_,fun p hp=>absurd (show p∈([]:List (Addr×Obj))from hp) (by simp),e0.hok.kept hk,?_⟩
 ·exact name_of_addr x.apart (PySem.mem_of_lookup h1) (PySem.mem_of_lookup h2)
 ·have hy:scope.names.lookup y=some .cell∨scope.names.lookup y=some .free:=hy
  rcases hy with hy |hy
  ·exact uU hy
  ·exact absurd rfl (S.nofree _ (PySem.mem_of_lookup hy))
 ·exact Nat.le_of_lt (x.above y c (PySem.mem_of_lookup h))
 ·have hi:i < vs.length:=by
   unfold lH at h2
   by_cases hi:i < vs.length
   ·exact hi
   ·rw[List.getElem?_append_right (by simpa using hi)]at h2
    rw[List.getElem?_replicate]at h2
    split at h2 <;> cases h2
  have ha:vs[i]? =some v:=by
   unfold lH at h2
   rw[List.getElem?_append_left (by simpa using hi),List.getElem?_map]at h2
   cases e:vs[i]? with
   |none=>rw[e]at h2;cases h2
   |some a=>rw[e]at h2;cases h2;rfl
  obtain⟨u,hu,rv⟩:=r.get ha
  have hp:ps[i]? =some y:=by
   rw[←S.pre,List.getElem?_take_of_lt (by omega)];exact h1
  have ndP:ps.Nodup:=by rw[←S.pre];exact S.nd.sublist (List.take_sublist _ _)
  refine⟨u,rv,?_⟩
  rcases S.par y (List.mem_of_getElem? hp)with k |k
  ·exact .inl ⟨k,sj ndP hp hu k⟩
  ·obtain⟨c,e⟩:=uU (n:=s.heap.objs.size+1) k
   refine .inr ⟨.inl k,c,e,?_⟩
   have q:=x.cell y c e
   rw[sk ndP hp hu (by show scope.names.lookup y≠_;rw[k];decide)]at q
   exact q
 ·exact e0.hok.fresh (Nat.le_of_lt (x.above y c (PySem.mem_of_lookup h)))
 ·unfold lH
  show _=N.length
  rw[List.length_append,List.length_map,List.length_replicate]
  omega
theorem D9{CX:Cw}{P:Program}{w:World}{K:PySem.W.Frag}{mg:Str→Option Value}{base:Heap}{k:Nat}{f:Addr}{name qual:Str}{params:Arguments}{body:List Stmt}{scope:Scope}{dV kV doc pm cdv ct oc:Value}{an od:Option Addr}
  {osl:Array (Option Value)} {N ps:List Str} {sp:Sp} (lk:K.lookup f=some ⟨oc,od,.func (PySem.W.fnOf name qual params body scope dV kV doc pm an cdv ct),osl⟩) (hcd:PySem.W.codeIn K cdv qual=true) (S:FnScope N ps scope)
  (len:∀vs H Q E,sp vs H Q E→vs.length=ps.length)
  (hbody:∀(A:Around) (outer:List Env) (s:Shared) (H:Hp) (vs:List V) (Q:VK) (E:XK),Room k (A.deeper (envOfC qual scope s.heap.objs.size f cdv))→sp vs H Q E→
   ∃t,PSs (rJ CX P w K mg base N qual scope f cdv A outer s H E) body t∧t {nx:=fun _ H'=>Q .non H',rt:=Q} (lH N vs) H):
  FnOk P w K mg base CX (k+1) f (PySem.W.fnOf name qual params body scope dV kV doc pm an cdv ct) ps sp:=by
 refine⟨len,fun A outer s H args us vs Q E hr e0 hb r hsp=>?_⟩
 have hl:=len _ _ _ _ hsp
 have KX:K.In s.heap:=e0.mod.kin.keeps fun b o e=>(e0.bs b o e).1
 have lim:s.heap.NoLimit:=e0.mod.nolimit.keeps fun b o e=>(e0.bs b o e).1
 have hkind:∀y∈ps.zip us,scope.names.lookup y.1=some .local∨(scope.names.lookup y.1=some .cell∧((cellsFrom (s.heap.objs.size+1) scope.names []).lookup y.1).isSome=true):=fun⟨n,v⟩ hy=>by
  rcases S.par n (List.of_mem_zip hy).1 with q |q
  ·exact .inl q
  ·exact .inr ⟨q,PySem.W.cellsFrom_some _ _ _ (.inl q)⟩
 refine codeAny_call_function hr.depth (KX _ _ lk) rfl S.co S.gen rfl (PySem.W.codeRec_of KX hcd) (hb _ _ _ _ ?_)
 refine wpAny_newFunctionEnv_cells S.kind hkind fun env he s1 x=>?_
 subst he
 refine⟨lim.keeps x.toInCall.keep,codeAny_func ?_⟩
 obtain⟨t,ht,hq⟩:=hbody A outer s H vs Q E (hr.deeper _) hsp
 have I:Inv (rJ CX P w K mg base N qual scope f cdv A outer s H E) [] (lH N vs) H s1:=yS S hr.hd e0 hl r x
 refine wpAny_mono (ht [] s1 (lH N vs) H _ I hq) (fun fl s' hs=>?_) fun e s' hs=>hs
 have fin:∀{σ':St} {H':Hp} {v:V} {u:Value},Inv (rJ CX P w K mg base N qual scope f cdv A outer s H E) [] σ' H' s'→RelV v u→Q v H'→CE outer P w H s Q u s':=
  fun {σ' H' v u} J rv q=>⟨v,H',J.os,J.bare,J.base,J.hok,rv,q⟩
 cases fl with
 |ret u=>
  obtain⟨v,σ',H',J,rv,q⟩:=hs
  exact fin J rv q
 |next=>
  obtain⟨σ',H',J,q⟩:=hs
  exact fin (v:=V.non) (u:=Value.none) J rfl q
 |brk=>
  obtain⟨_,_,_,q⟩:=hs
  exact False.elim q
 |cont=>
  obtain⟨_,_,_,q⟩:=hs
  exact False.elim q
end L2
namespace L2
open PySem PySem.Spec PyProof.Rows
section
variable {X:Cx} {x:Str} {p pos:Pos} {e:Expr} {es:List Expr} {t:TA} {id T:String} {r:List V→Hp→VK→Prop}
def H_(r:List V→Hp→VK→Prop)(t:TA):TE:=fun σ H Q=>t σ H fun vs H1=>r vs H1 Q
theorem lI (hc:CallR X (.builtin id) r) (hg:Gl X x) (hm:X.mg x=none) (hv:bootBuiltins x=some (.builtin id)) (ha:PA X (e::es) t) (hn:x≠"__name__":=by decide) (hdb:(x == ("__debug__":Str))=false:=by decide)
  (he:starEach (e::es) X.env=(false,eval e X.env)::starEach es X.env:=by rfl) (hpl:(backTo pos (starEach es X.env)).any (·.1)=false:=by rfl):PE X (.Call (.Name x p) (e::es) [] pos) (H_ r t):=by
 intro pins s σ H Q I h
 refine wpAny_Call_Name_kw (mZ I hg hm hv ?_ hn hdb)
 exact PyProof.Rows.callWith_builtin1 (gV (ha pos pins s σ H _ I h) fun us s1 ⟨vs,H1,I1,r1,q1⟩=>hc pins s1 σ H1 vs us Q I1 r1 q1) he hpl
theorem sm (hc:CallR X (.type T) r) (hg:Gl X x) (hm:X.mg x=none) (hv:bootBuiltins x=some (.type T)) (ha:PA X (e::es) t) (hn:x≠"__name__":=by decide) (hdb:(x == ("__debug__":Str))=false:=by decide)
  (he:starEach (e::es) X.env=(false,eval e X.env)::starEach es X.env:=by rfl) (hpl:(backTo pos (starEach es X.env)).any (·.1)=false:=by rfl):PE X (.Call (.Name x p) (e::es) [] pos) (H_ r t):=by
 intro pins s σ H Q I h
 refine wpAny_Call_Name_kw (mZ I hg hm hv ?_ hn hdb)
 exact PyProof.Rows.callWith_type1 (gV (ha pos pins s σ H _ I h) fun us s1 ⟨vs,H1,I1,r1,q1⟩=>hc pins s1 σ H1 vs us Q I1 r1 q1) he hpl
end
end L2
namespace HT
open PySem PyProof.Rows
section
open PySem.SeqAt
open PySem.AutoSeq1 (wpAny_loadPart')
open PySem.MeetsSeq PySem.MeetsSeq2 PySem.MeetsSeq3
end
section
variable {prog:Program} {w:World} {A:Around} {E:Value→Shared→Prop} {s:Shared}
def pR(n d:Nat):Option Int→Nat
 |none=>d
 |some v=>if v < 0 then (v+(n:Int)).toNat else min v.toNat n
theorem Az(n d:Nat):pR n d none=d:=rfl
theorem tH(n d k:Nat):pR n d (some (k:Int))=min k n:=by
 show(if (k:Int) < 0 then ((k:Int)+(n:Int)).toNat else min (k:Int).toNat n)=min k n
 rw[if_neg (by omega),Int.toNat_natCast]
end
end HT
namespace L2
open PySem PySem.Spec PyProof.Rows
abbrev TO:=St→Hp→(Option Int→Hp→Prop)→Prop
def PO(X:Cx)(e:Option Expr)(t:TO):Prop:=
 ∀(pins:List (Addr×Obj)) (s:Shared) (σ:St) (H:Hp) (Q:Option Int→Hp→Prop),Inv X pins σ H s→t σ H Q→
  wpAny (model X.prog X.w) X.A (evalPart e X.env) (fun u s'=>∃o H',Inv X pins σ H' s'∧IsPart u o∧Q o H') X.xe s
def CT:TO:=fun _ H Q=>Q none H
def GQ(t:TE):TO:=fun σ H Q=>t σ H fun x H1=>∃i,x=.int i∧Q (some i) H1
section
variable {X:Cx} {e:Expr} {te:TE} {lo hi:Option Expr} {tl th:TO} {pos p2:Pos}
theorem CU:PO X none CT:=by
 intro pins s σ H Q I h
 rw[evalPart_none]
 exact wpAny_pure ⟨none,H,I,.none,h⟩
theorem CV(h:PE X e te):PO X (some e) (GQ te):=by
 intro pins s σ H Q I hw
 rw[evalPart_some]
 refine gV (h pins s σ H _ I hw) fun u s1 ⟨x,H1,I1,r1,q1⟩=>?_
 obtain⟨i,rfl,q⟩:=q1
 obtain⟨t,rfl⟩:=r1
 exact⟨some i,H1,I1,.int i t,q⟩
def SlR(X:Cx)(r:V→Option Int→Option Int→Hp→VK→Prop):Prop:=
 ∀(pins:List (Addr×Obj)) (s:Shared) (σ:St) (H:Hp) (x:V) (v vl vu:Value) (lo hi:Option Int) (sl:Addr) (Q:VK),Inv X pins σ H s→RelV x v→s.heap.IsSliceOf sl vl vu .none→IsPart vl lo→IsPart vu hi→r x lo hi H Q→
  ∃T id,typeLookup (.type T) "__getitem__"=pure (some (.builtin id))∧s.TypeIs v T∧wpAny (model X.prog X.w) X.A (getItem v (.ref sl)) (EP X pins σ Q) X.xe s
theorem SlR.or{r r':V→Option Int→Option Int→Hp→VK→Prop}(h:SlR X r)(h':SlR X r'):SlR X (fun x lo hi H Q=>r x lo hi H Q∨r' x lo hi H Q):=by
 intro pins s σ H x v vl vu lo hi sl Q I rx hs pl pu q
 rcases q with q |q
 ·exact h pins s σ H x v vl vu lo hi sl Q I rx hs pl pu q
 ·exact h' pins s σ H x v vl vu lo hi sl Q I rx hs pl pu q
def IR(r:V→Option Int→Option Int→Hp→VK→Prop)(te:TE)(tl th:TO):TE:=fun σ H Q=>te σ H fun x H1=>tl σ H1 fun l H2=>th σ H2 fun u H3=>r x l u H3 Q
theorem AA{r:V→Option Int→Option Int→Hp→VK→Prop}(hr:SlR X r)(he:PE X e te)(hl:PO X lo tl)(hu:PO X hi th):PE X (.Subscript e (.Slice lo hi none p2) pos) (IR r te tl th):=by
 intro pins s σ H Q I h
 refine Subscript_ (gV (he pins s σ H _ I h) fun v s1 ⟨x,H1,I1,r1,q1⟩=>?_)
 refine wpAny_Slice (gV (hl pins s1 σ H1 _ I1 q1) fun vl s2 ⟨l,H2,I2,pl,q2⟩=>gV (hu pins s2 σ H2 _ I2 q2) fun vu s3 ⟨u,H3,I3,pu,q3⟩=>?_)
 rw[evalPart_none]
 refine wpAny_pure ?_
 have I4:Inv X pins σ H3 {s3 with heap:=s3.heap.push {cls:=.type "slice",data:=.fields #[vl,vu,.none]}}:=I3.kept (t':=s3.toks) fun b ob q=>Heap.get?_push_of_some _ q
 obtain⟨T,id,hT,ht,hg⟩:=hr pins {s3 with heap:=s3.heap.push {cls:=.type "slice",data:=.fields #[vl,vu,.none]}} σ H3 x v vl vu l u s3.heap.objs.size Q I4 r1 (Heap.IsSliceOf.new ..) pl pu q3
 show wpAny (model X.prog X.w) X.A (subscriptTail e (.Slice lo hi none p2) v (.ref s3.heap.objs.size)) (EP X pins σ Q) X.xe {s3 with heap:=s3.heap.push {cls:=.type "slice",data:=.fields #[vl,vu,.none]}}
 exact tail_any (ops:=[.ref s3.heap.objs.size,v]) ht hT hg (by with_unfolding_all rfl)
def yT(xs:List V)(lo hi:Option Int):List V:=(xs.drop (HT.pR xs.length 0 lo)).take (HT.pR xs.length xs.length hi - HT.pR xs.length 0 lo)
theorem uW(xs:List V)(lo hi:Option Int):(yT xs lo hi).length≤xs.length:=by
 unfold yT
 rw[List.length_take,List.length_drop]
 omega
end
end L2
namespace L2
open PySem PySem.Spec PyProof.Rows
def Go(n:Nat)(i:Int):Option Nat:=if 0≤i then (if i < n then some i.toNat else none)else if -(n:Int)≤i then some (i+n).toNat else none
def atI{α:Type}(xs:List α)(i:Int):Option α:=(Go xs.length i).bind fun j=>xs[j]?
theorem CW{n:Nat}{i:Int}{j:Nat}(h:Go n i=some j):seqIndex? i n=some j∧j < n∧ -(n:Int)≤i∧i < n:=by
 unfold Go at h
 by_cases h0:0≤i
 ·rw[if_pos h0]at h
  by_cases h1:i < n
  ·rw[if_pos h1]at h
   have e:i.toNat=j:=Option.some.inj h
   exact⟨by rw[seqIndex_of h0 h1,e],by omega,by omega,h1⟩
  ·rw[if_neg h1]at h;cases h
 ·rw[if_neg h0]at h
  by_cases h1: -(n:Int)≤i
  ·rw[if_pos h1]at h
   have e:(i+n).toNat=j:=Option.some.inj h
   exact⟨by rw[seqIndex_neg (by omega) h1,e],by omega,h1,by omega⟩
  ·rw[if_neg h1]at h;cases h
theorem tI{α:Type}{xs:List α}{i:Int}{v:α}(h:atI xs i=some v):∃j,seqIndex? i xs.length=some j∧xs[j]? =some v∧j < xs.length∧ -(xs.length:Int)≤i∧i < xs.length:=by
 unfold atI at h
 cases e:Go xs.length i with
 |none=>rw[e]at h;cases h
 |some j=>
  rw[e]at h
  obtain⟨h1,h2,h3,h4⟩:=CW e
  exact⟨j,h1,h,h2,h3,h4⟩
def xv(b:Expr):Prop:=∀o i,subscripted b false o i=operate [o,i] (getItem o i)
def IxR(X:Cx)(r:R2):Prop:=
 ∀(value slice:Expr) (pins:List (Addr×Obj)) (s:Shared) (σ:St) (H:Hp) (x y:V) (v u:Value) (Q:VK),Inv X pins σ H s→RelV x v→RelV y u→r x y H Q→
  subscripted slice false v u=operate [v,u] (getItem v u)→wpAny (model X.prog X.w) X.A (subscriptTail value slice v u) (EP X pins σ Q) X.xe s
def Ia(X:Cx)(id:String)(r:V→List V→Hp→VK→Prop):Prop:=
 ∀(pins:List (Addr×Obj)) (s:Shared) (σ:St) (H:Hp) (x:V) (xs:List V) (v:Value) (us:List Value) (Q:VK),Inv X pins σ H s→RelV x v→Vals xs us→r x xs H Q→
  wpAny (model X.prog X.w) X.A (call (.builtin id) (v::us)) (EP X pins σ Q) X.xe s
section
variable {X:Cx} {a b:Expr} {ta tb:TE} {pos:Pos}
theorem IxR.or{r r':R2}(h:IxR X r)(h':IxR X r'):IxR X (fun x y H Q=>r x y H Q∨r' x y H Q):=by
 intro value slice pins s σ H x y v u Q I rx ry q hs
 rcases q with q |q
 ·exact h value slice pins s σ H x y v u Q I rx ry q hs
 ·exact h' value slice pins s σ H x y v u Q I rx ry q hs
theorem GR{r:R2}(hr:IxR X r)(ha:PE X a ta)(hb:PE X b tb)(hs:xv b):PE X (.Subscript a b pos) (GE r ta tb):=by
 intro pins s σ H Q I h
 exact Subscript_ (ER ha hb I h fun v u s2 x y H2 I2 rx ry q=>hr a b pins s2 σ H2 x y v u Q I2 rx ry q (hs _ _))
def GS(K:PySem.W.Frag):R2:=fun x y H Q=>∃p xs i v,x=.ref p∧y=.int i∧SqL K H p xs∧atI xs i=some v∧Q v H
def GT(K:PySem.W.Frag):R2:=fun x y H Q=>∃p xs i v,x=.ref p∧y=.int i∧SqT K H p xs∧atI xs i=some v∧Q v H
def GU:R2:=fun x y H Q=>∃z i c,x=.str z∧y=.int i∧z.length≤sizeLine∧atI z.cps.toList i=some c∧Q (.str ⟨#[c]⟩) H
theorem ix_list:IxR X (GS X.K):=by
 intro value slice pins s σ H x y v u Q I rx ry h hs
 obtain⟨p,xs,i,z,rfl,rfl,hq,he,q⟩:=h
 cases rx
 obtain⟨t,rfl⟩:=ry
 obtain⟨its,r,pl,hz⟩:=I.list hq
 obtain⟨j,h1,h2,h3,h4,h5⟩:=tI he
 obtain⟨w,ew,rw'⟩:=r.get h2
 have hl:=r.length
 have hn:=oj
 have fin:EP X pins σ Q w s:=⟨z,H,I,rw',q⟩
 by_cases h0:0≤i
 ·have hj:i.toNat=j:=by
   rw[seqIndex_of h0 h5]at h1
   exact Option.some.inj h1
  exact item_listR pl.isList h0 (by omega) (by rw[hj];simpa using ew) fin hs
 ·have hj:(i+(its.toArray.size:Int)).toNat=j:=by
   rw[seqIndex_neg (by omega) h4]at h1
   rw[List.size_toArray,←hl]
   exact Option.some.inj h1
  exact subscriptTail_builtinR (x:=w) pl.isList.typeIs slot_list_getitem.lookup
   (wpAny_getItem_list_neg (Q:=fun r s'=>r=w∧EP X pins σ Q r s') pl.isList (by omega) (by rw[List.size_toArray] <;> omega) (by omega) (by rw[hj];simpa using ew) ⟨rfl,fin⟩) hs
theorem ix_tup:IxR X (GT X.K):=by
 intro value slice pins s σ H x y v u Q I rx ry h hs
 obtain⟨p,xs,i,z,rfl,rfl,hq,he,q⟩:=h
 cases rx
 obtain⟨t,rfl⟩:=ry
 obtain⟨its,r,pl,hz⟩:=I.tuple hq
 obtain⟨j,h1,h2,h3,h4,h5⟩:=tI he
 obtain⟨w,ew,rw'⟩:=r.get h2
 have hl:=r.length
 have hn:=oj
 have fin:EP X pins σ Q w s:=⟨z,H,I,rw',q⟩
 exact subscriptTail_builtinR (x:=w) pl.typeIs slot_tuple_getitem.lookup
  (getItem_tuple (j:=j) (Q:=fun r s'=>r=w∧EP X pins σ Q r s') pl (by omega) (by omega) (by rw[List.size_toArray,←hl];exact h1) (by simpa using ew) ⟨rfl,fin⟩) hs
theorem Fc:IxR X GU:=by
 intro value slice pins s σ H x y v u Q I rx ry h hs
 obtain⟨z,i,c,rfl,rfl,hz,he,q⟩:=h
 obtain⟨t,rfl⟩:=rx
 obtain⟨t',rfl⟩:=ry
 obtain⟨j,h1,h2,h3,h4,h5⟩:=tI he
 have hl:z.cps.toList.length=z.length:=by simp[Str.length]
 rw[hl]at h1 h4 h5
 have hn:=oj
 exact tail_any (typeIs_str s z t) slot_str_getitem.lookup (getItem_str (c:=c) (by
  have e1:decide (i < -(2 ^ 63:Int))=false:=decide_eq_false (by omega)
  have e2:decide (i≥2 ^ 63)=false:=decide_eq_false (by omega)
  rw[e1,e2,Bool.or_false]) (by rw[h1];simpa using h2) ⟨.str ⟨#[c]⟩,H,I.tok _,⟨_,rfl⟩,q⟩) hs
def II(K:PySem.W.Frag):R2:=fun x y H Q=>GS K x y H Q∨GT K x y H Q∨GU x y H Q
theorem Fd:IxR X (II X.K):=ix_list.or (ix_tup.or Fc)
theorem tJ(lo hi:Option Int)(n:Nat):(sliceBounds lo hi none n).1=((HT.pR n 0 lo:Nat):Int)∧(sliceBounds lo hi none n).2.1=((HT.pR n n hi:Nat):Int)∧(sliceBounds lo hi none n).2.2=1:=by
 refine⟨?_,?_,rfl⟩
 ·cases lo with
  |none=>simp[sliceBounds,HT.pR]
  |some i=>
   simp only[sliceBounds,HT.pR,Option.getD_none,show(1:Int) > 0 by decide,if_true]
   by_cases h:i < 0
   ·simp only[h,if_true] <;> omega
   ·simp only[h,if_false] <;> omega
 ·cases hi with
  |none=>simp[sliceBounds,HT.pR]
  |some i=>
   simp only[sliceBounds,HT.pR,Option.getD_none,show(1:Int) > 0 by decide,if_true]
   by_cases h:i < 0
   ·simp only[h,if_true] <;> omega
   ·simp only[h,if_false] <;> omega
theorem rK(its:List Value)(lo hi:Option Int):slicePick its.toArray lo hi none=((its.drop (HT.pR its.length 0 lo)).take (HT.pR its.length its.length hi - HT.pR its.length 0 lo)).toArray:=by
 obtain⟨h1,h2,h3⟩:=tJ lo hi its.toArray.size
 unfold slicePick
 rw[h1,h2,h3]
 simp only[sliceRange_one,pick_run,List.size_toArray] <;> rfl
def Ib(K:PySem.W.Frag):V→Option Int→Option Int→Hp→VK→Prop:=fun x lo hi H Q=>∃a xs,x=.ref a∧SqL K H a xs∧∀p,H p=none→Q (.ref p) (fS H p (.lst (yT xs lo hi)))
theorem CY:SlR X (Ib X.K):=by
 intro pins s σ H x v vl vu lo hi sl Q I rx hs pl pu h
 obtain⟨a,xs,rfl,hx,q⟩:=h
 cases rx
 obtain⟨its,r,ht,hz⟩:=I.list hx
 have hlen:=r.length
 refine⟨"list",_,slot_list_getitem.lookup,ht.isList.typeIs,?_⟩
 refine wpAny_getItem_list_slice ht.isList hs pl pu .none (by simp) ?_ (by rw[List.size_toArray] <;> omega)
 rw[rK,←hlen]
 refine⟨.ref s.heap.objs.size,_,I.laid (t':=s.toks) (o:=.lst (yT xs lo hi)) (fun b ob q=>Heap.get?_push_of_some _ q) (Nat.le_refl _) ?_,rfl,q _ (I.hok.fresh (Nat.le_refl _))⟩
 exact⟨Nat.le_trans (uW xs lo hi) hz,_,0,(r.drop (HT.pR xs.length 0 lo)).take (HT.pR xs.length xs.length hi - HT.pR xs.length 0 lo),Heap.get?_push_size _ rfl⟩
def ly:V→Bool
 |.non=>true
 |.bl _=>true
 |.int _=>true
 |.str _=>true
 |_=>false
def Cy:V→V→Bool
 |.non,.non=>true
 |.bl a,.bl b=>a == b
 |.bl a,.int b=>(if a then 1 else 0) == b
 |.int a,.bl b=>a == (if b then 1 else 0)
 |.int a,.int b=>a == b
 |.str a,.str b=>a == b
 |_,_=>false
theorem Fe{A:Around}{s:Shared}{y x:V}{u v:Value}(ry:RelV y u)(rx:RelV x v)(fy:ly y=true)(fx:ly x=true):SeqAt.EqAt A s u v (Cy y x):=by
 cases y with
 |non=>
  cases ry
  cases x with
  |non=>cases rx;exact SeqAt.EqAt.same _
  |bl b=>cases rx;exact SeqAt.EqAt.none_bool b
  |int b=>obtain⟨t,rfl⟩:=rx;exact SeqAt.EqAt.none_int b t
  |str b=>obtain⟨t,rfl⟩:=rx;exact SeqAt.EqAt.none_str b t
  |_=>exact absurd (show false=true from fx) Bool.false_ne_true
 |bl a=>
  cases ry
  cases x with
  |non=>cases rx;exact SeqAt.EqAt.bool_none a
  |bl b=>cases rx;exact SeqAt.EqAt.bool_bool a b
  |int b=>obtain⟨t,rfl⟩:=rx;exact SeqAt.EqAt.bool_int a b t
  |str b=>obtain⟨t,rfl⟩:=rx;exact SeqAt.EqAt.bool_str a b t
  |_=>exact absurd (show false=true from fx) Bool.false_ne_true
 |int a=>
  obtain⟨t',rfl⟩:=ry
  cases x with
  |non=>cases rx;exact SeqAt.EqAt.int_none a t'
  |bl b=>cases rx;exact SeqAt.EqAt.int_bool a t' b
  |int b=>obtain⟨t,rfl⟩:=rx;exact SeqAt.EqAt.int_int a t' b t
  |str b=>obtain⟨t,rfl⟩:=rx;exact SeqAt.EqAt.int_str a t' b t
  |_=>exact absurd (show false=true from fx) Bool.false_ne_true
 |str a=>
  obtain⟨t',rfl⟩:=ry
  cases x with
  |non=>cases rx;exact SeqAt.EqAt.str_none a t'
  |bl b=>cases rx;exact SeqAt.EqAt.str_bool a t' b
  |int b=>obtain⟨t,rfl⟩:=rx;exact SeqAt.EqAt.str_int a t' b t
  |str b=>obtain⟨t,rfl⟩:=rx;exact SeqAt.EqAt.str_str a t' b t
  |_=>exact absurd (show false=true from fx) Bool.false_ne_true
 |_=>exact absurd (show false=true from fy) Bool.false_ne_true
def wk(x:V)(u:Value):Bool:=match u with
 |.none=>Cy .non x
 |.bool b=>Cy (.bl b) x
 |.int i _=>Cy (.int i) x
 |.str z _=>Cy (.str z) x
 |_=>false
theorem AB{x y:V}{u:Value}(r:RelV y u)(f:ly y=true):wk x u=Cy y x:=by
 cases y with
 |non=>cases r;rfl
 |bl b=>cases r;rfl
 |int i=>obtain⟨t,rfl⟩:=r;rfl
 |str z=>obtain⟨t,rfl⟩:=r;rfl
 |_=>exact absurd (show false=true from f) Bool.false_ne_true
theorem nw{x:V}:∀{xs:List V} {us:List Value},Vals xs us→xs.all ly=true→us.any (wk x)=xs.any fun y=>Cy y x
 |_,_,.nil,_=>rfl
 |y::xs,u::us,.cons r t,f=>by
  rw[List.all_cons,Bool.and_eq_true]at f
  rw[List.any_cons,List.any_cons,AB r f.1,nw t f.2]
theorem lJ{A:Around}{s:Shared}{x:V}{v:Value}(rx:RelV x v)(fx:ly x=true):∀{xs:List V} {us:List Value},Vals xs us→xs.all ly=true→∀u∈us,SeqAt.EqAt A s u v (wk x u)
 |_,_,.nil,_=>fun u hu=>by cases hu
 |y::xs,u::us,.cons r t,f=>fun u' hu=>by
  rw[List.all_cons,Bool.and_eq_true]at f
  rcases List.mem_cons.mp hu with rfl |hu
  ·rw[AB r f.1];exact Fe r rx f.1 fx
  ·exact lJ rx fx t f.2 u' hu
def D_(x:V)(xs:List V):Bool:=xs.any fun y=>Cy y x
def Ic(K:PySem.W.Frag)(neg:Bool):R2:=fun x y H Q=>∃p xs,y=.ref p∧(SqL K H p xs∨SqT K H p xs)∧ly x=true∧xs.all ly=true∧Q (.bl (if neg then !D_ x xs else D_ x xs)) H
theorem yV:OpR X (compareOp .In) (Ic X.K false):=by
 intro pins s σ H x y v u Q I rx ry h
 obtain⟨p,xs,rfl,hq,fx,fs,q⟩:=h
 cases ry
 rcases hq with hq |hq
 ·obtain⟨its,r,pl,hz⟩:=I.list hq
  refine SeqAt.in_listAt (wk x) pl.isList (fun w hw=>lJ rx fx r fs w (by simpa using hw)) ⟨.bl _,H,I,rfl,?_⟩
  rw[show its.toArray.any (wk x)=its.any (wk x) by simp,nw r fs]
  exact q
 ·obtain⟨its,r,pl,hz⟩:=I.tuple hq
  refine SeqAt.in_tupleAt (wk x) pl (fun w hw=>lJ rx fx r fs w (by simpa using hw)) ⟨.bl _,H,I,rfl,?_⟩
  rw[show its.toArray.any (wk x)=its.any (wk x) by simp,nw r fs]
  exact q
theorem tK:OpR X (compareOp .NotIn) (Ic X.K true):=by
 intro pins s σ H x y v u Q I rx ry h
 obtain⟨p,xs,rfl,hq,fx,fs,q⟩:=h
 cases ry
 rcases hq with hq |hq
 ·obtain⟨its,r,pl,hz⟩:=I.list hq
  refine SeqAt.notIn_listAt (wk x) pl.isList (fun w hw=>lJ rx fx r fs w (by simpa using hw)) ⟨.bl _,H,I,rfl,?_⟩
  rw[show its.toArray.any (wk x)=its.any (wk x) by simp,nw r fs]
  exact q
 ·obtain⟨its,r,pl,hz⟩:=I.tuple hq
  refine SeqAt.notIn_tupleAt (wk x) pl (fun w hw=>lJ rx fx r fs w (by simpa using hw)) ⟨.bl _,H,I,rfl,?_⟩
  rw[show its.toArray.any (wk x)=its.any (wk x) by simp,nw r fs]
  exact q
theorem tL:OpR X (compareOp .NotIn) (fun x y H Q=>∃i j,x=.str i∧y=.str j∧Q (.bl (!(!(Builtin.Str.occurrences j i 0 j.length 1).isEmpty))) H):=by
 intro pins s σ H x y v u Q I rx ry h
 obtain⟨i,j,rfl,rfl,q⟩:=h
 obtain⟨t,rfl⟩:=rx
 obtain⟨t',rfl⟩:=ry
 exact notIn_str ⟨.bl _,H,I,rfl,q⟩
theorem tM:CallR X (.builtin "len") (fun xs H Q=>∃p ys,xs=[.ref p]∧(SqL X.K H p ys∨SqT X.K H p ys)∧Q (.int ys.length) H):=by
 intro pins s σ H xs us Q I r h
 obtain⟨p,ys,rfl,hq,q⟩:=h
 obtain⟨u,rfl,rx⟩:=xu r
 cases rx
 have hn:=oj
 rcases hq with hq |hq
 ·obtain⟨its,r',pl,hz⟩:=I.list hq
  have hlen:=r'.length
  exact Calls.call_len_list pl.isList (by simp only[List.size_toArray] <;> omega) ⟨.int ys.length,H,I.tok _,⟨s.toks+1,by rw[List.size_toArray,hlen]⟩,q⟩
 ·obtain⟨its,r',pl,hz⟩:=I.tuple hq
  have hlen:=r'.length
  exact len_tuple pl (by simp only[List.size_toArray] <;> omega) ⟨.int ys.length,H,I.tok _,⟨s.toks+1,by rw[List.size_toArray,hlen]⟩,q⟩
theorem tN:CallR X (.builtin "len") (fun xs H Q=>∃z,xs=[.str z]∧z.length≤sizeLine∧Q (.int z.length) H):=by
 intro pins s σ H xs us Q I r h
 obtain⟨z,rfl,hz,q⟩:=h
 obtain⟨u,rfl,t,rfl⟩:=xu r
 have hn:=oj
 exact len_str (by omega) ⟨.int z.length,H,I.tok _,⟨_,rfl⟩,q⟩
theorem CallR.or{f:Value}{r r':List V→Hp→VK→Prop}(h:CallR X f r)(h':CallR X f r'):CallR X f (fun xs H Q=>r xs H Q∨r' xs H Q):=by
 intro pins s σ H xs us Q I rs q
 rcases q with q |q
 ·exact h pins s σ H xs us Q I rs q
 ·exact h' pins s σ H xs us Q I rs q
theorem tO:CallR X (.type "list") (fun xs H Q=>∃p ys,xs=[.ref p]∧(SqL X.K H p ys∨SqT X.K H p ys)∧∀l,H l=none→Q (.ref l) (fS H l (.lst ys))):=by
 intro pins s σ H xs us Q I r h
 obtain⟨p,ys,rfl,hq,q⟩:=h
 obtain⟨u,rfl,rx⟩:=xu r
 cases rx
 have fin:∀(its:List Value),Vals ys its→ys.length≤sizeLine→∀(h':Heap) (c':Nat),(∀b o',s.heap.get? b=some o'→h'.get? b=some o')→
   h'.get? s.heap.objs.size=some {cls:=.type "list",dict:=none,data:=.seq its.toArray c',slots:=#[]}→EP X pins σ Q (.ref s.heap.objs.size) {s with heap:=h'}:=fun its r' hz h' c' kp e=>
  ⟨.ref s.heap.objs.size,_,I.laid (t':=s.toks) kp (Nat.le_refl _) (show ObjOk X.prog X.w _ h' _ (.lst ys)from⟨hz,its,c',r',e⟩),rfl,q _ (I.hok.fresh (Nat.le_refl _))⟩
 rcases hq with hq |hq
 ·obtain⟨its,r',pl,hz⟩:=I.list hq
  have hlen:=r'.length
  obtain⟨o,ho,hc,n,hd⟩:=pl.isList
  exact call_list_seq p (.inl rfl) ho hc hd (fun h' c' kp e=>fin its r' hz h' c' kp e) (by simp only[List.size_toArray] <;> omega)
 ·obtain⟨its,r',pl,hz⟩:=I.tuple hq
  have hlen:=r'.length
  obtain⟨o,ho,hc,n,hd⟩:=pl
  exact call_list_seq p (.inr rfl) ho hc hd (fun h' c' kp e=>fin its r' hz h' c' kp e) (by simp only[List.size_toArray] <;> omega)
def Id(K:PySem.W.Frag)(T:String)(x:V)(H:Hp):Prop:=match x with
 |.str _=>T="str"
 |.int _=>T="int"
 |.ref p=>(T="list"∧∃xs,SqL K H p xs)∨(T="tuple"∧∃o,K.lookup p=some o∧o.cls=.type "tuple"∧o.dict=none)∨
   (T="dict"∧((∃kvs,H p=some (.dK kvs))∨∃kvs,H p=some (.dT kvs)))∨(T="set"∧∃S n,H p=some (.set S n))
 |_=>False
theorem AC{pins:List (Addr×Obj)}{σ:St}{H:Hp}{s:Shared}{T:String}{x:V}{v:Value}(I:Inv X pins σ H s)(r:RelV x v)(ty:Id X.K T x H):
  s.TypeIs v T∧∀a,v=.ref a→∃ob,s.heap.get? a=some ob∧ob.dict=none:=by
 cases x with
 |str z=>
  obtain⟨t,rfl⟩:=r
  cases(show T="str" from ty)
  exact⟨typeIs_str s z t,fun _ e=>nomatch e⟩
 |int i=>
  obtain⟨t,rfl⟩:=r
  cases(show T="int" from ty)
  exact⟨typeIs_int s i t,fun _ e=>nomatch e⟩
 |ref p=>
  cases r
  rcases ty with⟨rfl,xs,hq⟩ |⟨rfl,o,hk,hc,hd⟩ |⟨rfl,hk⟩ |⟨rfl,S,n,hk⟩
  ·obtain⟨its,_,pl,_⟩:=I.list hq
   refine⟨pl.isList.typeIs,fun a e=>?_⟩
   cases e
   obtain⟨o,n,e,c,hd,_⟩:=pl
   exact⟨o,e,hd⟩
  ·refine⟨⟨o,I.kIn p o hk,hc⟩,fun a e=>?_⟩
   cases e
   exact⟨o,I.kIn _ o hk,hd⟩
  ·have z:∃o,s.heap.get? p=some o∧o.ExactDict:=by
    rcases hk with⟨kvs,hk⟩ |⟨kvs,hk⟩
    ·obtain⟨_,_,_,_,o,_,_,e,ex,_⟩:=I.hok p _ hk
     exact⟨o,e,ex⟩
    ·obtain⟨_,_,_,_,o,_,_,e,ex,_⟩:=I.hok p _ hk
     exact⟨o,e,ex⟩
   obtain⟨o,e,ex⟩:=z
   refine⟨⟨o,e,ex.1⟩,fun a e2=>?_⟩
   cases e2
   exact⟨o,e,ex.2.1⟩
  ·obtain⟨o,_,_,_,e,ex,_⟩:=I.hok p _ hk
   refine⟨⟨o,e,ex.1⟩,fun a e2=>?_⟩
   cases e2
   exact⟨o,e,ex.2.1⟩
 |_=>exact False.elim ty
def Ie(K:PySem.W.Frag)(T:String)(r:V→List V→Hp→VK→Prop)(to:TE):TE:=fun σ H Q=>to σ H fun x H1=>Id K T x H1∧r x [] H1 Q
def IS(K:PySem.W.Frag)(T:String)(r:V→List V→Hp→VK→Prop)(to:TE)(t:TA):TE:=fun σ H Q=>to σ H fun x H1=>Id K T x H1∧t σ H1 fun xs H2=>r x xs H2 Q
variable {o e:Expr} {es:List Expr} {to:TE} {t:TA} {name:Str} {apos cpos:Pos} {T id:String} {r:V→List V→Hp→VK→Prop}
theorem Ff (pa:PlainAttrs T) (slot:Slot T name id) (hty:typeOf (.builtin id)=pure (.type "method_descriptor")) (hm:Ia X id r) (ho:PE X o to)
  (hbase:attributeBase o name X.env (eval o X.env)=eval o X.env:=by rfl) (hline:(apos.endLine == cpos.line)=true:=by rfl):PE X (.Call (.Attribute o name apos) [] [] cpos) (Ie X.K T r to):=by
 intro pins s σ H Q I h
 refine wpAny_Call_method0_late hbase hline (gV (ho pins s σ H _ I h) fun v s1 ⟨x,H1,I1,r1,ty,q1⟩=>?_)
 obtain⟨h1,h2⟩:=AC I1 r1 ty
 exact⟨T,id,pa,slot,hty,h1,h2,Calls.callWith_builtin rfl (PySem.evalArgs_none (hm pins s1 σ H1 x [] v [] Q I1 r1 .nil q1))⟩
theorem Ea (pa:PlainAttrs T) (slot:Slot T name id) (hty:typeOf (.builtin id)=pure (.type "method_descriptor")) (hm:Ia X id r) (ho:PE X o to) (ha:PA X (e::es) t)
  (hbase:attributeBase o name X.env (eval o X.env)=eval o X.env:=by rfl)
  (hfew:((backTo cpos (starEach (e::es) X.env)).all (fun x=> !x.1)&&(backToKw cpos (keywordEach [] X.env)).all (fun x=>x.1.isSome)
   &&decide ((e::es).length+([]:List Keyword).length+(if ([]:List Keyword).isEmpty then 0 else 1) < 30))=true:=by rfl)
  (hline:(apos.endLine == cpos.line)=true:=by rfl) (hs:starEach (e::es) X.env=(false,eval e X.env)::starEach es X.env:=by rfl) (hplain:(backTo cpos (starEach es X.env)).any (·.1)=false:=by rfl):
  PE X (.Call (.Attribute o name apos) (e::es) [] cpos) (IS X.K T r to t):=by
 intro pins s σ H Q I h
 refine wpAny_Call_method_late hbase hfew hline rfl (gV (ho pins s σ H _ I h) fun v s1 ⟨x,H1,I1,r1,ty,q1⟩=>?_)
 obtain⟨h1,h2⟩:=AC I1 r1 ty
 refine⟨T,id,pa,slot,hty,h1,h2,?_⟩
 have hA:=ha cpos pins s1 σ H1 _ I1 q1
 rw[hs]at hA ⊢
 refine Calls.callWith_builtin (by show(false||(backTo cpos (starEach es X.env)).any (·.1))=false;rw[hplain] <;> rfl) (Calls.evalArgs_plain ?_)
 exact gV hA fun us s2 ⟨vs,H2,I2,r2,q2⟩=>hm pins s2 σ H2 x vs v us Q I2 r1 r2 q2
end
end L2
namespace L2
open PySem PySem.Spec PyProof.Rows
def IJ(X:Cx)(id:String)(r:V→List V→Hp→VK→Prop):Prop:=
 ∀(pins:List (Addr×Obj)) (s:Shared) (σ:St) (H:Hp) (x:V) (xs:List V) (v:Value) (us:List Value) (Q:VK),Inv X pins σ H s→RelV x v→Vals xs us→r x xs H Q→
  wpAny (model X.prog X.w) X.A (call (.builtin id) (v::us)) (EP X pins σ Q) X.xe s
theorem Vals.one{x:V}{us:List Value}(h:Vals [x] us):∃u,us=[u]∧RelV x u:=by
 cases h with
 |cons r t=>cases t;exact⟨_,rfl,r⟩
theorem Vals.two{x y:V}{us:List Value}(h:Vals [x,y] us):∃u v,us=[u,v]∧RelV x u∧RelV y v:=by
 cases h with
 |cons r t=>
  obtain⟨v,rfl,q⟩:=Vals.one t
  exact⟨_,_,rfl,r,q⟩
theorem Vals.zero:∀{us:List Value},Vals [] us→us=[]
 |_,.nil=>rfl
theorem Vals.dropLast{xs:List V}{us:List Value}(h:Vals xs us):Vals xs.dropLast us.dropLast:=by
 induction h with
 |nil=>exact .nil
 |cons r t ih=>
  cases t with
  |nil=>exact .nil
  |cons q t'=>exact .cons r ih
theorem Vals.rep{xs:List V}{us:List Value}(h:Vals xs us):∀k:Nat,Vals (List.replicate k xs).flatten (List.replicate k us).flatten
 | 0=>.nil
 |k+1=>by
  rw[List.replicate_succ,List.replicate_succ,List.flatten_cons,List.flatten_cons]
  exact Vals.append h (Vals.rep h k)
theorem wl{α:Type}(l:List α):l.eraseIdx (l.length - 1)=l.dropLast:=by
 induction l with
 |nil=>rfl
 |cons a r ih=>
  cases r with
  |nil=>rfl
  |cons b r=>
   have e:(a::b::r).length - 1=((b::r).length - 1)+1:=by
    have h1:(a::b::r).length=r.length+2:=rfl
    have h2:(b::r).length=r.length+1:=rfl
    omega
   rw[e,List.eraseIdx_cons_succ,ih]
   all_goals rfl
section
variable {X:Cx} {pins:List (Addr×Obj)} {σ:St} {H:Hp} {s:Shared} {l b:Addr} {xs ys zs:List V}
theorem Inv.lset{its its':List Value}{n:Nat}{f:Array Value→Array Value}{t':Nat}(I:Inv X pins σ H s)(hH:H l=some (.lst xs))
  (e:s.heap.get? l=some {cls:=.type "list",data:=.seq its.toArray n}) (hf:f its.toArray=its'.toArray) (hv:Vals ys its') (hz:ys.length≤sizeLine):
  Inv X pins σ (fS H l (.lst ys)) {s with heap:=s.heap.update l (Obj.mapSeq f),toks:=t'}:=by
 have q:=PySem.IsL.update e f
 rw[hf]at q
 refine I.write (x:=l) (e:=l) (by rw[hH];exact trivial) (.inl rfl) (fun b' u hb hu=>(Heap.get?_update_other s.heap (Obj.mapSeq f) (Ne.symm hb)).trans hu) ⟨_,q⟩ ?_
 exact⟨hz,its',_,hv,q⟩
theorem Inv.lnew{its:List Value}{t':Nat}(I:Inv X pins σ H s)(hv:Vals ys its)(hz:ys.length≤sizeLine):
  Inv X pins σ (fS H s.heap.objs.size (.lst ys)) {s with heap:=s.heap.push {cls:=.type "list",data:=.seq its.toArray},toks:=t'}:=
 I.laid (fun _ _ q=>Heap.get?_push_of_some _ q) (Nat.le_refl _) ⟨hz,its,0,hv,Heap.get?_push_size _ rfl⟩
theorem Inv.fresh(I:Inv X pins σ H s):H s.heap.objs.size=none:=I.hok.fresh (Nat.le_refl _)
theorem Inv.lstM(I:Inv X pins σ H s)(hH:H l=some (.lst xs)):xs.length≤sizeLine∧∃(its:List Value) (n:Nat),Vals xs its∧xs.length=its.length∧s.heap.get? l=some {cls:=.type "list",data:=.seq its.toArray n}:=by
 obtain⟨z,its,n,r,e⟩:=I.hok l _ hH
 exact⟨z,its,n,r,r.length,e⟩
end
section
variable {X:Cx}
def CZ:V→List V→Hp→VK→Prop:=fun x vs H Q=>∃l xs y,x=.ref l∧vs=[y]∧H l=some (.lst xs)∧xs.length < sizeLine∧Q .non (fS H l (.lst (xs++[y])))
theorem sq:IJ X "list.append" CZ:=by
 intro pins s σ H x vs v us Q I rx rv h
 obtain⟨l,xs,y,rfl,rfl,hH,hz,q⟩:=h
 cases rx
 obtain⟨u,rfl,ru⟩:=rv.one
 obtain⟨z,its,n,r,hl,e⟩:=I.lstM hH
 refine call_meets F.slot_list_append ⟨_,e,rfl⟩ F.entry_list_append (F.args_list_append_2 _ _) (PySem.list_append l its.toArray n u (by rw[List.size_toArray];omega)) ⟨e,?_⟩
 refine⟨.non,_,I.lset (its':=its++[u]) hH e (by simp) (r.append (.cons ru .nil)) ?_,rfl,q⟩
 rw[List.length_append,List.length_singleton]
 omega
def Ig:V→List V→Hp→VK→Prop:=fun x vs H Q=>∃l xs y,x=.ref l∧vs=[]∧H l=some (.lst xs)∧xs[xs.length - 1]? =some y∧Q y (fS H l (.lst xs.dropLast))
theorem Fg:IJ X "list.pop" Ig:=by
 intro pins s σ H x vs v us Q I rx rv h
 obtain⟨l,xs,y,rfl,rfl,hH,hy,q⟩:=h
 cases rx
 have hus:=rv.zero
 subst hus
 obtain⟨z,its,n,r,hl,e⟩:=I.lstM hH
 obtain⟨u,hu,ru⟩:=r.get hy
 have hy':its.toArray[its.toArray.size - 1]? =some u:=by
  show its.toArray[its.length - 1]? =some u
  rw[←Array.getElem?_toList,←hl]
  exact hu
 refine call_meets F.slot_list_pop ⟨_,e,rfl⟩ F.entry_list_pop (F.args_list_pop_1 _) (MeetsSeq.list_pop_last l its.toArray n u hy' (by rw[List.size_toArray];omega)) ⟨e,?_⟩
 refine⟨y,_,I.lset (its':=its.dropLast) hH e ?_ r.dropLast ?_,ru,q⟩
 ·show its.toArray.eraseIdxIfInBounds (its.toArray.size - 1)=its.dropLast.toArray
  rw[List.size_toArray,List.eraseIdxIfInBounds_toArray,wl]
 ·rw[List.length_dropLast]
  omega
theorem C3{α:Type}(xs:List α)(k:Nat):(List.replicate k xs).flatten.length=k*xs.length:=by
 induction k with
 |zero=>simp
 |succ k ih=>rw[List.replicate_succ,List.flatten_cons,List.length_append,ih,Nat.succ_mul,Nat.add_comm]
end
end L2
namespace Att
open PySem PySem.W PySem.Calls PyProof.Rows
theorem pA{P:Params}{h:Heap}:∀(ns:List Int) (vs:List Value),WellAll P h vs (ns.map WData.int)→IntsAre vs ns:=by
 intro ns
 induction ns with
 |nil=>
  intro vs w
  rw[List.map_nil]at w
  cases w
  exact .nil
 |cons n ns ih=>
  intro vs w
  rw[List.map_cons]at w
  cases w with
  |cons a b=>
   cases a
   exact .cons _ _ (ih _ b)
theorem yW{l:OpenLaw}{n:Nat}(hn:l.most=some n){P:Params}{h:Heap}{args:List WData}{vals:List Value}
  (hpre:l.row.toRowW.claim.pre args=true) (hwl:WellAll P h vals args):
  ∃a vs ns,vals=[Value.ref a]∧args=[WData.list (ns.map WData.int)]∧h.get? a=some {cls:=.type "list",data:=.seq vs.toArray}∧IntsAre vs ns∧ns.length≤n:=by
 have hsh:WShape.hasAll [] args [.list .int]=true:=(pre_splitW hpre).1
 have hc:l.pre.holds [] {args:=args}=true:=(pre_splitW hpre).2
 obtain⟨d,r,rfl,h1,h2⟩:=hasAllW_cons hsh
 obtain rfl:=hasAllW_nil h2
 obtain⟨xs,rfl,h3⟩:=hasW_list h1
 obtain⟨ns,rfl⟩:=items_int h3
 have hlen:ns.length≤n:=by
  unfold OpenLaw.pre at hc
  have h4:(WTm.not (.lt (.lit (.int (n:Int))) (.len (.arg 0)))).holds [] {args:=[.list (ns.map .int)]}=true:=by
   have h4:=(holds_andW hc).1
   rw[hn]at h4
   exact h4
  have h5:=condW_of h4 (w_not (w_lt w_lit (w_len_list (w_arg rfl))))
  rw[List.length_map]at h5
  refine Nat.le_of_not_lt fun q=>?_
  have q':(n:Int) < ((ns.length:Nat):Int):=by omega
  first
   |(rw[decide_eq_true q']at h5;exact absurd h5 (by decide))
   |(simp at h5;omega)
 cases hwl with
 |cons w1 w2=>
  cases w2
  cases w1 with
  |list ho hall=>exact⟨_,_,ns,rfl,rfl,ho,pA ns _ hall,hlen⟩
theorem yX(l:OpenLaw)(args:List WData):l.row.toRowW.claim.post args (.bool true) args=true:=
 postW_of (r:=l.row.toRowW) (X:=(true == true))
  (show WShape.has [] (.bool true) .bool=true by first |rfl |decide |simp[WShape.has,WShape.arms,WShape.armsAll])
  (show(WTm.eq .res (.lit (.bool true))).value [] {args:=args,res:=some (.bool true),after:=args}=some (.bool (true == true))from w_eq_bool (w_res rfl) w_lit) rfl
theorem uX{l:OpenLaw}{n:Nat}{q:Program}{loose:List Str}{XP:(Str→Option Value)→Heap→Prop}{YP:World→Heap→Prop}{d:DefRec}
  (hn:l.most=some n) (hdf:d.params.defaults=[])
  (call:∀(w:World) (s₀ s₁:Shared) (mg mb:Str→Option Value) (fa:Addr) (o:Obj) (pm cd doc:Value) (a:Addr) (vs:List Value) (ns:List Int),
   Ground q loose [] XP w s₀ mg mb s₁.heap→YP w s₁.heap→
   s₁.heap.get? fa=some o→o.data=.func (docDef d.name d.params d.body d.scope pm cd doc)→s₁.heap.CodeRec cd d.name→mg d.name=some (.ref fa)→
   s₁.heap.get? a=some {cls:=.type "list",data:=.seq vs.toArray}→IntsAre vs ns→ns.length≤n→s₁.gens=#[]→
   codeAny (model l.prog w) callerA (.call (.ref fa) ⟨[.ref a],[]⟩) (fun r s'=>r=.ok (.ret (.bool true))∧OldK s₁.heap s'.heap∧s'.os=s₁.os∧AllBare s'.gens) s₁):
  WalkO q loose XP YP l.row.toRowW d [] (fun f vs=>PySem.call f vs):=by
 intro w s₀ s₁ mg mb G Y fa o pm cd doc dV kV ho hd hcd hD hmg hg args vals as hpre hlay hrd hwl hlo
 obtain rfl:dV=.none:=Dflts.none hD hdf
 obtain rfl:kV=.none:=Dflts.noKw hD
 obtain⟨a,vs,ns,rfl,rfl,hobj,hints,hlen⟩:=yW hn hpre hwl
 refine enter_call (codeAny_mono (call w s₀ s₁ mg mb fa o pm cd doc a vs ns G Y ho (fd_plain hd) hcd hmg hobj hints hlen hg) fun r s' hq=>?_)
 obtain⟨rfl,h2,h3,h4⟩:=hq
 exact⟨.inl ⟨.bool true,.bool true,[],rfl,fun _=>rfl,.bool true,yX l _,fun _=>⟨List.Pairwise.nil,fun _ hm=>(nomatch hm)⟩⟩,h2,h3,h4⟩
end Att
namespace L2
open PySem PySem.Spec PyProof.Rows
theorem j_:∀{vs:List Value} {ns:List Int},IntsAre vs ns→Vals (ns.map V.int) vs
 |_,_,.nil=>.nil
 |_,_,.cons n t h=>.cons ⟨t,rfl⟩ (j_ h)
theorem ObjOk.tbl0{P:Program}{w:World}{H:Hp}{h:Heap}{b:Addr}{q:Str}(e:h.get? b=some (PySem.W.tabObj #[])):ObjOk P w H h b (.tbl q):=⟨#[],e,trivial,fun pos cv z=>by cases z⟩
end L2
namespace L2
open PySem PySem.Spec PyProof.Rows
def aF(s:Stmt):Arguments:=match s with
 | .FunctionDef _ a _ _ _ _ _ _ _ _=>a
 |_=>{posonlyargs:=[],args:=[],vararg:=none,kwonlyargs:=[],kw_defaults:=[],kwarg:=none,defaults:=[]}
def av(s:Stmt):List Stmt:=match s with
 | .FunctionDef _ _ b _ _ _ _ _ _ _=>b
 |_=>[]
def ah(s:Stmt):Scope:=match s with
 | .FunctionDef _ _ _ _ _ _ sc _ _ _=>sc
 |_=>{kind:=.function,names:=[],isGenerator:=false,isCoroutine:=false}
abbrev yY:Cw:=fun _ _ _ _ _ _=>False
abbrev E0:XK:=fun _ _ _=>False
theorem GV{X:Cx}:wj yY X E0:=fun _ _ _ _ _ _ _ h=>h.elim
structure Fun (K:PySem.W.Frag) (x qual:Str) (st:Stmt) (f:Addr) (fd:FuncData):Prop where
 ex:∃(oc:Value) (od:Option Addr) (kV doc pm:Value) (an:Option Addr) (cdv ct:Value) (osl:Array (Option Value)),
  fd=PySem.W.fnOf x qual (aF st) (av st) (ah st) .none kV doc pm an cdv ct∧K.lookup f=some ⟨oc,od,.func fd,osl⟩∧PySem.W.codeIn K cdv qual=true
 kp:PySem.W.keepIn K (.ref f)=true
section
variable {P:Program} {w:World} {K:PySem.W.Frag} {mg:Str→Option Value} {base:Heap}
theorem Fun.ok{x qual:Str}{st:Stmt}{f:Addr}{fd:FuncData}{N ps:List Str}{k:Nat}{sp:Sp}(F:Fun K x qual st f fd)(S:FnScope N ps (ah st))(len:∀vs H Q E,sp vs H Q E→vs.length=ps.length)
  (hbody:∀(cdv:Value) (A:Around) (outer:List Env) (s:Shared) (H:Hp) (vs:List V) (Q:VK) (E:XK),Room k (A.deeper (envOfC qual (ah st) s.heap.objs.size f cdv))→sp vs H Q E→
   ∃t,PSs (rJ yY P w K mg base N qual (ah st) f cdv A outer s H E).nox (av st) t∧t {nx:=fun _ H'=>Q .non H',rt:=Q} (lH N vs) H):FnOk P w K mg base yY (k+1) f fd ps sp:=by
 obtain⟨oc,od,kV,doc,pm,an,cdv,ct,osl,rfl,lk,hcd⟩:=F.ex
 refine D9 lk hcd S len fun A outer s H vs Q E hr hsp=>?_
 obtain⟨t,h,q⟩:=hbody cdv A outer s H vs Q E hr hsp
 exact⟨t,h.nox,q⟩
theorem Fun.binds{x qual:Str}{st:Stmt}{f:Addr}{fd:FuncData}{ps:List Str}(F:Fun K x qual st f fd)
  (h:∀(kV doc pm:Value) (an:Option Addr) (cdv ct:Value) (us:List Value),us.length=ps.length→bindArgs (PySem.W.fnOf x qual (aF st) (av st) (ah st) .none kV doc pm an cdv ct) ⟨us,[]⟩=pure (ps.zip us)):Binds K fd ps []:=by
 obtain⟨oc,od,kV,doc,pm,an,cdv,ct,osl,rfl,lk,hcd⟩:=F.ex
 exact .all (h kV doc pm an cdv ct)
theorem wm{x qual:Str}{st:Stmt}{f:Addr}{oc:Value}{od an:Option Addr}{osl:Array (Option Value)}{kV doc pm cdv ct:Value}(l:K.lookup f=some ⟨oc,od,.func (PySem.W.fnOf x qual (aF st) (av st) (ah st) .none kV doc pm an cdv ct),osl⟩)
  (c:PySem.W.codeIn K cdv qual=true) (k:PySem.W.keepIn K (.ref f)=true):Fun K x qual st f (PySem.W.fnOf x qual (aF st) (av st) (ah st) .none kV doc pm an cdv ct):=⟨⟨oc,od,kV,doc,pm,an,cdv,ct,osl,rfl,l,c⟩,k⟩
end
def Same(H H':Hp):Prop:=∀b o,H b=some o→H' b=some o
theorem Same.refl(H:Hp):Same H H:=fun _ _ h=>h
theorem Same.trans{H H1 H2:Hp}(a:Same H H1)(b:Same H1 H2):Same H H2:=fun c o h=>b c o (a c o h)
theorem Same.free{H H':Hp}(e:Same H H'){l:Addr}(h:H' l=Option.none):H l=Option.none:=by
 cases q:H l with
 |none=>rfl
 |some o=>
  rw[e l o q]at h
  cases h
theorem Same.seq{K:PySem.W.Frag}{H H':Hp}{a:Addr}{xs:List V}(e:Same H H')(h:SqL K H a xs):SqL K H' a xs:=by
 rcases h with(h |⟨o,h⟩) |h
 ·exact .inl (.inl (e _ _ h))
 ·exact .inl (.inr ⟨o,e _ _ h⟩)
 ·exact .inr h
end L2
namespace NH
section
variable {α:Type} [DecidableEq α]
def stp(r:List (α×Int))(p:α×Int):List (α×Int):=
 match r with
 |[]=>if p.2=0 then []else [p]
 |q::r'=>if q.1=p.1 then (if q.2+p.2=0 then r' else (p.1,q.2+p.2)::r')else (if p.2=0 then q::r' else p::q::r')
def stk(c:List (α×Int)):List (α×Int):=c.foldl stp []
def short(c:List (α×Int)):List (α×Int):=(stk c).reverse
def qg(c:List (α×Int)):List (α×Int):=c.foldr (fun p r=>stp r p) []
def Red:List (α×Int)→Prop
 |[]=>True
 |[p]=>p.2≠0
 |p::q::r=>p.2≠0∧p.1≠q.1∧Red (q::r)
theorem Red.tail{p:α×Int}{r:List (α×Int)}(h:Red (p::r)):Red r:=by
 cases r with
 |nil=>trivial
 |cons q r=>exact h.2.2
theorem Red.head{p:α×Int}{r:List (α×Int)}(h:Red (p::r)):p.2≠0:=by
 cases r with
 |nil=>exact h
 |cons q r=>exact h.1
theorem Red.cons{p:α×Int}{r:List (α×Int)}(h0:p.2≠0)(h1:∀q∈r.head?,p.1≠q.1)(h:Red r):Red (p::r):=by
 cases r with
 |nil=>exact h0
 |cons q r=>exact⟨h0,h1 q rfl,h⟩
theorem Red.next{p:α×Int}{r:List (α×Int)}(h:Red (p::r)):∀q∈r.head?,p.1≠q.1:=by
 cases r with
 |nil=>intro q hq;cases hq
 |cons q r=>intro q' hq;cases hq;exact h.2.1
theorem xx{r:List (α×Int)}(h:Red r)(p:α×Int):Red (stp r p):=by
 cases r with
 |nil=>
  unfold stp
  by_cases h0:p.2=0
  ·simp[h0,Red]
  ·simp[h0,Red]
 |cons q r=>
  show Red (if q.1=p.1 then (if q.2+p.2=0 then r else (p.1,q.2+p.2)::r)else (if p.2=0 then q::r else p::q::r))
  by_cases e:q.1=p.1
  ·rw[if_pos e]
   by_cases z:q.2+p.2=0
   ·rw[if_pos z];exact h.tail
   ·rw[if_neg z]
    refine Red.cons z (fun s hs=>?_) h.tail
    rw[←e];exact h.next s hs
  ·rw[if_neg e]
   by_cases z:p.2=0
   ·rw[if_pos z];exact h
   ·rw[if_neg z];exact⟨z,fun t=>e t.symm,h⟩
theorem om:∀(c:List (α×Int)) {r:List (α×Int)},Red r→Red (c.foldl stp r)
 |[],_,h=>h
 |p::c,_,h=>om c (xx h p)
theorem C4(c:List (α×Int)):Red (stk c):=om c trivial
theorem qh{r:List (α×Int)}(h:Red r)(n:α):stp r (n,0)=r:=by
 cases r with
 |nil=>simp[stp]
 |cons q r=>
  have:=h.head
  unfold stp
  by_cases e:q.1=n
  ·obtain⟨a,b⟩:=q
   simp at e this
   subst e
   simp[this]
  ·simp[e]
theorem xy{r:List (α×Int)}(h:Red r)(n:α)(a b:Int):stp (stp r (n,a)) (n,b)=stp r (n,a+b):=by
 cases r with
 |nil=>
  by_cases ha:a=0
  ·subst ha;simp[stp]
  ·simp[stp,ha]
 |cons q r=>
  obtain⟨m,u⟩:=q
  have hu:u≠0:=h.head
  by_cases e:m=n
  ·subst e
   by_cases z:u+a=0
   ·have e1:stp ((m,u)::r) (m,a)=r:=by simp[stp,z]
    rw[e1]
    have ez:u+(a+b)=b:=by omega
    have hn:=h.next
    cases r with
    |nil=>
     by_cases hb:b=0
     ·subst hb;simp[stp];omega
     ·simp[stp,ez,hb]
    |cons s r=>
     have e2:¬s.1=m:=fun t=>hn s rfl t.symm
     by_cases hb:b=0
     ·subst hb;simp[stp,e2];omega
     ·simp[stp,ez,hb,e2]
   ·have e1:stp ((m,u)::r) (m,a)=(m,u+a)::r:=by simp[stp,z]
    rw[e1]
    simp only[stp,if_true]
    rw[Int.add_assoc]
  ·by_cases ha:a=0
   ·subst ha;simp[stp,e]
   ·simp[stp,e,ha]
theorem AD{r:List (α×Int)}(h:Red r)(n:α)(a:Int):stp (stp r (n,a)) (n,-a)=r:=by
 rw[xy h,Int.add_right_neg,qh h]
def aR(c:List (α×Int)):List (α×Int):=c.reverse.map fun p=>(p.1,-p.2)
theorem wn(p:α×Int)(c:List (α×Int)):aR (p::c)=aR c++[(p.1,-p.2)]:=by simp[aR]
theorem uY(c:List (α×Int)):aR (aR c)=c:=by
 simp only[aR,List.map_reverse,List.reverse_reverse,List.map_map]
 conv=>rhs;rw[←List.map_id c]
 refine List.map_congr_left fun p _=>?_
 simp
theorem cY(c:List (α×Int)):(aR c).length=c.length:=by simp[aR]
theorem on:∀(c:List (α×Int)) {r:List (α×Int)},Red r→(c++aR c).foldl stp r=r
 |[],_,_=>rfl
 |p::c,r,h=>by
  rw[wn,←List.append_assoc,List.foldl_append]
  show stp ((c++aR c).foldl stp (stp r p)) (p.1,-p.2)=r
  rw[on c (xx h p)]
  exact AD h p.1 p.2
def sn(w:List (α×Int))(p:α×Int):List (α×Int):=(stp w.reverse p).reverse
def Am(p x:α×Int):List (α×Int):=if x.1=p.1 then (if x.2+p.2=0 then []else [(p.1,x.2+p.2)])else (if p.2=0 then [x]else [p,x])
theorem ke(p x:α×Int)(r:List (α×Int)):stp (x::r) p=Am p x++r:=by
 show(if x.1=p.1 then (if x.2+p.2=0 then r else (p.1,x.2+p.2)::r)else (if p.2=0 then x::r else p::x::r))=Am p x++r
 unfold Am
 by_cases e:x.1=p.1
 ·rw[if_pos e,if_pos e];split <;> rfl
 ·rw[if_neg e,if_neg e];split <;> rfl
def Ih(x p:α×Int):List (α×Int):=(Am p x).reverse
theorem xz(p x:α×Int)(r:List (α×Int)):sn (r++[x]) p=r++Ih x p:=by
 unfold sn Ih
 rw[List.reverse_append,List.reverse_singleton,List.singleton_append,ke,List.reverse_append,List.reverse_reverse]
theorem GW(p q:α×Int)(x:α×Int)(hx:x.2≠0):stp (sn [x] q) p=sn (stp [x] p) q:=by
 obtain⟨n,a⟩:=p
 obtain⟨k,b⟩:=q
 obtain⟨m,u⟩:=x
 simp at hx
 by_cases e1:m=n
 ·subst e1
  by_cases e2:m=k
  ·subst e2
   by_cases z1:u+a=0 <;> by_cases z2:u+b=0
   ·simp[stp,sn,z1,z2]
    have:a=b:=by omega
    have ha:a≠0:=by omega
    have hb:b≠0:=by omega
    simp[ha,hb,this]
   ·have hb:u+b+a=b:=by omega
    by_cases b0:b=0
    ·subst b0;simp[stp,sn,z1,hx]
    ·simp[stp,sn,z1,z2,hb,b0]
   ·have hb:u+a+b=a:=by omega
    by_cases a0:a=0
    ·subst a0;simp[stp,sn,z2,hx]
    ·simp[stp,sn,z1,z2,hb,a0]
   ·have hb:u+b+a=u+a+b:=by omega
    by_cases z3:u+a+b=0
    ·simp[stp,sn,z1,z2,hb,z3]
    ·simp[stp,sn,z1,z2,hb,z3]
  ·by_cases z1:u+a=0 <;> by_cases z2:b=0 <;> simp[stp,sn,e2,z1,z2]
 ·by_cases e2:m=k
  ·subst e2
   by_cases z1:u+b=0 <;> by_cases z2:a=0 <;> simp[stp,sn,e1,z1,z2]
  ·by_cases z1:a=0 <;> by_cases z2:b=0 <;> simp[stp,sn,e1,e2,z1,z2]
theorem GY(p q:α×Int):stp (sn [] q) p=sn (stp [] p) q:=by
 obtain⟨n,a⟩:=p
 obtain⟨k,b⟩:=q
 by_cases z1:a=0 <;> by_cases z2:b=0
 ·simp[stp,sn,z1,z2]
 ·by_cases e:k=n <;> simp[stp,sn,z1,z2,e]
 ·by_cases e:n=k <;> simp[stp,sn,z1,z2,e]
 ·by_cases e:k=n
  ·subst e
   by_cases z:a+b=0
   ·have z':b+a=0:=by omega
    simp[stp,sn,z1,z2,z,z']
   ·have z':¬b+a=0:=by omega
    simp[stp,sn,z1,z2,z,z']
    omega
  ·have e':¬n=k:=fun t=>e t.symm
   simp[stp,sn,z1,z2,e,e']
theorem comm(p q:α×Int){w:List (α×Int)}(h:Red w):stp (sn w q) p=sn (stp w p) q:=by
 cases w with
 |nil=>exact GY p q
 |cons x r=>
  rcases List.eq_nil_or_concat r with rfl |⟨m,y,e⟩
  ·exact GW p q x h
  ·have e':r=m++[y]:=by rw[e] <;> simp
   subst e'
   have e1:x::(m++[y])=(x::m)++[y]:=rfl
   have e2:sn (x::(m++[y])) q=x::(m++Ih y q):=by rw[e1,xz];rfl
   rw[e2,ke,ke,←List.append_assoc,←List.append_assoc,xz]
theorem iZ:∀{m:List (α×Int)} {y z:α×Int},Red (m++[y])→z.2≠0→y.1≠z.1→Red (m++[y]++[z])
 |[],y,z,h,h0,h1=>⟨h,h1,h0⟩
 |[x],y,z,h,h0,h1=>⟨h.1,h.2.1,iZ (m:=[]) h.2.2 h0 h1⟩
 |x::x'::m,y,z,h,h0,h1=>⟨h.1,h.2.1,iZ (m:=x'::m) h.2.2 h0 h1⟩
theorem lK:∀{w:List (α×Int)},Red w→Red w.reverse
 |[],_=>trivial
 |[p],h=>h
 |p::q::r,h=>by
  have ih:=lK (w:=q::r) h.2.2
  rw[List.reverse_cons,List.reverse_cons]
  rw[List.reverse_cons]at ih
  exact iZ ih h.1 fun t=>h.2.1 t.symm
theorem kf(c:List (α×Int)):Red (short c):=lK (C4 c)
theorem qi(c:List (α×Int))(p:α×Int):short (c++[p])=sn (short c) p:=by
 unfold short stk sn
 rw[List.foldl_append,List.reverse_reverse]
 rfl
theorem ig(p:α×Int):∀c:List (α×Int),short (p::c)=stp (short c) p:=by
 intro c
 induction hn:c.length generalizing c with
 |zero=>
  have:c=[]:=List.length_eq_zero_iff.mp hn
  subst this
  simp[short,stk,stp]
  by_cases z:p.2=0 <;> simp[z]
 |succ n ih=>
  rcases List.eq_nil_or_concat c with rfl |⟨m,y,e⟩
  ·simp at hn
  ·have e':c=m++[y]:=by rw[e] <;> simp
   subst e'
   have hm:m.length=n:=by simp at hn;exact hn
   have e1:p::(m++[y])=(p::m)++[y]:=rfl
   rw[e1,qi,ih m hm,qi,comm p y (kf m)]
theorem gy:∀c:List (α×Int),short c=qg c
 |[]=>rfl
 |p::c=>by rw[ig,gy c];rfl
theorem oU:∀{w:List (α×Int)},Red w→qg w=w
 |[],_=>rfl
 |[p],h=>by
  have:p.2≠0:=h
  simp[qg,stp,this]
 |p::q::r,h=>by
  have ih:=oU (w:=q::r) h.2.2
  show stp (qg (q::r)) p=_
  rw[ih]
  have h1:¬q.1=p.1:=fun t=>h.2.1 t.symm
  simp[stp,h1,h.1]
theorem qj(c:List (α×Int)):short (c++aR c)=[]:=by
 unfold short stk;rw[on c (r:=[]) trivial];rfl
theorem tP(r:List (α×Int))(p:α×Int):(stp r p).length≤r.length+1:=by
 cases r with
 |nil=>by_cases z:p.2=0 <;> simp[stp,z]
 |cons q r=>rw[ke];unfold Am;split <;> split <;> simp <;> omega
theorem sr:∀(c:List (α×Int)) (r:List (α×Int)),(c.foldl stp r).length≤r.length+c.length
 |[],r=>by simp
 |p::c,r=>by
  have h1:=sr c (stp r p)
  have h2:=tP r p
  simp only[List.foldl_cons,List.length_cons]
  omega
theorem yZ{A B X Y:List (α×Int)}(h:∀r,Red r→X.foldl stp r=Y.foldl stp r):short (A++X++B)=short (A++Y++B):=by
 unfold short stk
 rw[List.foldl_append,List.foldl_append,List.foldl_append,List.foldl_append,h _ (om A (r:=[]) trivial)]
theorem AE(c:List (α×Int)):∀r:List (α×Int),Red r→(c++aR c).foldl stp r=([]:List (α×Int)).foldl stp r:=fun r h=>on c h
end
end NH
namespace L2
open PySem PySem.Spec PyProof.Rows
theorem kh{H:Hp}{p:Addr}(h:H p=none)(o:HO):Same H (fS H p o):=fun b u q=>by rw[bq (cQ q h)];exact q
theorem Same.tup{K:PySem.W.Frag}{H H':Hp}{a:Addr}{xs:List V}(e:Same H H')(h:SqT K H a xs):SqT K H' a xs:=by
 rcases h with(h |⟨o,h⟩) |h
 ·exact .inl (.inl (e _ _ h))
 ·exact .inl (.inr ⟨o,e _ _ h⟩)
 ·exact .inr h
mutual
inductive DOf (K:PySem.W.Frag) (H:Hp):V→PyData→Prop
 |non:DOf K H .non .none
 |bl (b:Bool):DOf K H (.bl b) (.bool b)
 |int (i:Int):DOf K H (.int i) (.int i)
 |str (x:Str):DOf K H (.str x) (.str x)
 |lst {a:Addr} {xs:List V} {ds:List PyData}:SqL K H a xs→DAll K H xs ds→DOf K H (.ref a) (.list ds)
 |tup {a:Addr} {xs:List V} {ds:List PyData}:SqT K H a xs→DAll K H xs ds→DOf K H (.ref a) (.tuple ds)
inductive DAll (K:PySem.W.Frag) (H:Hp):List V→List PyData→Prop
 |nil:DAll K H [] []
 |cons {x:V} {xs:List V} {d:PyData} {ds:List PyData}:DOf K H x d→DAll K H xs ds→DAll K H (x::xs) (d::ds)
end
section
variable {X:Cx} {pins:List (Addr×Obj)} {σ:St} {H:Hp} {s:Shared}
theorem DOf.reads(I:Inv X pins σ H s){x:V}{d:PyData}{u:Value}(h:DOf X.K H x d)(r:RelV x u):∃as,Reads s.heap u d as:=DOf.rec (motive_1:=fun x d _=>∀{u:Value},RelV x u→∃as,Reads s.heap u d as) (motive_2:=fun xs ds _=>∀{us:List Value},Vals xs us→∃as,ReadsAll s.heap us ds as)
  (fun r=>by cases r;exact⟨_,Reads.none⟩) (fun b _ r=>by cases r;exact⟨_,Reads.bool b⟩) (fun i _ r=>by obtain⟨t,rfl⟩:=r;exact⟨_,Reads.int i t⟩) (fun x _ r=>by obtain⟨t,rfl⟩:=r;exact⟨_,Reads.str x t⟩)
  (fun hq _ ih _ r=>by
   cases r
   obtain⟨its,rv,⟨o,n,e,c,_,d⟩,_⟩:=I.list hq
   obtain⟨as,q⟩:=ih rv
   exact⟨_,reads_list_at e c d (by simpa using q)⟩)
  (fun hq _ ih _ r=>by
   cases r
   obtain⟨its,rv,⟨o,e,c,n,d⟩,_⟩:=I.tuple hq
   obtain⟨as,q⟩:=ih rv
   exact⟨_,reads_tuple_at e c d (by simpa using q)⟩)
  (fun r=>by cases r;exact⟨_,ReadsAll.nil⟩)
  (fun _ _ a b _ r=>by
   cases r with
   |cons r rt=>
    obtain⟨as,q⟩:=a r
    obtain⟨bs,p⟩:=b rt
    exact⟨_,ReadsAll.cons q p⟩) h r
end
def GZ(K:PySem.W.Frag):R2:=fun x y H Q=>∃d e,DOf K H x d∧DOf K H y e∧SeqAt.shaped d=true∧SeqAt.shaped e=true∧Q (.bl (PyData.eqv d e)) H
def G0(K:PySem.W.Frag):R2:=fun x y H Q=>∃d e,DOf K H x d∧DOf K H y e∧SeqAt.shaped d=true∧SeqAt.shaped e=true∧Q (.bl (!PyData.eqv d e)) H
theorem AF{X:Cx}(hu:X.A.units+64 < cLine):OpR X (compareOp .Eq) (GZ X.K):=by
 intro pins s σ H x y v u Q I rx ry h
 obtain⟨d,e,hd,he,s1,s2,q⟩:=h
 obtain⟨as,ra⟩:=hd.reads I rx
 obtain⟨bs,rb⟩:=he.reads I ry
 exact eq_dataH ra rb s1 s2 hu ⟨.bl _,H,I,rfl,q⟩
theorem Fh{X:Cx}(hu:X.A.units+64 < cLine):OpR X (compareOp .NotEq) (G0 X.K):=by
 intro pins s σ H x y v u Q I rx ry h
 obtain⟨d,e,hd,he,s1,s2,q⟩:=h
 obtain⟨as,ra⟩:=hd.reads I rx
 obtain⟨bs,rb⟩:=he.reads I ry
 exact ne_dataH ra rb s1 s2 hu ⟨.bl _,H,I,rfl,q⟩
def Ii(K:PySem.W.Frag)(a:Addr)(xs:List V):It:=
 ⟨fun i H=>SqL K H a xs∧i < xs.length,fun i H x H'=>H'=H∧xs.reverse[i]? =some x,fun i H=>SqL K H a xs∧i=xs.length⟩
theorem AG{P:Program}{w:World}{K:PySem.W.Frag}{tg:Expr}(a it:Addr)(xs:List V):Turn P w K tg (Ii K a xs) [it] it (fun i h=>h.IsRevIter it a ((xs.length:Int) - 1 - (i:Int))) where
 mem:=by simp
 obj:=fun i h st b hb=>by
  have e:b=it:=by simpa using hb
  subst e
  obtain⟨o,e,c,d⟩:=st
  exact⟨o,e,fun v z=>by rw[d]at z;cases z⟩
 keep:=fun i h h' st k=>st.at fun o e=>k it (by simp) o e
 item:=by
  intro X hP hw hK hc i pins s σ H E I hf st hg
  subst hP hw hK
  obtain⟨hq,hx⟩:=hg
  obtain⟨its,rv,p,hz⟩:=I.list hq
  have hlen:=rv.length
  have e0:(xs.length:Int) - 1 - (i:Int)=((xs.length - 1 - i:Nat):Int):=by omega
  have hget:xs.reverse[i]? =xs[xs.length - 1 - i]? :=List.getElem?_reverse hx
  obtain⟨x,hx'⟩:∃x,xs[xs.length - 1 - i]? =some x:=⟨xs[xs.length - 1 - i]'(by omega),List.getElem?_eq_getElem (by omega)⟩
  obtain⟨u,hu,ru⟩:=rv.get hx'
  obtain⟨f0,f1,f2,f3,f4,f5⟩:=hf it (by simp)
  have st1:s.heap.IsRevIter it a ((xs.length - 1 - i:Nat):Int):=by rw[←e0];exact st
  refine wpAny_pyNext_rev_item st1 p.isList (x:=u) (by simpa using hu) fun h' st' sb=>?_
  have I1:Inv X pins σ H {s with heap:=h'}:=I.turned (t':=s.toks) (fun b o hb e=>(sb.2 b hb).trans e) f0 f1 f3 f4 f5
  have e1:((xs.length - 1 - i:Nat):Int) - 1=(xs.length:Int) - 1 - ((i+1:Nat):Int):=by omega
  have st2:h'.IsRevIter it a ((xs.length:Int) - 1 - ((i+1:Nat):Int)):=by rw[←e1];exact st'
  obtain⟨o,e,c,d⟩:=id st'
  exact⟨u,rfl,uS (s:={s with heap:=h'}) e c d (by decide) ⟨x,H,I1,ru,⟨rfl,hget.trans hx'⟩,st2,fun b hb=>(hf b hb).1⟩⟩
 done:=by
  intro X hP hw hK hc i pins s σ H E I hf st hg
  subst hP hw hK
  obtain⟨hq,hx⟩:=hg
  obtain⟨f0,f1,f2,f3,f4,f5⟩:=hf it (by simp)
  have e0:(xs.length:Int) - 1 - (i:Int)= -1:=by omega
  have st1:s.heap.IsRevIter it a (-1):=by rw[←e0];exact st
  exact wpAny_pyNext_rev_end (I.ok.hd hc) st1 fun h' eb=>⟨rfl,I.turned (t':=s.toks) (fun b o hb e=>eb b o hb e) f0 f1 f3 f4 f5⟩
 self:=fun _ _ _ _ _ st h=>wpAny_pyIter_revIter st h
section
variable {X:Cx} {tg:Expr}
def Ij(K:PySem.W.Frag)(tl:TA):TI:=fun σ H R=>tl σ H fun vs H1=>∃a xs,vs=[.ref a]∧SqL K H1 a xs∧R (Ii K a xs) H1
theorem Fi {l:Expr} {tl:TA} {p pos:Pos} (hg:Gl X "reversed") (hm:X.mg "reversed"=none) (ha:PA X [l] tl) (hs:starEach [l] X.env=[(false,eval l X.env)]:=by rfl):PI X tg (.Call (.Name "reversed" p) [l] [] pos) (Ij X.K tl):=by
 intro pins s σ H R I h
 refine Call_ (mZ I hg hm boot_reversed (PyProof.Rows.callWith_type1 (gV (ha pos pins s σ H _ I h) fun us s1 ⟨vs,H1,I1,r1,q1⟩=>?_) hs rfl))
 obtain⟨a,xs,e,hq,q⟩:=q1
 subst e
 cases r1 with
 |cons r rr=>
  cases rr
  cases r
  obtain⟨its,rv,p,hz⟩:=I1.list hq
  have hlen:=rv.length
  refine call_reversed_list p.isList ?_
  have hit:(s1.heap.push (revObj a (((its.toArray).size:Int) - 1))).IsRevIter s1.heap.objs.size a ((xs.length:Int) - 1 - ((0:Nat):Int)):=by
   refine⟨_,Heap.get?_push_size _ rfl,rfl,?_⟩
   have e1:((its.toArray.size:Nat):Int) - 1=(xs.length:Int) - 1 - ((0:Nat):Int):=by rw[List.size_toArray];omega
   show Data.fields #[.ref a,rawInt ((its.toArray.size:Int) - 1)]=_
   rw[e1]
  have I2:Inv X pins σ H1 {s1 with heap:=s1.heap.push (revObj a (((its.toArray).size:Int) - 1))}:=I1.kept (t':=s1.toks) fun b o e=>Heap.get?_push_of_some _ e
  refine wpAny_pyIter_revIter hit ?_
  refine⟨s1.heap.objs.size,[s1.heap.objs.size],_,_,H1,rfl,I2,AG a _ xs,hit,fun b hb=>?_,q⟩
  have e:b=s1.heap.objs.size:=by simpa using hb
  subst e
  have f:=I1.fpOk (H':=H1) (Nat.le_refl _) (I1.hok.fresh (Nat.le_refl _))
  exact f
end
end L2
namespace L2
open PySem PySem.Spec PyProof.Rows
section
variable {prog:Program} {w:World} {A:Around} {R:Result→Shared→Prop} {s:Shared}
theorem tQ{elt target iter:Expr}{ifs:List Expr}{scope:Scope}{pos:Pos}{it acc:Value}{env:Env}(I:Nat→Shared→Prop)
  (turn:∀n s,I n s→wpAny (model prog w) A (pyNext it) (fun r s₁=>match r with
   |none=>R (.ok .next) s₁
   |some v=>wpAny (model prog w) A (letOwnedTupleGo target it v) (fun _ s₁'=>wpAny (model prog w) A (assign target env v) (fun _ s₂=>
     wpAny (model prog w) A (forIn ifs true fun c r=>if r=true then do let ok ←isTrue c env (eval c env);pure (ForInStep.yield ok)else pure (ForInStep.yield r)) (fun ok s₃=>
      if ok=true then wpAny (model prog w) A (eval elt env) (fun x s₄=>
       wpAny (model prog w) A (call (.builtin "list.append") [acc,x]) (fun _ s₅=>∃m,m < n∧I m s₅) (fun _ _=>False) s₄) (fun _ _=>False) s₃
      else ∃m,m < n∧I m s₃) (fun _ _=>False) s₂) (fun _ _=>False) s₁') (fun _ _=>False) s₁) (fun _ _=>False) s)
  (n:Nat) (h:I n s):
  codeAny (model prog w) A (.compLoop (.ListComp elt [⟨target,iter,ifs,0⟩] scope pos) 0 it acc env) R s:=by
 refine codeAny_loop rfl I (fun n s hI=>?_) n h
 show wpAny _ A ((compTurn (.ListComp elt [⟨target,iter,ifs,0⟩] scope pos) 0 it acc env).onRaise (fun x=>do noteFrame x env;theTreesLotGoes x)) _ _ s
 refine wpAny_noted ?_
 rw[compTurn_list]
 refine wpAny_bind (wpAny_standAt (wpAny_bind (wpAny_mono (turn n s hI) (fun r s₁ h₁=>?_) fun _ _ h'=>h'.elim)))
 cases r with
 |none=>exact wpAny_pure h₁
 |some v=>
  refine wpAny_bind (wpAny_mono h₁ (fun _ s₁' h₁'=>?_) fun _ _ h'=>h'.elim)
  refine wpAny_bind (wpAny_mono h₁' (fun _ s₂ h₂=>wpAny_bind (wpAny_mono h₂ (fun ok s₃ h₃=>?_) fun _ _ h'=>h'.elim)) fun _ _ h'=>h'.elim)
  cases ok with
  |false=>exact wpAny_pure ⟨rfl,h₃⟩
  |true=>
   exact wpAny_bind (wpAny_bind (wpAny_mono h₃ (fun x s₄ h₄=>wpAny_bind (wpAny_mono h₄ (fun _ s₅ h₅=>wpAny_pure (wpAny_pure ⟨rfl,h₅⟩)) fun _ _ h'=>h'.elim)) fun _ _ h'=>h'.elim))
end
def Cx.comp(X:Cx)(sc:Scope)(cl:List (Str×Addr))(N:List Str)(C:Addr)(s₀:Shared)(H₀:Hp)(fp:List Addr):Cx:=
 ⟨X.prog,X.w,X.K,X.mg,X.base,X.A,N,s₀,H₀,⟨sc,C,X.env.globals,cl,X.env.qual,none,X.env.code,X.env.frame,X.env.builtins⟩,X.stack,X.stack,fp,fun _=>false,X.calm,[],fun _ _=>False⟩
def G1(X:Cx)(ifs:List Expr)(t:TT):Prop:=
 ∀(pins:List (Addr×Obj)) (s:Shared) (σ:St) (H:Hp) (Q:Bool→Hp→Prop),Inv X pins σ H s→t σ H Q→
  wpAny (model X.prog X.w) X.A (forIn ifs true fun c r=>if r=true then do let ok ←isTrue c X.env (eval c X.env);pure (ForInStep.yield ok)else pure (ForInStep.yield r)) (TP X pins σ Q) X.xe s
def Ik:TT:=fun _ H Q=>Q true H
theorem xB{X:Cx}:G1 X [] Ik:=fun _ _ _ H _ I h=>wpAny_tests_nil ⟨H,I,h⟩
theorem xC{X:Cx}{c:Expr}{t:TT}(h:PT X c t):G1 X [c] t:=fun pins s σ H Q I q=>wpAny_tests_one (h pins s σ H Q I q)
def slots(js:List (Option Nat))(σ:St):St:=js.map fun j=>j.bind fun j=>(σ[j]?).join
def xD(js:List (Option Nat))(wi:TI)(g:TG)(tt:TT)(te:TE):TE:=fun σ H Q=>wi σ H fun J H1=>∀l,H1 l=none→∃W:Nat→Nat→St→Hp→Prop,(∃m,W 0 m (slots js σ) (fS H1 l (.lst [])))∧
 ∀i m σ' H',W i m σ' H'→(J.stop i H'∧Q (.ref l) H')∨(J.go i H'∧∃N:St→Hp→Prop,(∀σ' H',N σ' H'→∃m',m' < m∧W (i+1) m' σ' H')∧∀x H2,J.yld i H' x H2→g x σ' H2 fun σ3 H3=>tt σ3 H3 fun b H4=>
  if b=true then te σ3 H4 fun y H5=>∃ys,H5 l=some (.lst ys)∧ys.length < sizeLine∧N σ3 (fS H5 l (.lst (ys++[y])))else N σ3 H4)
section
variable {X:Cx} {elt target iter:Expr} {ifs:List Expr} {scope sc:Scope} {cl:List (Str×Addr)} {N:List Str} {pos:Pos} {wi:TI} {g:TG} {tt:TT} {te:TE} {js:List (Option Nat)}
structure CompOk (X:Cx) (scope sc:Scope) (cl:List (Str×Addr)) (N:List Str) (js:List (Option Nat)):Prop where
 clos:closureFor scope X.env=pure cl
 rel:relabel scope X.env=sc
 nocell:∀y∈scope.names,y.2≠ .cell
 kind:scope.kind=.function
 names:∀y∈scope.names,y.2=.local→scope.names.lookup y.1=some .local
 same:∀x c,cl.lookup x=some c→X.env.cells.lookup x=some c
 has:∀x,(sc.names.lookup x=some .cell∨sc.names.lookup x=some .free)→∃c,cl.lookup x=some c
 len:js.length=N.length
 from_:∀(i j:Nat),js[i]? =some (some j)→∃x,N[i]? =some x∧X.N[j]? =some x∧(sc.names.lookup x=some .cell∨sc.names.lookup x=some .free)∧(X.env.kindOf x=some .cell∨X.env.kindOf x=some .free)
theorem uZ{use:Option (Value→Sem Unit)}{Qv:Value→Shared→Prop}(K:CompOk X scope sc cl N js)(hc:X.calm=true)(hi:PI X target iter wi)
  (hgg:∀C s₀ H₀ fp,PG (X.comp sc cl N C s₀ H₀ fp) target g) (htt:∀C s₀ H₀ fp,G1 (X.comp sc cl N C s₀ H₀ fp) ifs tt) (hee:∀C s₀ H₀ fp,PE (X.comp sc cl N C s₀ H₀ fp) elt te)
  (hs:∀x,foldedSetIterable iter X.env x=pure x) (pins:List (Addr×Obj)) (s:Shared) (σ:St) (H:Hp) (Q:VK) (I:Inv X pins σ H s) (h:xD js wi g tt te σ H Q)
  (hend:∀(D C:Addr) (H4:Hp) (s5:Shared) (m:Str→Option Value),Inv X pins σ H4 s5→s5.heap.Ns C m→H4 C=none→C≠X.env.locals→C∉X.fs→X.s₀.heap.objs.size≤C→(∀x c,X.env.cells.lookup x=some c→c≠C)→(∀p∈X.pn++pins,p.1≠C)→Q (.ref D) H4→
   compPost (model X.prog X.w) X.A X.xe use Qv (.ref D) C (.ok .next) s5):
  wpAny (model X.prog X.w) X.A (comprehension (.ListComp elt [⟨target,iter,ifs,0⟩] scope pos) scope X.env (firstIterPos [⟨target,iter,ifs,0⟩] pos) (newList []) false (firstIter [⟨target,iter,ifs,0⟩] X.env) use) Qv X.xe s:=by
 refine wpAny_comprehension_free (use:=use) rfl hs K.clos K.kind K.names (gV (hi pins s σ H _ I h) fun v s1 h1=>gV h1 fun itv s2 h2=>?_)
 obtain⟨it,fp,tn,J,H2,e,I2,T,st2,f2,R⟩:=h2
 subst e
 refine wpAny_newObj_type (wpAny_newFunctionEnv K.nocell (by intro y hy;simp at hy) (fun h₁ hns₁ hsb₁=>?_) K.kind)
 dsimp only at hns₁ hsb₁ ⊢
 have I3:Inv X pins σ (fS H2 s2.heap.objs.size (.lst [])) {s2 with heap:=s2.heap.push {cls:=.type "list",dict:=none,data:=.seq ([]:List Value).toArray}}:=
  I2.lnew (t':=s2.toks) (its:=[]) .nil (Nat.zero_le _)
 obtain⟨W,⟨m0,w0⟩,turn⟩:=R s2.heap.objs.size (I2.hok.fresh (Nat.le_refl _))
 generalize hP:s2.heap.push {cls:=.type "list",dict:=none,data:=.seq ([]:List Value).toArray}=h3 at hns₁ hsb₁ I3 ⊢
 generalize hD:s2.heap.objs.size=D at w0 turn I3 ⊢
 have hsz3:h3.objs.size=D+1:=by rw[←hP,Heap.size_push,hD]
 have old3:∀b o,s2.heap.get? b=some o→h3.get? b=some o:=fun b o e=>by rw[←hP];exact Heap.get?_push_of_some _ e
 have old:∀b o,h3.get? b=some o→h₁.get? b=some o:=fun b o e=>hsb₁.extBut b o (Nat.ne_of_lt (Heap.lt_size e)) (Heap.get?_push_of_some _ e)
 have fpD:∀b∈fp,b < D:=fun b hb=>by
  obtain⟨o,e,_⟩:=T.obj _ _ st2 b hb
  rw[←hD];exact Heap.lt_size e
 have frD:∀b∈fp,(fS H2 D (.lst [])) b=none:=fun b hb=>by rw[bq (Nat.ne_of_lt (fpD b hb))];exact(f2 b hb).1
 have f3:∀b∈fp,uR X pins (fS H2 D (.lst [])) b:=fun b hb=>⟨frD b hb,(f2 b hb).2⟩
 have Hfresh:∀a,h3.objs.size≤a→(fS H2 D (.lst [])) a=none:=fun a ha=>I3.hok.fresh ha
 have cellC:∀x c,X.env.cells.lookup x=some c→c < h3.objs.size:=fun x c e=>by
  obtain⟨v,q⟩:=I3.cell x c e
  exact q.lt
 have YOk:(X.comp sc cl N h3.objs.size {s2 with heap:=h3} (fS H2 D (.lst [])) fp).Ok:=by
  refine⟨I3.ok.mod,?_,I3.ok.glob,I3.ok.blt,Nat.le_refl _,fun x y c e1 e2=>I3.ok.inj x y c (K.same x c e1) (K.same y c e2),fun x hx=>K.has x hx,fun x c hf _=>absurd hf (by intro z;cases z),I3.ok.hd,I3.ok.frames,.inl rfl,fun b hb=>⟨?_,fun x c e=>(f2 b hb).2.2.2.2.1 x c (K.same x c e)⟩,
   I3.bs,Nat.le_trans I3.ok.bsz I3.sz,fun b o e hb=>?_,fun b hb hm=>?_,I3.stack,I3.stkFree,I3.tab⟩
  ·rw[←K.rel];exact K.kind
  ·exact Nat.ne_of_lt (by rw[hsz3];exact Nat.lt_succ_of_lt (fpD b hb))
  ·rcases(f2 b hb).2.2.2.1 with z |z
   ·exact I3.ok.noex b o e z
   ·exact absurd (Nat.lt_of_lt_of_le (Heap.lt_size (I3.ok.bs b o e).1) z) (Nat.lt_irrefl _)
  ·rcases List.mem_cons.mp (I3.stkSub b hm)with z |z
   ·exact(f2 b hb).2.1 z
   ·exact(f2 b hb).2.2.1 z
 have IY:Inv (X.comp sc cl N h3.objs.size {s2 with heap:=h3} (fS H2 D (.lst [])) fp) [] (slots js σ) (fS H2 D (.lst [])) {s2 with heap:=h₁,toks:=s2.toks+([]:List (Str×Value)).length}:=by
  refine⟨YOk,rfl,I3.bare,Un.kept old,⟨_,hns₁,fun i x v e1 e2 e3=>?_⟩,fun x c e=>?_,Hfresh _ (Nat.le_refl _),fun x c e=>I3.freeC x c (K.same x c e),fun p hp=>absurd (show p∈([]:List (Addr×Obj))from hp) (by simp),I3.hok.kept old,?_⟩
  ·unfold slots at e2
   rw[List.getElem?_map]at e2
   cases ej:js[i]? with
   |none=>rw[ej]at e2;cases e2
   |some jo=>
    rw[ej]at e2
    cases jo with
    |none=>cases e2
    |some j=>
     obtain⟨y,n1,n2,k1,k2⟩:=K.from_ i j ej
     have exy:y=x:=Option.some.inj (n1.symm.trans e1)
     subst exy
     have e2':(σ[j]?).join=some v:=Option.some.inj e2
     have e4:σ[j]? =some (some v):=by
      cases es:σ[j]? with
      |none=>rw[es]at e2';cases e2'
      |some w=>rw[es]at e2';exact congrArg some e2'
     obtain⟨m,_,hl⟩:=I3.loc
     obtain⟨u,ru,lk⟩:=hl j y v n2 e4 (by
      rcases k2 with z |z
      ·exact .inr (.inl z)
      ·exact .inr (.inr z))
     refine⟨u,ru,.inr ⟨k1,?_⟩⟩
     obtain⟨c,hcl⟩:=K.has y k1
     refine⟨c,hcl,?_⟩
     rcases lk with⟨z,_⟩ |⟨_,c',e5,ic⟩
     ·rcases k2 with q |q
      ·rw[q]at z;cases z
      ·rw[q]at z;cases z
     ·have:c'=c:=Option.some.inj (e5.symm.trans (K.same y c hcl))
      subst this
      obtain⟨o,ho,hd⟩:=ic
      exact⟨o,old _ _ ho,hd⟩
  ·obtain⟨v,o,ho,hd⟩:=I3.cell x c (K.same x c e)
   exact⟨v,o,old _ _ ho,hd⟩
  ·unfold slots;rw[List.length_map];exact K.len
 have loop:∀s₃:Shared,s₃={s2 with heap:=h₁,toks:=s2.toks+([]:List (Str×Value)).length}→
   codeAny (model X.prog X.w) X.A (.compLoop (.ListComp elt [⟨target,iter,ifs,0⟩] scope pos) 0 (.ref it) (.ref D) (X.comp sc cl N h3.objs.size {s2 with heap:=h3} (fS H2 D (.lst [])) fp).env)
    (compPost (model X.prog X.w) X.A X.xe use Qv (.ref D) h3.objs.size) s₃:=by
  rintro s₃ rfl
  refine tQ (fun n s'=>∃i σ' H',Inv (X.comp sc cl N h3.objs.size {s2 with heap:=h3} (fS H2 D (.lst [])) fp) [] σ' H' s'∧tn i s'.heap∧(∀b∈fp,H' b=none)∧W i n σ' H') ?_ m0
   ⟨0,_,_,IY,T.keep _ _ _ st2 (fun b hb o e=>old b o (old3 b o e)),frD,w0⟩
  rintro n s4 ⟨i,σ4,H4,I4,st4,fr4,w4⟩
  have ff:∀{H':Hp},(∀b∈fp,H' b=none)→∀b∈fp,uR (X.comp sc cl N h3.objs.size {s2 with heap:=h3} (fS H2 D (.lst [])) fp) [] H' b:=fun hn b hb=>
   ⟨hn b hb,(YOk.exf b hb).1,YOk.exfs b hb,.inl hb,(YOk.exf b hb).2,fun p hp=>absurd (show p∈([]:List (Addr×Obj))from hp) (by simp)⟩
  have hg:=hgg h3.objs.size {s2 with heap:=h3} (fS H2 D (.lst [])) fp
  have ht:=htt h3.objs.size {s2 with heap:=h3} (fS H2 D (.lst [])) fp
  have he:=hee h3.objs.size {s2 with heap:=h3} (fS H2 D (.lst [])) fp
  rcases turn i n σ4 H4 w4 with⟨stop,qn⟩ |⟨go,Nx,hN,step⟩
  ·refine gV (T.done (X.comp sc cl N h3.objs.size {s2 with heap:=h3} (fS H2 D (.lst [])) fp) rfl rfl rfl hc i [] s4 σ4 H4 _ I4 (ff fr4) st4 stop) fun r s5 ⟨hr,I5⟩=>?_
   subst hr
   obtain⟨m,hn,_⟩:=I5.loc
   have IX:Inv X pins σ H4 s5:=I3.call' (ch:=fp) I5.os I5.base I5.hok I5.bare fun b hb=>⟨(f3 b hb).2.2.2.1,(f3 b hb).2.1,(f3 b hb).2.2.2.2.1,(f3 b hb).2.2.2.2.2⟩
   exact hend D h3.objs.size H4 s5 m IX hn I5.free (Ne.symm (Nat.ne_of_lt I3.lt)) (I3.nofs (Nat.le_refl _)) I3.sz (fun x c e=>Nat.ne_of_lt (cellC x c e)) (fun p hp=>Nat.ne_of_lt (Heap.lt_size (I3.pin p hp).1)) qn
  ·refine gV (T.item (X.comp sc cl N h3.objs.size {s2 with heap:=h3} (fS H2 D (.lst [])) fp) rfl rfl rfl hc i [] s4 σ4 H4 _ I4 (ff fr4) st4 go) fun r s5 ⟨u,hr,h5⟩=>?_
   subst hr
   refine gV h5 fun _ s6 ⟨x,H6,I6,r6,y6,st6,fr6⟩=>?_
   have I6':=I6.pinned (ff fr6) (T.obj _ _ st6)
   have back:∀{σ7:St} {H7:Hp} {s7:Shared},Inv (X.comp sc cl N h3.objs.size {s2 with heap:=h3} (fS H2 D (.lst [])) fp) ([]++qe fp s6.heap) σ7 H7 s7→
     Inv (X.comp sc cl N h3.objs.size {s2 with heap:=h3} (fS H2 D (.lst [])) fp) [] σ7 H7 s7∧tn (i+1) s7.heap∧∀b∈fp,H7 b=none:=fun {σ7 H7 s7} I7=>
    ⟨I7.unpinned,T.keep _ _ _ st6 fun b hb o e=>(I7.pin (b,o) (List.mem_append_right _ (List.mem_append_right _ (kK hb e)))).1,fun b hb=>by
     obtain⟨o,e,d⟩:=T.obj _ _ st6 b hb
     exact(I7.pin (b,o) (List.mem_append_right _ (List.mem_append_right _ (kK hb e)))).2.1⟩
   refine gV (hg _ s6 σ4 H6 x u _ I6' r6 (step x H6 y6)) fun _ s7 ⟨σ7,H7,I7,q7⟩=>?_
   refine gV (ht _ s7 σ7 H7 _ I7 q7) fun b s8 ⟨H8,I8,q8⟩=>?_
   cases b with
   |false=>
    obtain⟨m',hm,w8⟩:=hN σ7 H8 q8
    obtain⟨J1,J2,J3⟩:=back I8
    exact⟨m',hm,i+1,σ7,H8,J1,J2,J3,w8⟩
   |true=>
    refine gV (he _ s8 σ7 H8 _ I8 q8) fun yv s9 ⟨y,H9,I9,r9,ys,hl,hz,n9⟩=>?_
    obtain⟨m',hm,w9⟩:=hN _ _ n9
    refine gV (sq _ s9 σ7 H9 (.ref D) [y] (.ref D) [yv] (fun v H'=>v=.non∧H'=fS H9 D (.lst (ys++[y]))) I9 rfl (.cons r9 .nil) ⟨D,ys,y,rfl,rfl,hl,hz,rfl,rfl⟩) fun _ sA ⟨_,HA,IA,_,_,eA⟩=>?_
    subst eA
    obtain⟨J1,J2,J3⟩:=back IA
    exact⟨m',hm,i+1,σ7,_,J1,J2,J3,w9⟩
 rw[K.rel]
 exact codeAny_compStart_list (loop _ rfl) (T.self _ 0 _ _ _ (T.keep _ _ _ st2 (fun b hb o e=>old b o (old3 b o e))) (loop _ rfl))
theorem xE(K:CompOk X scope sc cl N js)(hc:X.calm=true)(hi:PI X target iter wi)
  (hgg:∀C s₀ H₀ fp,PG (X.comp sc cl N C s₀ H₀ fp) target g) (htt:∀C s₀ H₀ fp,G1 (X.comp sc cl N C s₀ H₀ fp) ifs tt) (hee:∀C s₀ H₀ fp,PE (X.comp sc cl N C s₀ H₀ fp) elt te)
  (hs:∀x,foldedSetIterable iter X.env x=pure x:=by intro _;rfl):PE X (.ListComp elt [⟨target,iter,ifs,0⟩] scope pos) (xD js wi g tt te):=by
 intro pins s σ H Q I h
 rw[eval_ListComp]
 refine uZ (use:=none) K hc hi hgg htt hee hs pins s σ H Q I h fun D C H4 s5 m IX hn fC nL _ sz nc np qn=>?_
 exact⟨m,hn,fun h' hs'=>⟨.ref D,H4,IX.turned (t':=s5.toks) (it:=C) (fun b o hb e=>(hs'.2 b hb).trans e) fC nL (.inr sz) nc np,rfl,qn⟩⟩
theorem xF{x:Str}{px spos:Pos}{gx:TG}(K:CompOk X scope sc cl N js)(hc:X.calm=true)(hx:PG X (.Name x px) gx)(hi:PI X target iter wi)
  (hgg:∀C s₀ H₀ fp,PG (X.comp sc cl N C s₀ H₀ fp) target g) (htt:∀C s₀ H₀ fp,G1 (X.comp sc cl N C s₀ H₀ fp) ifs tt) (hee:∀C s₀ H₀ fp,PE (X.comp sc cl N C s₀ H₀ fp) elt te)
  (hs:∀x,foldedSetIterable iter X.env x=pure x:=by intro _;rfl) (hsw:swapsWith (.ListComp elt [⟨target,iter,ifs,0⟩] scope pos) (some (.Name x px)) spos.line X.env=pure true:=by rfl):
  PS X (.Assign [.Name x px] (.ListComp elt [⟨target,iter,ifs,0⟩] scope pos) spos) (Gz (xD js wi g tt te) gx):=by
 intro pins s σ H D I h
 rw[exec_Assign_Name_used _ _ _ _ hsw]
 refine wpAny_bind (wpAny_standAt (wpAny_bind ?_))
 show wpAny _ _ (comprehension (.ListComp elt [⟨target,iter,ifs,0⟩] scope pos) scope X.env (firstIterPos [⟨target,iter,ifs,0⟩] pos) (newList []) false (firstIter [⟨target,iter,ifs,0⟩] X.env) (some (assign (.Name x px) X.env)) >>= fun _=>pure ()) _ _ _
 refine wpAny_bind (wpAny_mono (uZ (use:=some (assign (.Name x px) X.env)) (Qv:=fun _ s'=>∃σ' H',Inv X pins σ' H' s'∧D.nx σ' H') K hc hi hgg htt hee hs pins s σ H _ I h fun Dd C H4 s5 m IX hn fC nL nF sz nc np qn=>?_) (fun _ s' ⟨σ',H',I',q'⟩=>wpAny_pure (wpAny_pure ⟨σ',H',I',q'⟩)) fun _ _ e=>e)
 obtain⟨o,es,ep,ho,hd,r⟩:=hn
 have IP:Inv X ((C,o)::pins) σ H4 s5:=IX.pins_of fun p hp=>(List.mem_cons.mp hp).elim (fun z=>by subst z;exact⟨ho,fC,nL,nF,fun v z=>by rw[hd]at z;cases z⟩) fun z=>IX.pin p (List.mem_append_right _ z)
 refine wpAny_mono (hx ((C,o)::pins) s5 σ H4 (.ref Dd) (.ref Dd) D.nx IP rfl qn) (fun _ s6 ⟨σ6,H6,I6,q6⟩=>?_) fun _ _ e=>e
 obtain⟨p1,p2,_⟩:=I6.pin (C,o) (List.mem_append_right _ (List.mem_cons_self ..))
 have I7:Inv X pins σ6 H6 s6:=I6.pins_of fun p hp=>I6.pin p (List.mem_append_right _ (List.mem_cons_of_mem _ hp))
 exact⟨m,⟨o,es,ep,p1,hd,r⟩,fun h' hs'=>⟨σ6,H6,I7.turned (t':=s6.toks) (it:=C) (fun b o hb e=>(hs'.2 b hb).trans e) p2 nL (.inr sz) nc np,q6⟩⟩
end
end L2
namespace L2
open PySem PySem.Spec PyProof.Rows
theorem gN{X:Cx}{scope:Scope}{N:List Str}{js:List (Option Nat)}(hf:∀x∈scope.names,x.2≠ .free:=by decide+kernel)(hcell:∀x∈scope.names,x.2≠ .cell:=by decide+kernel)
  (hk:scope.kind=.function:=by rfl) (hn:∀y∈scope.names,y.2=.local→scope.names.lookup y.1=some .local:=by decide+kernel) (hl:js.length=N.length:=by rfl) (hj:∀j∈js,j=none:=by decide):CompOk X scope scope [] N js where
 clos:=closureFor_none hf
 rel:=by
  unfold relabel
  have e:(scope.names.map fun(x:Str×NameKind)=>match x with |(n,k)=>if (k ==.free&&X.env.scope.kind ==.function&&X.env.kindOf n == some .cell)then (n,NameKind.cell)else (n,k))=scope.names:=by
   refine map_eq_self fun x hx=>?_
   obtain⟨n,k⟩:=x
   have:(k == NameKind.free)=false:=by simpa using hf _ hx
   simp[this]
  rw[e]
 nocell:=hcell
 kind:=hk
 names:=hn
 same:=fun x c e=>by simp at e
 has:=fun x h=>by
  rcases h with h |h
  ·exact absurd rfl (hcell _ (PySem.mem_of_lookup h))
  ·exact absurd rfl (hf _ (PySem.mem_of_lookup h))
 len:=hl
 from_:=fun i j h=>by
  have:=hj _ (List.mem_of_getElem? h)
  cases this
structure Own (P:Program) (w:World) (K:PySem.W.Frag) (mg:Str→Option Value) (base:Heap) (k:Nat) (x:Str) (ps:List Str) (sp:Sp):Prop where
 ex:∃(f:Addr) (fd:FuncData),FnOk P w K mg base yY k f fd ps sp∧Binds K fd ps []∧mg x=some (.ref f)∧PySem.W.keepIn K (.ref f)=true
theorem Fj{X:Cx}{k:Nat}{x:Str}{ps:List Str}{sp:Sp}{p pos:Pos}{e:Expr}{es:List Expr}{t:TA}(D:Own X.prog X.w X.K X.mg X.base k x ps sp)(hr:Room k X.A)(hg:Gl X x)(ha:PA X (e::es) t)
  (hdb:(x == ("__debug__":Str))=false:=by decide) (he:starEach (e::es) X.env=(false,eval e X.env)::starEach es X.env:=by rfl) (hpl:(backTo pos (starEach es X.env)).any (·.1)=false:=by rfl):
  PE X (.Call (.Name x p) (e::es) [] pos) (D8 sp [] E0 t):=by
 obtain⟨f,fd,F,b,m,kp⟩:=D.ex
 exact CS F hr hg m kp b .nil GV ha hdb he hpl
structure Def (K:PySem.W.Frag) (mg:Str→Option Value) (x:Str) (st:Stmt) (ps:List Str):Prop where
 ex:∃(f:Addr) (fd:FuncData),Fun K x x st f fd∧mg x=some (.ref f)∧Binds K fd ps []
theorem Def.own{P:Program}{w:World}{K:PySem.W.Frag}{mg:Str→Option Value}{base:Heap}{x:Str}{st:Stmt}{N ps:List Str}{k:Nat}{sp:Sp}(D:Def K mg x st ps)(S:FnScope N ps (ah st))
  (len:∀vs H Q E,sp vs H Q E→vs.length=ps.length)
  (hbody:∀(f:Addr) (cdv:Value) (A:Around) (outer:List Env) (s:Shared) (H:Hp) (vs:List V) (Q:VK) (E:XK),Room k (A.deeper (envOfC x (ah st) s.heap.objs.size f cdv))→sp vs H Q E→
   ∃t,PSs (rJ yY P w K mg base N x (ah st) f cdv A outer s H E).nox (av st) t∧t {nx:=fun _ H'=>Q .non H',rt:=Q} (lH N vs) H):Own P w K mg base (k+1) x ps sp:=by
 obtain⟨f,fd,F,m,b⟩:=D.ex
 exact⟨f,fd,F.ok S len (hbody f),b,m,F.kp⟩
theorem aY{K:PySem.W.Frag}{h:Heap}{mg:Str→Option Value}{x:Str}{st:Stmt}{ps:List Str}{f:Addr}{oc:Value}{od an:Option Addr}{osl:Array (Option Value)}{kV doc pm cdv ct:Value}(X:K.In h)(G:h.Ns mainGlobals mg)
  (a:PySem.W.nsIn K mainGlobals x=some (some (.ref f))) (l:K.lookup f=some ⟨oc,od,.func (PySem.W.fnOf x x (aF st) (av st) (ah st) .none kV doc pm an cdv ct),osl⟩)
  (c:PySem.W.codeIn K cdv x=true) (k:PySem.W.keepIn K (.ref f)=true)
  (b:∀(kV doc pm:Value) (an:Option Addr) (cdv ct:Value) (us:List Value),us.length=ps.length→bindArgs (PySem.W.fnOf x x (aF st) (av st) (ah st) .none kV doc pm an cdv ct) ⟨us,[]⟩=pure (ps.zip us)):Def K mg x st ps:=
 ⟨f,_,wm l c k,PySem.W.mg_of X G a,(wm (st:=st) l c k).binds b⟩
end L2
namespace Nh
open PySem L2
section
variable {α β:Type} {F:α→β→Prop}
theorem mo:∀{a:List α} {b:List β} {c:List α} {d:List β},Paired F a b→Paired F c d→Paired F (a++c) (b++d)
 |_,_,_,_,.nil,s=>s
 |_,_,_,_,.cons r t,s=>.cons r (mo t s)
theorem xG:∀{a:List α} {b:List β} (n:Nat),Paired F a b→Paired F (a.take n) (b.take n)
 |_,_,0,_=>.nil
 |_,_,_+1,.nil=>.nil
 |_,_,n+1,.cons r t=>.cons r (xG n t)
theorem xH:∀{a:List α} {b:List β} (n:Nat),Paired F a b→Paired F (a.drop n) (b.drop n)
 |_,_,0,r=>r
 |_,_,_+1,.nil=>.nil
 |_,_,n+1,.cons _ t=>xH n t
theorem m4:∀{a:List α} {b:List β},Paired F a b→Paired F a.reverse b.reverse
 |_,_,.nil=>.nil
 |_,_,.cons r t=>by
  rw[List.reverse_cons,List.reverse_cons]
  exact mo (m4 t) (.cons r .nil)
theorem xI:∀{a:List α} {b:List β} {i:Nat} {y:β},Paired F a b→b[i]? =some y→∃x,a[i]? =some x∧F x y
 |_,_,_,_,.nil,e=>by simp at e
 |_,_,0,_,.cons r _,e=>by simp at e;subst e;exact⟨_,rfl,r⟩
 |_,_,i+1,x,.cons _ t,e=>by
  obtain⟨u,h1,h2⟩:=xI (i:=i) (y:=x) t (by simpa using e)
  exact⟨u,by simpa using h1,h2⟩
theorem AH{a:List α}{b:List β}(h:Paired F a b):∀k:Nat,Paired F (List.replicate k a).flatten (List.replicate k b).flatten
 | 0=>.nil
 |k+1=>by
  rw[List.replicate_succ,List.replicate_succ,List.flatten_cons,List.flatten_cons]
  exact mo h (AH h k)
end
abbrev Pc:=Nat×Int
def tv(p:Pc):List V:=[.str ⟨#[p.1]⟩,.int p.2]
def aC(p:Pc):PyData:=.tuple [.str ⟨#[p.1]⟩,.int p.2]
def ny(c:List Pc):PyData:=.list (c.map aC)
def NailsOk(c:List Pc):Prop:=∀p∈c,p.1 < 128
theorem G2{p:Pc}(h:p.1 < 128):(aC p).canLay0=true:=by
 have:p.1 < 1114112:=by omega
 simp[aC,PyData.canLay0,PyData.canLayAll0,PyData.strOk,this]
theorem u4:∀{c:List Pc},NailsOk c→PyData.canLayAll0 (c.map aC)=true∧PyData.depthAll (c.map aC)≤1
 |[],_=>by simp[PyData.canLayAll0,PyData.depthAll]
 |p::c,h=>by
  have ih:=u4 (c:=c) fun q hq=>h q (List.mem_cons_of_mem _ hq)
  have h1:=G2 (h p (List.mem_cons_self ..))
  have h2:=ih.2
  simp only[List.map_cons,PyData.canLayAll0,PyData.depthAll,h1,ih.1,Bool.and_self,true_and]
  have h3:(aC p).depth=1:=by simp[aC,PyData.depth,PyData.depthAll]
  omega
theorem oV{c:List Pc}(h:NailsOk c):SeqAt.shaped (ny c)=true:=by
 have q:=u4 h
 have q2:=q.2
 unfold SeqAt.shaped
 simp only[ny,PyData.canLay0,PyData.depth,q.1,Bool.true_and]
 exact decide_eq_true (by omega)
theorem Fk(p q:Pc):PyData.eqv (aC p) (aC q)=decide (p=q):=by
 obtain⟨n,a⟩:=p
 obtain⟨m,b⟩:=q
 simp only[aC,PyData.eqv,PyData.eqvAll,Bool.and_true]
 rw[Bool.eq_iff_iff]
 simp
theorem su:∀c d:List Pc,PyData.eqvAll (c.map aC) (d.map aC)=decide (c=d)
 |[],[]=>by simp[PyData.eqvAll]
 |[],_::_=>by simp[PyData.eqvAll]
 |_::_,[]=>by simp[PyData.eqvAll]
 |p::c,q::d=>by
  simp only[List.map_cons,PyData.eqvAll,Fk,su c d]
  rw[Bool.eq_iff_iff]
  simp
theorem AI(c d:List Pc):PyData.eqv (ny c) (ny d)=decide (c=d):=by
 simp only[ny,PyData.eqv,su]
end Nh
namespace PL
open PySem PySem.Spec PyProof.Rows L2 Nh
def Il:iP→PyData
 |.inl i=>.int i
 |.inr x=>.str x
mutual
inductive Rp (K:PySem.W.Frag) (H:Hp):V→PyData→Prop
 |non:Rp K H .non .none
 |bl (b:Bool):Rp K H (.bl b) (.bool b)
 |int (i:Int):Rp K H (.int i) (.int i)
 |str (x:Str):Rp K H (.str x) (.str x)
 |lst {a:Addr} {xs:List V} {ds:List PyData}:SqL K H a xs→RpA K H xs ds→Rp K H (.ref a) (.list ds)
 |tup {a:Addr} {xs:List V} {ds:List PyData}:SqT K H a xs→RpA K H xs ds→Rp K H (.ref a) (.tuple ds)
 |dct {a:Addr} {us:List (iP×V)} {kvs:List (PyData×PyData)}:Rd H a (.dK us)→RpK K H us kvs→Rp K H (.ref a) (.dict kvs)
inductive RpA (K:PySem.W.Frag) (H:Hp):List V→List PyData→Prop
 |nil:RpA K H [] []
 |cons {x:V} {xs:List V} {d:PyData} {ds:List PyData}:Rp K H x d→RpA K H xs ds→RpA K H (x::xs) (d::ds)
inductive RpK (K:PySem.W.Frag) (H:Hp):List (iP×V)→List (PyData×PyData)→Prop
 |nil:RpK K H [] []
 |cons {k:iP} {x:V} {us:List (iP×V)} {d:PyData} {kvs:List (PyData×PyData)}:Rp K H x d→RpK K H us kvs→RpK K H ((k,x)::us) ((Il k,d)::kvs)
end
mutual
def dL:PyData→Bool
 |.none=>true
 |.bool _=>true
 |.int _=>true
 |.str _=>true
 |.list _=>false
 |.tuple xs=>bE xs
 |.dict _=>false
def bE:List PyData→Bool
 |[]=>true
 |d::ds=>dL d&&bE ds
end
def Eb:HO→Bool
 |.tup _=>true
 |.frz _ _=>true
 |_=>false
def tups(H:Hp):Hp:=fun b=>(H b).filter Eb
theorem oo(H:Hp):Same (tups H) H:=fun b o h=>(Option.filter_eq_some_iff.mp h).1
theorem nz{H:Hp}{b:Addr}{o:HO}(h:H b=some o)(c:Eb o=true):tups H b=some o:=Option.filter_eq_some_iff.mpr ⟨h,c⟩
theorem u5{H:Hp}{l:Addr}{xs ys:List V}(h:H l=some (.lst xs)):tups (fS H l (.lst ys))=tups H:=by
 funext b
 unfold tups
 by_cases e:b=l
 ·subst e
  rw[dZ,h]
  rfl
 ·rw[bq e]
section
variable {K:PySem.W.Frag} {H H':Hp}
theorem u6{a:Addr}{xs:List V}(h:SqT K H a xs):SqT K (tups H) a xs:=by
 rcases h with(h |⟨o,h⟩) |h
 ·exact .inl (.inl (nz h rfl))
 ·exact .inl (.inr ⟨o,nz h rfl⟩)
 ·exact .inr h
theorem tR{a:Addr}{u:HO}(s:Same H H')(h:Rd H a u):Rd H' a u:=by
 rcases h with h |⟨o,h⟩
 ·exact .inl (s _ _ h)
 ·exact .inr ⟨o,s _ _ h⟩
theorem Rp.same(s:Same H H'){v:V}{d:PyData}(h:Rp K H v d):Rp K H' v d:=Rp.rec (motive_1:=fun v d _=>Rp K H' v d) (motive_2:=fun v d _=>RpA K H' v d) (motive_3:=fun v d _=>RpK K H' v d) .non .bl .int .str (fun h _ r=>.lst (s.seq h) r) (fun h _ r=>.tup (s.tup h) r) (fun h _ r=>.dct (tR s h) r) .nil (fun _ _ a b=>.cons a b) .nil (fun _ _ a b=>.cons a b) h
theorem RpA.same(s:Same H H'){v:List V}{d:List PyData}(h:RpA K H v d):RpA K H' v d:=RpA.rec (motive_1:=fun v d _=>Rp K H' v d) (motive_2:=fun v d _=>RpA K H' v d) (motive_3:=fun v d _=>RpK K H' v d) .non .bl .int .str (fun h _ r=>.lst (s.seq h) r) (fun h _ r=>.tup (s.tup h) r) (fun h _ r=>.dct (tR s h) r) .nil (fun _ _ a b=>.cons a b) .nil (fun _ _ a b=>.cons a b) h
theorem RpK.same(s:Same H H'){v:List (iP×V)}{d:List (PyData×PyData)}(h:RpK K H v d):RpK K H' v d:=RpK.rec (motive_1:=fun v d _=>Rp K H' v d) (motive_2:=fun v d _=>RpA K H' v d) (motive_3:=fun v d _=>RpK K H' v d) .non .bl .int .str (fun h _ r=>.lst (s.seq h) r) (fun h _ r=>.tup (s.tup h) r) (fun h _ r=>.dct (tR s h) r) .nil (fun _ _ a b=>.cons a b) .nil (fun _ _ a b=>.cons a b) h
theorem Rp.cold{v:V}{d:PyData}(h:Rp K H v d)(e:dL d=true):Rp K (tups H) v d:=Rp.rec (motive_1:=fun v d _=>dL d=true→Rp K (tups H) v d) (motive_2:=fun v d _=>bE d=true→RpA K (tups H) v d) (motive_3:=fun _ _ _=>True) (fun _=>.non) (fun b _=>.bl b) (fun i _=>.int i) (fun x _=>.str x) (fun _ _ _ e=>nomatch e) (fun h _ r e=>.tup (u6 h) (r e)) (fun _ _ _ e=>nomatch e) (fun _=>.nil) (fun _ _ a b e=>.cons (a (Bool.and_eq_true_iff.mp e).1) (b (Bool.and_eq_true_iff.mp e).2)) trivial (fun _ _ _ _=>trivial) h e
theorem RpA.cold{v:List V}{d:List PyData}(h:RpA K H v d)(e:bE d=true):RpA K (tups H) v d:=RpA.rec (motive_1:=fun v d _=>dL d=true→Rp K (tups H) v d) (motive_2:=fun v d _=>bE d=true→RpA K (tups H) v d) (motive_3:=fun _ _ _=>True) (fun _=>.non) (fun b _=>.bl b) (fun i _=>.int i) (fun x _=>.str x) (fun _ _ _ e=>nomatch e) (fun h _ r e=>.tup (u6 h) (r e)) (fun _ _ _ e=>nomatch e) (fun _=>.nil) (fun _ _ a b e=>.cons (a (Bool.and_eq_true_iff.mp e).1) (b (Bool.and_eq_true_iff.mp e).2)) trivial (fun _ _ _ _=>trivial) h e
theorem Rp.dof'{v:V}{d:PyData}(h:Rp K H v d)(e:d.canLay0=true):DOf K H v d:=Rp.rec (motive_1:=fun v d _=>d.canLay0=true→DOf K H v d) (motive_2:=fun v d _=>PyData.canLayAll0 d=true→DAll K H v d) (motive_3:=fun _ _ _=>True) (fun _=>.non) (fun b _=>.bl b) (fun i _=>.int i) (fun x _=>.str x) (fun h _ r e=>.lst h (r e)) (fun h _ r e=>.tup h (r e)) (fun _ _ _ e=>nomatch e) (fun _=>.nil) (fun _ _ a b e=>.cons (a (Bool.and_eq_true_iff.mp e).1) (b (Bool.and_eq_true_iff.mp e).2)) trivial (fun _ _ _ _=>trivial) h e
theorem Rp.dof{v:V}{d:PyData}(h:Rp K H v d)(e:SeqAt.shaped d=true):DOf K H v d:=h.dof' (SeqAt.canLay_of_shaped e)
theorem RpA.pr{vs:List V}{ds:List PyData}(h:RpA K H vs ds):Paired (Rp K H) vs ds:=RpA.rec (motive_1:=fun _ _ _=>True) (motive_2:=fun v d _=>Paired (Rp K H) v d) (motive_3:=fun _ _ _=>True) trivial (fun _=>trivial) (fun _=>trivial) (fun _=>trivial) (fun _ _ _=>trivial) (fun _ _ _=>trivial) (fun _ _ _=>trivial) .nil (fun h _ _ b=>.cons h b) trivial (fun _ _ _ _=>trivial) h
theorem RpA.of{vs:List V}{ds:List PyData}(h:Paired (Rp K H) vs ds):RpA K H vs ds:=by
 induction h with
 |nil=>exact .nil
 |cons a _ b=>exact .cons a b
theorem RpA.len{vs:List V}{ds:List PyData}(h:RpA K H vs ds):vs.length=ds.length:=Paired.length h.pr
theorem RpA.append{vs us:List V}{ds es:List PyData}(h:RpA K H vs ds)(k:RpA K H us es):RpA K H (vs++us) (ds++es):=.of (mo h.pr k.pr)
theorem RpA.take{vs:List V}{ds:List PyData}(n:Nat)(h:RpA K H vs ds):RpA K H (vs.take n) (ds.take n):=.of (xG n h.pr)
theorem RpA.drop{vs:List V}{ds:List PyData}(n:Nat)(h:RpA K H vs ds):RpA K H (vs.drop n) (ds.drop n):=.of (xH n h.pr)
theorem RpA.rev{vs:List V}{ds:List PyData}(h:RpA K H vs ds):RpA K H vs.reverse ds.reverse:=.of (m4 h.pr)
theorem RpA.rep{vs:List V}{ds:List PyData}(n:Nat)(h:RpA K H vs ds):RpA K H (List.replicate n vs).flatten (List.replicate n ds).flatten:=.of (AH h.pr n)
theorem RpA.get{vs:List V}{ds:List PyData}{i:Nat}{d:PyData}(h:RpA K H vs ds)(e:ds[i]? =some d):∃v,vs[i]? =some v∧Rp K H v d:=xI h.pr e
theorem RpA.dropLast{vs:List V}{ds:List PyData}(h:RpA K H vs ds):RpA K H vs.dropLast ds.dropLast:=by
 rw[List.dropLast_eq_take,List.dropLast_eq_take,h.len]
 exact h.take _
theorem RpA.snoc{vs:List V}{ds:List PyData}{v:V}{d:PyData}(h:RpA K H vs ds)(k:Rp K H v d):RpA K H (vs++[v]) (ds++[d]):=h.append (.cons k .nil)
end
inductive Pt where
 |fl (d:PyData) |ol (ds:List PyData)
def Pt.val:Pt→PyData
 |.fl d=>d
 |.ol ds=>.list ds
inductive Sl where
 /-- nothing is known -/
 |no
 /-- never written again -/
 |sh (d:PyData)
 /-- a list of one's own -/
 |ow (ds:List PyData)
 /-- a dict of one's own,its values lists of one's own -/
 |od (kvs:List (iP×List PyData))
 /-- a tuple with lists of one's own -/
 |tx (ps:List Pt)
 /-- (a part of an expression) the value of a name -/
 |al (i:Nat)
 /-- (a part of an expression) as it stands just now -/
 |br (d:PyData)
def PtsOk(K:PySem.W.Frag)(F H:Hp):List V→List Pt→List Addr→Prop
 |[],[],A=>A=[]
 |v::vs,.fl d::ps,A=>Rp K F v d∧PtsOk K F H vs ps A
 |v::vs,.ol ds::ps,A=>∃l us A',v=.ref l∧A=l::A'∧H l=some (.lst us)∧RpA K F us ds∧PtsOk K F H vs ps A'
 |_,_,_=>False
def DlOk(K:PySem.W.Frag)(F H:Hp):List (iP×V)→List (iP×List PyData)→List Addr→Prop
 |[],[],A=>A=[]
 |p::us,q::kvs,A=>∃l vs A',p=(q.1,.ref l)∧A=l::A'∧H l=some (.lst vs)∧RpA K F vs q.2∧DlOk K F H us kvs A'
 |_,_,_=>False
def SlOk(K:PySem.W.Frag)(F H:Hp)(σ:L2.St)(o:Option V):Sl→List Addr→Prop
 |.no,A=>A=[]
 |.sh d,A=>A=[]∧∃v,o=some v∧Rp K F v d
 |.ow ds,A=>∃l vs,o=some (.ref l)∧A=[l]∧H l=some (.lst vs)∧RpA K F vs ds
 |.od kvs,A=>∃l us A',o=some (.ref l)∧A=l::A'∧H l=some (.dK us)∧DlOk K F H us kvs A'
 |.tx ps,A=>∃t vs,o=some (.ref t)∧F t=some (.tup vs)∧PtsOk K F H vs ps A
 |.al i,A=>A=[]∧∃v,o=some v∧σ[i]? =some (some v)
 |.br d,A=>A=[]∧∃v,o=some v∧Rp K H v d
def Sl.isBr:Sl→Bool
 |.br _=>true
 |_=>false
def Sl.isAl:Sl→Bool
 |.al _=>true
 |.br _=>true
 |_=>false
section
variable {K:PySem.W.Frag} {F F' H H':Hp} {σ σ':L2.St}
theorem PtsOk.stay(s:Same F F'):∀{vs:List V} {ps:List Pt} {A:List Addr},(∀b∈A,H' b=H b)→PtsOk K F H vs ps A→PtsOk K F' H' vs ps A
 |[],[],A,_,h=>h
 |v::vs,.fl d::ps,A,e,h=>⟨h.1.same s,PtsOk.stay s e h.2⟩
 |v::vs,.ol ds::ps,A,e,h=>by
  obtain⟨l,us,A',rfl,rfl,hl,hr,q⟩:=h
  exact⟨l,us,A',rfl,rfl,(e l (List.mem_cons_self ..)).trans hl,hr.same s,q.stay s fun b hb=>e b (List.mem_cons_of_mem _ hb)⟩
 |[],_::_,_,_,h=>False.elim h
 |_::_,[],_,_,h=>False.elim h
theorem DlOk.stay(s:Same F F'):∀{us:List (iP×V)} {kvs:List (iP×List PyData)} {A:List Addr},(∀b∈A,H' b=H b)→DlOk K F H us kvs A→DlOk K F' H' us kvs A
 |[],[],A,_,h=>h
 |p::us,q::kvs,A,e,h=>by
  obtain⟨l,vs,A',rfl,rfl,hl,hr,k⟩:=h
  exact⟨l,vs,A',rfl,rfl,(e l (List.mem_cons_self ..)).trans hl,hr.same s,k.stay s fun b hb=>e b (List.mem_cons_of_mem _ hb)⟩
 |[],_::_,_,_,h=>False.elim h
 |_::_,[],_,_,h=>False.elim h
theorem DlOk.some:∀{us:List (iP×V)} {kvs:List (iP×List PyData)} {A:List Addr},DlOk K F H us kvs A→∀a∈A,∃vs,H a=some (.lst vs)
 |[],[],A,h,a,ha=>by rw[show A=[]from h]at ha;cases ha
 |p::us,q::kvs,A,h,a,ha=>by
  obtain⟨l,vs,A',rfl,rfl,hl,hr,k⟩:=h
  rcases List.mem_cons.mp ha with e |e
  ·subst e;exact⟨vs,hl⟩
  ·exact k.some a e
 |[],_::_,_,h,_,_=>False.elim h
 |_::_,[],_,h,_,_=>False.elim h
theorem PtsOk.some:∀{vs:List V} {ps:List Pt} {A:List Addr},PtsOk K F H vs ps A→∀a∈A,∃us,H a=some (.lst us)
 |[],[],A,h,a,ha=>by rw[show A=[]from h]at ha;cases ha
 |v::vs,.fl d::ps,A,h,a,ha=>PtsOk.some h.2 a ha
 |v::vs,.ol ds::ps,A,h,a,ha=>by
  obtain⟨l,us,A',rfl,rfl,hl,hr,q⟩:=h
  rcases List.mem_cons.mp ha with e |e
  ·subst e;exact⟨us,hl⟩
  ·exact q.some a e
 |[],_::_,_,h,_,_=>False.elim h
 |_::_,[],_,h,_,_=>False.elim h
theorem PtsOk.rp(s:Same F H):∀{vs:List V} {ps:List Pt} {A:List Addr},PtsOk K F H vs ps A→RpA K H vs (ps.map Pt.val)
 |[],[],A,_=>.nil
 |v::vs,.fl d::ps,A,h=>.cons (h.1.same s) (PtsOk.rp s h.2)
 |v::vs,.ol ds::ps,A,h=>by
  obtain⟨l,us,A',rfl,rfl,hl,hr,q⟩:=h
  exact .cons (.lst (SqL.of hl) (hr.same s)) (q.rp s)
 |[],_::_,_,h=>False.elim h
 |_::_,[],_,h=>False.elim h
theorem SlOk.stay{o:Option V}{s:Sl}{A:List Addr}(hF:Same F F')(e:∀b∈A,H' b=H b)(hb:s.isBr=true→Same H H')(h:SlOk K F H σ o s A):SlOk K F' H' σ o s A:=by
 cases s with
 |no=>exact h
 |sh d=>obtain⟨rfl,v,rfl,r⟩:=h;exact⟨rfl,v,rfl,r.same hF⟩
 |ow ds=>obtain⟨l,vs,rfl,rfl,hl,r⟩:=h;exact⟨l,vs,rfl,rfl,(e l (by simp)).trans hl,r.same hF⟩
 |od kvs=>obtain⟨l,us,A',rfl,rfl,hl,r⟩:=h;exact⟨l,us,A',rfl,rfl,(e l (by simp)).trans hl,r.stay hF fun b hb=>e b (List.mem_cons_of_mem _ hb)⟩
 |tx ps=>obtain⟨t,vs,rfl,ht,r⟩:=h;exact⟨t,vs,rfl,hF _ _ ht,r.stay hF e⟩
 |al i=>exact h
 |br d=>obtain⟨rfl,v,rfl,r⟩:=h;exact⟨rfl,v,rfl,r.same (hb rfl)⟩
theorem SlOk.mut{o:Option V}{s:Sl}{A:List Addr}(h:SlOk K F H σ o s A):∀a∈A,(∃us,H a=some (.lst us))∨∃us,H a=some (.dK us):=by
 cases s with
 |no=>intro a ha;rw[show A=[]from h]at ha;cases ha
 |sh d=>obtain⟨rfl,_⟩:=h;intro a ha;cases ha
 |ow ds=>obtain⟨l,vs,rfl,rfl,hl,r⟩:=h;intro a ha;rw[List.mem_singleton.mp ha];exact .inl ⟨_,hl⟩
 |od kvs=>
  obtain⟨l,vs,A',rfl,rfl,hl,r⟩:=h
  intro a ha
  rcases List.mem_cons.mp ha with z |z
  ·rw[z];exact .inr ⟨_,hl⟩
  ·exact .inl (r.some a z)
 |tx ps=>obtain⟨t,vs,rfl,ht,r⟩:=h;exact fun a ha=>.inl (r.some a ha)
 |al i=>obtain⟨rfl,_⟩:=h;intro a ha;cases ha
 |br d=>obtain⟨rfl,_⟩:=h;intro a ha;cases ha
end
inductive SAll (P:Option V→Sl→List Addr→Prop):List (Option V)→List Sl→List Addr→Prop
 |nil:SAll P [] [] []
 |cons {o:Option V} {s:Sl} {A:List Addr} {os:List (Option V)} {ss:List Sl} {B:List Addr}:P o s A→SAll P os ss B→SAll P (o::os) (s::ss) (A++B)
section
variable {P P':Option V→Sl→List Addr→Prop}
theorem SAll.len{os:List (Option V)}{ss:List Sl}{A:List Addr}(h:SAll P os ss A):os.length=ss.length:=by
 induction h with
 |nil=>rfl
 |cons _ _ b=>exact congrArg (· +1) b
theorem SAll.mono{os:List (Option V)}{ss:List Sl}{A:List Addr}(h:SAll P os ss A):(∀o s B,s∈ss→(∀b∈B,b∈A)→P o s B→P' o s B)→SAll P' os ss A:=by
 induction h with
 |nil=>exact fun _=>.nil
 |cons h _ r=>exact fun f=>.cons (f _ _ _ (List.mem_cons_self ..) (fun b hb=>List.mem_append_left _ hb) h) (r fun o s B hs hB q=>f o s B (List.mem_cons_of_mem _ hs) (fun b hb=>List.mem_append_right _ (hB b hb)) q)
theorem SAll.all{R:Addr→Prop}(hR:∀o s B,P o s B→∀b∈B,R b){os:List (Option V)}{ss:List Sl}{A:List Addr}(h:SAll P os ss A):∀a∈A,R a:=by
 induction h with
 |nil=>exact fun _ ha=>nomatch ha
 |cons h _ r=>exact fun a ha=>(List.mem_append.mp ha).elim (hR _ _ _ h a) (r a)
theorem SAll.at:∀{os:List (Option V)} {ss:List Sl} {A:List Addr} {k:Nat} {s:Sl},SAll P os ss A→ss[k]? =some s→
  ∃o A0 A1 A2,A=A0++(A1++A2)∧os[k]? =some o∧P o s A1∧∀(P':Option V→Sl→List Addr→Prop) (o':Option V) (s':Sl) (A1':List Addr),P' o' s' A1'→
   (∀o s B,s∈ss→(∀b∈B,b∈A0∨b∈A2)→P o s B→P' o s B)→SAll P' (os.set k o') (ss.set k s') (A0++(A1'++A2))
 |_,_,_,_,_,.nil,e=>by simp at e
 |_,_,_,0,s,.cons (o:=o) (A:=A) (B:=B) h r,e=>by
  simp at e;subst e
  refine⟨o,[],A,B,by simp,rfl,h,fun P' o' s' A1' h' f=>?_⟩
  have z:SAll P' _ _ (A1'++B):=.cons h' (r.mono (P':=P') fun o s B hs hB q=>f o s B (List.mem_cons_of_mem _ hs) (fun b hb=>.inr (hB b hb)) q)
  exact z
 |_,_,_,k+1,s,.cons (o:=o) (A:=A) (B:=B) h r,e=>by
  obtain⟨o2,A0,A1,A2,eA,eo,hp,f⟩:=r.at (k:=k) (s:=s) (by simpa using e)
  subst eA
  refine⟨o2,A++A0,A1,A2,by simp,by simpa using eo,hp,fun P' o' s' A1' h' g=>?_⟩
  have z:=f P' o' s' A1' h' fun o s B hs hB q=>g o s B (List.mem_cons_of_mem _ hs) (fun b hb=>(hB b hb).imp (fun x=>List.mem_append_right _ x) id) q
  rw[List.append_assoc]
  exact .cons (g _ _ _ (List.mem_cons_self ..) (fun b hb=>.inl (List.mem_append_left _ hb)) h) z
end
end PL
namespace PL
open PySem L2 Nh
abbrev Sg:=L2.St
structure FrF (K:PySem.W.Frag) (B F:Hp) (A:List Addr) (σ:Sg) (H:Hp) (E:List Sl) (xs:List V) (Xs:List Sl):Prop where
 bf:Same B F
 fh:Same F H
 tf:Same (tups H) F
 sl:SAll (SlOk K F H σ) (xs.map some++σ) (Xs++E) A
 nd:A.Nodup
 fr:∀a∈A,F a=none
 len:xs.length=Xs.length
 pl:∀s∈E,s.isAl=false
def Frm(K:PySem.W.Frag)(B:Hp)(σ:Sg)(H:Hp)(E:List Sl)(xs:List V)(Xs:List Sl):Prop:=∃F A,FrF K B F A σ H E xs Xs
def Sl.val:Sl→Option PyData
 |.sh d=>some d
 |.ow ds=>some (.list ds)
 |.tx ps=>some (.tuple (ps.map Pt.val))
 |.br d=>some d
 |_=>none
def look(E:List Sl):Sl→Option PyData
 |.al i=>(E[i]?).bind Sl.val
 |s=>s.val
def dO:Sl→Bool
 |.br _=>true
 |.tx _=>true
 |_=>false
def gJ(E:List Sl):Sl→Bool
 |.al i=>(E[i]?).any dO
 |s=>dO s
def RpF(K:PySem.W.Frag)(F H:Hp)(v:V):PyData→Prop
 |.list ds=>∃a vs,v=.ref a∧SqL K H a vs∧RpA K F vs ds
 |d=>Rp K F v d
def u7(F H:Hp)(A:List Addr):Hp:=fun b=>if b∈A then H b else F b
theorem tS{F H:Hp}{A:List Addr}{b:Addr}(h:b∈A):u7 F H A b=H b:=if_pos h
theorem qk{F H:Hp}{A:List Addr}{b:Addr}(h:b∉A):u7 F H A b=F b:=if_neg h
section
variable {K:PySem.W.Frag} {B F:Hp} {A:List Addr} {σ:Sg} {H:Hp} {E:List Sl} {xs:List V} {Xs:List Sl} {v:V} {s:Sl} {d:PyData}
theorem RpF.of(h:Rp K F v d)(s:Same F H):RpF K F H v d:=by
 cases h with
 |lst h r=>exact⟨_,_,rfl,s.seq h,r⟩
 |non=>exact .non
 |bl b=>exact .bl b
 |int i=>exact .int i
 |str x=>exact .str x
 |tup h r=>exact .tup h r
 |dct h r=>exact .dct h r
theorem SlOk.val{o:Option V}{A1:List Addr}(h:SlOk K F H σ o s A1)(hF:Same F H)(e:s.val=some d):∃v,o=some v∧Rp K H v d∧(dO s=false→RpF K F H v d):=by
 cases s with
 |no=>cases e
 |sh d'=>
  obtain⟨rfl,v,rfl,r⟩:=h
  cases e
  exact⟨v,rfl,r.same hF,fun _=>RpF.of r hF⟩
 |ow ds=>
  obtain⟨l,vs,rfl,rfl,hl,r⟩:=h
  cases e
  exact⟨_,rfl,.lst (SqL.of hl) (r.same hF),fun _=>⟨_,_,rfl,SqL.of hl,r⟩⟩
 |od kvs=>cases e
 |tx ps=>
  obtain⟨t,vs,rfl,ht,r⟩:=h
  cases e
  exact⟨_,rfl,.tup (SqT.of (hF _ _ ht)) (r.rp hF),fun z=>by cases z⟩
 |al i=>cases e
 |br d'=>
  obtain⟨rfl,v,rfl,r⟩:=h
  cases e
  exact⟨v,rfl,r,fun z=>by cases z⟩
theorem FrF.slen(h:FrF K B F A σ H E xs Xs):σ.length=E.length:=by
 have e:=h.sl.len
 have:=h.len
 simp only[List.length_append,List.length_map]at e
 omega
theorem FrF.var{i:Nat}(h:FrF K B F A σ H E xs Xs)(e:E[i]? =some s):∃o A1,σ[i]? =some o∧SlOk K F H σ o s A1:=by
 obtain⟨o,A0,A1,A2,eA,eo,hp,_⟩:=h.sl.at (k:=Xs.length+i) (s:=s) (by rw[List.getElem?_append_right (by omega)];simpa using e)
 rw[List.getElem?_append_right (by rw[List.length_map,h.len];omega),List.length_map,h.len,Nat.add_sub_cancel_left]at eo
 exact⟨o,A1,eo,hp⟩
theorem FrF.ext{k:Nat}(h:FrF K B F A σ H E xs Xs)(e:Xs[k]? =some s):∃v A1,xs[k]? =some v∧SlOk K F H σ (some v) s A1:=by
 have hk:k < Xs.length:=(List.getElem?_eq_some_iff.mp e).1
 obtain⟨o,A0,A1,A2,eA,eo,hp,_⟩:=h.sl.at (k:=k) (s:=s) (by rw[List.getElem?_append_left hk];exact e)
 rw[List.getElem?_append_left (by rw[List.length_map,h.len];omega),List.getElem?_map]at eo
 cases q:xs[k]? with
 |none=>rw[q]at eo;cases eo
 |some v=>rw[q]at eo;cases eo;exact⟨v,A1,rfl,hp⟩
theorem FrF.look{k:Nat}(h:FrF K B F A σ H E xs Xs)(e:Xs[k]? =some s)(q:look E s=some d):∃v,xs[k]? =some v∧Rp K H v d∧(gJ E s=false→RpF K F H v d):=by
 obtain⟨v,A1,ev,hs⟩:=h.ext e
 cases s with
 |al i=>
  obtain⟨rfl,w,ew,hw⟩:=hs
  cases ew
  cases ei:E[i]? with
  |none=>simp[PL.look,ei]at q
  |some t=>
   obtain⟨o,A2,eo,ht⟩:=h.var ei
   rw[hw]at eo
   cases eo
   obtain⟨v',e',r,c⟩:=ht.val h.fh (d:=d) (by simpa[PL.look,ei]using q)
   cases e'
   exact⟨v,ev,r,fun z=>c (by simpa[gJ,ei]using z)⟩
 |no=>cases q
 |od kvs=>cases q
 |sh d'=>obtain⟨v',e',r,c⟩:=hs.val h.fh q;cases e';exact⟨v,ev,r,c⟩
 |ow ds=>obtain⟨v',e',r,c⟩:=hs.val h.fh q;cases e';exact⟨v,ev,r,c⟩
 |tx ps=>obtain⟨v',e',r,c⟩:=hs.val h.fh q;cases e';exact⟨v,ev,r,c⟩
 |br d'=>obtain⟨v',e',r,c⟩:=hs.val h.fh q;cases e';exact⟨v,ev,r,c⟩
theorem FrF.look0(h:FrF K B F A σ H E (v::xs) (s::Xs))(q:PL.look E s=some d):Rp K H v d∧(gJ E s=false→RpF K F H v d):=by
 obtain⟨v',e,r⟩:=h.look (k:=0) rfl q
 cases e
 exact r
theorem FrF.look1{w:V}{t:Sl}(h:FrF K B F A σ H E (w::v::xs) (t::s::Xs))(q:PL.look E s=some d):Rp K H v d∧(gJ E s=false→RpF K F H v d):=by
 obtain⟨v',e,r⟩:=h.look (k:=1) rfl q
 cases e
 exact r
theorem FrF.mutA(h:FrF K B F A σ H E xs Xs):∀a∈A,(∃us,H a=some (.lst us))∨∃us,H a=some (.dK us):=
 SAll.all (R:=fun a=>(∃us,H a=some (.lst us))∨∃us,H a=some (.dK us)) (fun _ _ _ q=>q.mut) h.sl
theorem FrF.newA{p:Addr}(h:FrF K B F A σ H E xs Xs)(hp:H p=none):p∉A:=fun hm=>by
 rcases h.mutA p hm with⟨_,z⟩ |⟨_,z⟩ <;> rw[hp]at z <;> cases z
theorem FrF.cold{u:V}{e:PyData}(h:FrF K B F A σ H E xs Xs)(r:Rp K H u e)(f:dL e=true):Rp K F u e:=(r.cold f).same h.tf
theorem FrF.coldA{us:List V}{es:List PyData}(h:FrF K B F A σ H E xs Xs)(r:RpA K H us es)(f:bE es=true):RpA K F us es:=(r.cold f).same h.tf
theorem FrF.push(h:FrF K B F A σ H E xs Xs)(q:SlOk K F H σ (some v) s []):FrF K B F A σ H E (v::xs) (s::Xs):=
 ⟨h.bf,h.fh,h.tf,.cons (A:=[]) q h.sl,h.nd,h.fr,by simp[h.len],h.pl⟩
theorem FrF.pop(h:FrF K B F A σ H E (v::xs) (s::Xs)):∃A',FrF K B F A' σ H E xs Xs:=by
 obtain⟨bf,fh,tf,sl,nd,fr,len,pl⟩:=h
 generalize hT:List.map some (v::xs)++σ=T at sl
 generalize hS:(s::Xs)++E=S at sl
 cases sl with
 |nil=>cases hS
 |cons q r=>
  injection hT with _ hT
  injection hS with _ hS
  subst hT hS
  exact⟨_,bf,fh,tf,r,(List.nodup_append.mp nd).2.1,fun a ha=>fr a (List.mem_append_right _ ha),by simpa using len,pl⟩
theorem FrF.grow{H':Hp}(h:FrF K B F A σ H E xs Xs)(g:Same H H'):FrF K B (fun b=>if b∈A then none else H' b) A σ H' E xs Xs:=by
 have nF:∀b o,F b=some o→b∉A:=fun b o e hb=>by rw[h.fr b hb]at e;cases e
 have FF:Same F (fun b=>if b∈A then none else H' b):=fun b o e=>by
  show(if b∈A then none else H' b)=some o
  rw[if_neg (nF b o e)]
  exact g _ _ (h.fh _ _ e)
 have hA:∀b∈A,H' b=H b:=fun b hb=>by
  rcases h.mutA b hb with⟨_,z⟩ |⟨_,z⟩ <;> rw[z,g _ _ z]
 refine⟨h.bf.trans FF,fun b o e=>?_,fun b o e=>?_,h.sl.mono fun o s C _ hC q=>q.stay FF (fun b hb=>hA b (hC b hb)) fun _=>g,h.nd,fun a ha=>if_pos ha,h.len,h.pl⟩
 ·by_cases hb:b∈A
  ·rw[if_pos hb]at e;cases e
  ·rw[if_neg hb]at e;exact e
 ·obtain⟨e1,e2⟩:=Option.filter_eq_some_iff.mp e
  show(if b∈A then none else H' b)=some o
  by_cases hb:b∈A
  ·rw[hA b hb]at e1
   rcases h.mutA b hb with⟨_,z⟩ |⟨_,z⟩ <;> rw[z]at e1 <;> cases e1 <;> cases e2
  ·rw[if_neg hb];exact e1
theorem FrF.newl{p:Addr}{vs:List V}{ds:List PyData}(h:FrF K B F A σ H E xs Xs)(r:RpA K F vs ds)(hp:H p=none):FrF K B F (p::A) σ (fS H p (.lst vs)) E (.ref p::xs) (.ow ds::Xs):=by
 have g:Same H (fS H p (.lst vs)):=kh hp _
 have nA:=h.newA hp
 refine⟨h.bf,h.fh.trans g,fun b o e=>?_,.cons (A:=[p]) ⟨p,vs,rfl,rfl,dZ,r⟩ (h.sl.mono fun o s C _ hC q=>q.stay (Same.refl _) (fun b hb=>bq fun z=>nA (z▸hC b hb)) fun _=>g),List.nodup_cons.mpr ⟨nA,h.nd⟩,fun a ha=>?_,by simp[h.len],h.pl⟩
 ·obtain⟨e1,e2⟩:=Option.filter_eq_some_iff.mp e
  by_cases hb:b=p
  ·subst hb;rw[dZ]at e1;cases e1;cases e2
  ·rw[bq hb]at e1;exact h.tf b o (nz e1 e2)
 ·rcases List.mem_cons.mp ha with z |z
  ·subst z;exact h.fh.free hp
  ·exact h.fr a z
theorem FrF.newt{p:Addr}{vs:List V}{ds:List PyData}(h:FrF K B F A σ H E xs Xs)(r:RpA K F vs ds)(hp:H p=none):FrF K B (fS F p (.tup vs)) A σ (fS H p (.tup vs)) E (.ref p::xs) (.sh (.tuple ds)::Xs):=by
 have g:Same H (fS H p (.tup vs)):=kh hp _
 have nA:=h.newA hp
 have gF:Same F (fS F p (.tup vs)):=kh (h.fh.free hp) _
 refine⟨h.bf.trans gF,fun b o e=>?_,fun b o e=>?_,.cons (A:=[]) ⟨rfl,_,rfl,.tup (.inl (.inl dZ)) (r.same gF)⟩ (h.sl.mono fun o s C _ hC q=>q.stay gF (fun b hb=>bq fun z=>nA (z▸hC b hb)) fun _=>g),h.nd,fun a ha=>?_,by simp[h.len],h.pl⟩
 ·by_cases hb:b=p
  ·subst hb;rw[dZ]at e ⊢;exact e
  ·rw[bq hb]at e ⊢;exact h.fh _ _ e
 ·obtain⟨e1,e2⟩:=Option.filter_eq_some_iff.mp e
  by_cases hb:b=p
  ·subst hb;rw[dZ]at e1 ⊢;exact e1
  ·rw[bq hb]at e1 ⊢;exact h.tf b o (nz e1 e2)
 ·have ne:a≠p:=fun z=>nA (z▸ha)
  rw[bq ne];exact h.fr a ha
theorem FrF.mut{i:Nat}{ds:List PyData}(h:FrF K B F A σ H E xs Xs)(e:E[i]? =some (.ow ds))(c:∀s∈Xs,s.isBr=false):
  ∃l vs,σ[i]? =some (some (.ref l))∧H l=some (.lst vs)∧RpA K F vs ds∧∀vs' ds',RpA K F vs' ds'→FrF K B F A σ (fS H l (.lst vs')) (E.set i (.ow ds')) xs Xs:=by
 obtain⟨o,A0,A1,A2,eA,eo,hp,put⟩:=h.sl.at (k:=Xs.length+i) (s:=.ow ds) (by rw[List.getElem?_append_right (by omega)];simpa using e)
 rw[List.getElem?_append_right (by rw[List.length_map,h.len];omega),List.length_map,h.len,Nat.add_sub_cancel_left]at eo
 obtain⟨l,vs,rfl,rfl,hl,r⟩:=hp
 refine⟨l,vs,eo,hl,r,fun vs' ds' r'=>?_⟩
 have hlA:l∈A:=by rw[eA];simp
 have nl:∀b,b∈A0∨b∈A2→b≠l:=fun b hb z=>by
  subst z
  have nd:=h.nd
  rw[eA]at nd
  rcases hb with hb |hb
  ·exact(List.nodup_append.mp nd).2.2 b hb b (by simp) rfl
  ·exact(List.nodup_append.mp (List.nodup_append.mp nd).2.1).2.2 b (by simp) b hb rfl
 have lF:F l=none:=h.fr l hlA
 have z:=put (SlOk K F (fS H l (.lst vs')) σ) (some (.ref l)) (.ow ds') [l] ⟨l,vs',rfl,rfl,dZ,r'⟩ fun o s C hs hC q=>q.stay (Same.refl _) (fun b hb=>bq (nl b (hC b hb))) fun z=>by
  rcases List.mem_append.mp hs with hs |hs
  ·rw[c s hs]at z;cases z
  ·have:=h.pl s hs
   cases s <;> simp[Sl.isAl,Sl.isBr]at this z
 have e3:(Xs++E).set (Xs.length+i) (.ow ds')=Xs++E.set i (.ow ds'):=by
  rw[List.set_append_right _ _ (by omega),Nat.add_sub_cancel_left]
 have e2:(List.map some xs++σ).set (Xs.length+i) (some (V.ref l))=List.map some xs++σ:=by
  rw[←h.len,List.set_append_right _ _ (by rw[List.length_map];omega),List.length_map,Nat.add_sub_cancel_left]
  congr 1
  exact List.ext_getElem? fun j=>by
   by_cases hj:i=j
   ·subst hj
    rw[List.getElem?_set_self',eo];rfl
   ·rw[List.getElem?_set_ne hj]
 rw[e2,e3,←eA]at z
 refine⟨h.bf,fun b o q=>?_,?_,z,h.nd,h.fr,h.len,fun s hs=>?_⟩
 ·rw[bq (fun z=>by rw[z,lF]at q;cases q)]
  exact h.fh _ _ q
 ·rw[u5 hl];exact h.tf
 ·rcases List.mem_or_eq_of_mem_set hs with hs |hs
  ·exact h.pl s hs
  ·subst hs;rfl
theorem FrF.frzAt{k:Nat}(h:FrF K B F A σ H E xs Xs)(e:(Xs++E)[k]? =some s)(q:s.val=some d)(c:s.isAl=false):
  ∃F' A' v,(xs.map some++σ)[k]? =some (some v)∧Rp K F' v d∧Same B F'∧Same F' H∧Same (tups H) F'∧SAll (SlOk K F' H σ) (xs.map some++σ) ((Xs++E).set k (.sh d)) A'∧A'.Nodup∧∀a∈A',F' a=none:=by
 obtain⟨o,A0,A1,A2,eA,eo,hp,put⟩:=h.sl.at e
 have nd:=h.nd
 rw[eA]at nd
 have nA1:∀b o,F b=some o→b∉A1:=fun b o e hb=>by
  have:=h.fr b (by rw[eA];simp[hb])
  rw[this]at e;cases e
 have FF:Same F (u7 F H A1):=fun b o e=>by rw[qk (nA1 b o e)];exact e
 obtain⟨v,rfl,r⟩:∃v,o=some v∧Rp K (u7 F H A1) v d:=by
  cases s with
  |no=>cases q
  |od kvs=>cases q
  |al i=>cases c
  |br d'=>cases c
  |sh d'=>
   obtain⟨rfl,v,rfl,r⟩:=hp
   cases q
   exact⟨v,rfl,r.same FF⟩
  |ow ds=>
   obtain⟨l,vs,rfl,rfl,hl,r⟩:=hp
   cases q
   exact⟨_,rfl,.lst (SqL.of ((tS (by simp)).trans hl)) (r.same FF)⟩
  |tx ps=>
   obtain⟨t,vs,rfl,ht,r⟩:=hp
   cases q
   refine⟨_,rfl,.tup (SqT.of (FF _ _ ht)) ?_⟩
   have r':PtsOk K (u7 F H A1) (u7 F H A1) vs ps A1:=r.stay FF fun b hb=>tS hb
   exact r'.rp (Same.refl _)
 have e2:(List.map some xs++σ).set k (some v)=List.map some xs++σ:=List.ext_getElem? fun j=>by
  by_cases hj:k=j
  ·subst hj
   rw[List.getElem?_set_self',eo];rfl
  ·rw[List.getElem?_set_ne hj]
 have z:=put (SlOk K (u7 F H A1) H σ) (some v) (.sh d) [] ⟨rfl,v,rfl,r⟩ fun o s C _ hC q=>q.stay FF (fun b _=>rfl) fun _=>Same.refl _
 rw[e2]at z
 refine⟨u7 F H A1,A0++A2,v,eo,r,h.bf.trans FF,fun b o e=>?_,fun b o e=>FF _ _ (h.tf _ _ e),by simpa using z,?_,fun a ha=>?_⟩
 ·by_cases hb:b∈A1
  ·rw[tS hb]at e;exact e
  ·rw[qk hb]at e;exact h.fh _ _ e
 ·exact List.Nodup.sublist (List.Sublist.append (List.Sublist.refl _) (List.sublist_append_right _ _)) nd
 ·have hn:a∉A1:=fun hm=>by
   rcases List.mem_append.mp ha with z |z
   ·exact(List.nodup_append.mp nd).2.2 a z a (by simp[hm]) rfl
   ·exact(List.nodup_append.mp (List.nodup_append.mp nd).2.1).2.2 a hm a z rfl
  rw[qk hn]
  exact h.fr a (by rw[eA];rcases List.mem_append.mp ha with z |z <;> simp[z])
end
def frz(E:List Sl):Sl→Option (PyData×List Sl)
 |.sh d=>some (d,E)
 |.ow ds=>some (.list ds,E)
 |.tx ps=>some (.tuple (ps.map Pt.val),E)
 |.br d=>if dL d then some (d,E)else none
 |.al i=>match E[i]? with
  |some (.sh d)=>some (d,E)
  |some (.ow ds)=>some (.list ds,E.set i (.sh (.list ds)))
  |some (.tx ps)=>some (.tuple (ps.map Pt.val),E.set i (.sh (.tuple (ps.map Pt.val))))
  |_=>none
 |_=>none
section
variable {K:PySem.W.Frag} {B F:Hp} {A:List Addr} {σ:Sg} {H:Hp} {E E':List Sl} {xs:List V} {Xs:List Sl} {v:V} {s:Sl} {d:PyData}
theorem FrF.frzVar{i:Nat}(h:FrF K B F A σ H E xs Xs)(e:E[i]? =some s)(q:s.val=some d):∃F' A' v,σ[i]? =some (some v)∧Rp K F' v d∧FrF K B F' A' σ H (E.set i (.sh d)) xs Xs:=by
 obtain⟨F',A',v,ev,r,b1,b2,b3,sl,nd,fr⟩:=h.frzAt (k:=Xs.length+i) (by rw[List.getElem?_append_right (by omega)];simpa using e) q (h.pl s (List.mem_of_getElem? e))
 rw[List.getElem?_append_right (by rw[List.length_map,h.len];omega),List.length_map,h.len,Nat.add_sub_cancel_left]at ev
 have e3:(Xs++E).set (Xs.length+i) (.sh d)=Xs++E.set i (.sh d):=by
  rw[List.set_append_right _ _ (by omega),Nat.add_sub_cancel_left]
 rw[e3]at sl
 refine⟨F',A',v,ev,r,b1,b2,b3,sl,nd,fr,h.len,fun s hs=>?_⟩
 rcases List.mem_or_eq_of_mem_set hs with hs |hs
 ·exact h.pl s hs
 ·subst hs;rfl
theorem FrF.frz0(h:FrF K B F A σ H E (v::xs) (s::Xs))(q:PL.frz E s=some (d,E')):∃F' A',FrF K B F' A' σ H E' (v::xs) (.sh d::Xs):=by
 have key:s.val=some d→s.isAl=false→E=E'→∃F' A',FrF K B F' A' σ H E' (v::xs) (.sh d::Xs):=fun q' c e=>by
  subst e
  obtain⟨F',A',v',ev,r,b1,b2,b3,sl,nd,fr⟩:=h.frzAt (k:=0) rfl q' c
  exact⟨F',A',b1,b2,b3,sl,nd,fr,by simpa using h.len,h.pl⟩
 have al:∀i t,s=.al i→E[i]? =some t→t.val=some d→E'=E.set i (.sh d)→∃F' A',FrF K B F' A' σ H E' (v::xs) (.sh d::Xs):=fun i t es ei qt eE=>by
  subst es eE
  obtain⟨v',A1,ev,hs⟩:=h.ext (k:=0) rfl
  cases ev
  obtain⟨rfl,w,ew,hw⟩:=hs
  cases ew
  obtain⟨F',A',w,ew,r,h'⟩:=h.frzVar ei qt
  rw[hw]at ew
  cases ew
  obtain⟨A2,h2⟩:=h'.pop
  exact⟨F',A2,h2.push ⟨rfl,_,rfl,r⟩⟩
 cases s with
 |no=>cases q
 |od kvs=>cases q
 |sh d'=>cases q;exact key rfl rfl rfl
 |ow ds=>cases q;exact key rfl rfl rfl
 |tx ps=>cases q;exact key rfl rfl rfl
 |br d'=>
  simp only[PL.frz]at q
  split at q
  ·rename_i hf
   cases q
   obtain⟨r,_⟩:=h.look0 (d:=d) rfl
   obtain⟨A2,h2⟩:=h.pop
   exact⟨F,A2,h2.push ⟨rfl,_,rfl,h.cold r hf⟩⟩
  ·cases q
 |al i=>
  simp only[PL.frz]at q
  split at q
  ·rename_i d' ei
   cases q
   refine al i _ rfl ei rfl ?_
   exact List.ext_getElem? fun j=>by
    by_cases hj:i=j
    ·subst hj;rw[List.getElem?_set_self',ei];rfl
    ·rw[List.getElem?_set_ne hj]
  ·rename_i ds ei
   cases q
   exact al i _ rfl ei rfl rfl
  ·rename_i ps ei
   cases q
   exact al i _ rfl ei rfl rfl
  ·cases q
theorem FrF.store{i:Nat}(h:FrF K B F A σ H E (v::xs) (s::Xs))(c:s.isAl=false)(cx:∀s∈Xs,s.isAl=false)(hi:i < E.length):∃A',FrF K B F A' (σ.set i (some v)) H (E.set i s) xs Xs:=by
 have hlen:=h.len
 have hsl:=h.slen
 obtain⟨bf,fh,tf,sl,nd,fr,len,pl⟩:=h
 generalize hT:List.map some (v::xs)++σ=T at sl
 generalize hS:(s::Xs)++E=S at sl
 cases sl with
 |nil=>cases hS
 |cons q r=>
  rename_i A1 _ _ A2
  injection hT with h1 hT
  injection hS with h2 hS
  subst h1 h2 hT hS
  have len':xs.length=Xs.length:=by simpa using len
  have r:SAll (SlOk K F H σ) (List.map some xs++σ) (Xs++E) A2:=r
  obtain⟨t,et⟩:∃t,E[i]? =some t:=⟨E[i],List.getElem?_eq_getElem hi⟩
  obtain⟨o,C0,C1,C2,eA,eo,hp,put⟩:=r.at (k:=Xs.length+i) (s:=t) (by rw[List.getElem?_append_right (by omega)];simpa using et)
  have all:∀s'∈Xs++E,s'.isAl=false:=fun s' hs=>(List.mem_append.mp hs).elim (cx s') (pl s')
  have chg:∀(o:Option V) (s':Sl) (C:List Addr),s'.isAl=false→SlOk K F H σ o s' C→SlOk K F H (σ.set i (some v)) o s' C:=fun o s' C hc z=>by
   cases s' <;> first |exact z |cases hc
  have z:=put (SlOk K F H (σ.set i (some v))) (some v) s A1 (chg _ _ _ c q) fun o s' C hs _ z=>chg o s' C (all s' hs) z
  have e3:(Xs++E).set (Xs.length+i) s=Xs++E.set i s:=by
   rw[List.set_append_right _ _ (by omega),Nat.add_sub_cancel_left]
  have e2:(List.map some xs++σ).set (Xs.length+i) (some v)=List.map some xs++σ.set i (some v):=by
   rw[←len',List.set_append_right _ _ (by rw[List.length_map];omega),List.length_map,Nat.add_sub_cancel_left]
  rw[e2,e3]at z
  refine⟨_,bf,fh,tf,z,?_,fun a ha=>fr a ?_,len',fun s' hs=>?_⟩
  ·rw[eA]at nd
   have p:(C0++(A1++C2)).Perm (A1++(C0++C2)):=by
    rw[←List.append_assoc,←List.append_assoc]
    exact List.Perm.append_right _ List.perm_append_comm
   refine p.nodup_iff.mpr (List.Nodup.sublist ?_ nd)
   exact List.Sublist.append (List.Sublist.refl _) (List.Sublist.append (List.Sublist.refl _) (List.sublist_append_right _ _))
  ·rw[eA]
   simp only[List.mem_append]at ha ⊢
   rcases ha with z |z |z
   ·exact .inr (.inl z)
   ·exact .inl z
   ·exact .inr (.inr (.inr z))
  ·rcases List.mem_or_eq_of_mem_set hs with hs |hs
   ·exact pl s' hs
   ·subst hs;exact c
end
end PL
namespace PL
open PySem L2 Nh
abbrev bC:=List Sl→Option (Sl×List Sl)
abbrev mq:=List Sl→Option (Bool×List Sl)
abbrev uM:=List Sl→Option (List Sl×List Sl)
abbrev pB:=List Sl→Option (List PyData×List Sl)
inductive Fl where
 |nx |bk |ct |rt (r:Sl)
abbrev de:=List Sl→Option (List Sl×Fl)
abbrev Calm(Xs:List Sl):Prop:=∀s∈Xs,s.isBr=false
abbrev Still(Xs:List Sl):Prop:=∀s∈Xs,s.isAl=false
theorem Still.calm{Xs:List Sl}(h:Still Xs):Calm Xs:=fun s hs=>by
 have:=h s hs
 cases s <;> simp[Sl.isAl,Sl.isBr]at this ⊢
theorem Still.nil{Xs:List Sl}(h:Xs=[]):Still Xs:=fun s hs=>by subst h;cases hs
theorem Calm.nil{Xs:List Sl}(h:Xs=[]):Calm Xs:=(Still.nil h).calm
theorem Calm.cons{Xs:List Sl}{s:Sl}(h:Calm Xs)(hs:s.isBr=false):Calm (s::Xs):=fun t ht=>(List.mem_cons.mp ht).elim (fun e=>e▸hs) (h t)
def rd(K:PySem.W.Frag)(m:Bool)(f:bC):TE:=fun σ H Q=>∃B E xs Xs r E',Frm K B σ H E xs Xs∧(m=true→Calm Xs)∧f E=some (r,E')∧∀v H',Frm K B σ H' E' (v::xs) (r::Xs)→Q v H'
def rt(K:PySem.W.Frag)(m:Bool)(f:mq):TT:=fun σ H Q=>∃B E xs Xs b E',Frm K B σ H E xs Xs∧(m=true→Calm Xs)∧f E=some (b,E')∧∀H',Frm K B σ H' E' xs Xs→Q b H'
def ra(K:PySem.W.Frag)(m:Bool)(f:uM):TA:=fun σ H Q=>∃B E xs Xs rs E',Frm K B σ H E xs Xs∧(m=true→Calm Xs)∧f E=some (rs,E')∧∀vs H',vs.length=rs.length→Frm K B σ H' E' (vs.reverse++xs) (rs.reverse++Xs)→Q vs H'
def IT(K:PySem.W.Frag)(m:Bool)(f:pB):TA:=fun σ H Q=>∃B E xs Xs ds E',Frm K B σ H E xs Xs∧(m=true→Calm Xs)∧f E=some (ds,E')∧∀vs H',vs.length=ds.length→Frm K B σ H' E' (vs.reverse++xs) (ds.reverse.map .sh++Xs)→Q vs H'
def rs(K:PySem.W.Frag)(g:de):TS:=fun D σ H=>∃B E xs Xs E' fl,Frm K B σ H E xs Xs∧Xs=[]∧g E=some (E',fl)∧match fl with
 |.nx=>∀σ' H',Frm K B σ' H' E' xs Xs→D.nx σ' H'
 |.bk=>∀σ' H',Frm K B σ' H' E' xs Xs→D.bk σ' H'
 |.ct=>∀σ' H',Frm K B σ' H' E' xs Xs→D.ct σ' H'
 |.rt r=>∀σ' v H',Frm K B σ' H' E' (v::xs) (r::Xs)→D.rt v H'
def EX(X:Cx)(e:Expr)(m:Bool)(f:bC):Prop:=PE X e (rd X.K m f)
def TX(X:Cx)(e:Expr)(m:Bool)(f:mq):Prop:=PT X e (rt X.K m f)
def WX(X:Cx)(e:Expr)(m:Bool)(f:mq):Prop:=PW X e (rt X.K m f)
def AX(X:Cx)(es:List Expr)(m:Bool)(f:uM):Prop:=PA X es (ra X.K m f)
def DX(X:Cx)(es:List Expr)(m:Bool)(f:pB):Prop:=PA X es (IT X.K m f)
def SX(X:Cx)(s:Stmt)(g:de):Prop:=PS X s (rs X.K g)
def y0(X:Cx)(s:List Stmt)(g:de):Prop:=PSs X s (rs X.K g)
section
variable {X:Cx}
theorem cR{e:Expr}{t t':TE}(h:PE X e t)(k:∀σ H Q,t' σ H Q→t σ H Q):PE X e t':=fun pins s σ H Q I q=>h pins s σ H Q I (k σ H Q q)
theorem wo{e:Expr}{t t':TT}(h:PT X e t)(k:∀σ H Q,t' σ H Q→t σ H Q):PT X e t':=fun pins s σ H Q I q=>h pins s σ H Q I (k σ H Q q)
theorem AJ{e:Expr}{t t':TT}(h:PW X e t)(k:∀σ H Q,t' σ H Q→t σ H Q):PW X e t':=fun whole pins s σ H Q I q=>h whole pins s σ H Q I (k σ H Q q)
theorem tT{es:List Expr}{t t':TA}(h:PA X es t)(k:∀σ H Q,t' σ H Q→t σ H Q):PA X es t':=fun pos pins s σ H Q I q=>h pos pins s σ H Q I (k σ H Q q)
theorem lM{st:Stmt}{t t':TS}(h:PS X st t)(k:∀D σ H,t' D σ H→t D σ H):PS X st t':=fun pins s σ H D I q=>h pins s σ H D I (k D σ H q)
theorem xJ{st:List Stmt}{t t':TS}(h:PSs X st t)(k:∀D σ H,t' D σ H→t D σ H):PSs X st t':=fun pins s σ H D I q=>h pins s σ H D I (k D σ H q)
end
def Ec:PyData→Option V
 |.none=>some .non
 |.bool b=>some (.bl b)
 |.int i=>some (.int i)
 |.str x=>some (.str x)
 |_=>none
theorem ql{K:PySem.W.Frag}{H:Hp}{d:PyData}{v:V}(h:Ec d=some v):Rp K H v d:=by
 cases d <;> simp[Ec]at h <;> subst h <;> constructor
def aa(i:Nat):bC:=fun E=>match E[i]? with
 |some (.sh d)=>some (.sh d,E)
 |some (.ow _)=>some (.al i,E)
 |some (.od _)=>some (.al i,E)
 |some (.tx _)=>some (.al i,E)
 |_=>none
def pC(d:PyData):bC:=fun E=>some (.sh d,E)
section
variable {X:Cx} {K:PySem.W.Frag}
theorem ab (i:Nat) {x:Str} {pos:Pos} (hN:X.N[i]? =some x:=by rfl) (hv:Gq X.env.scope x:=by first |exact Or.inl rfl |exact Or.inr (Or.inl rfl) |exact Or.inr (Or.inr rfl)) (hd:(x == ("__debug__":Str))=false:=by decide)
  (hcd:(x == ("__classdict__":Str))=false:=by decide):EX X (.Name x pos) false (aa i):=by
 refine cR (wb hN hv hd hcd) fun σ H Q h=>?_
 obtain⟨B,E,xs,Xs,r,E',⟨F,A,fr⟩,_,e,q⟩:=h
 unfold aa at e
 split at e
 ·rename_i d ei
  cases e
  obtain⟨o,A1,eo,rfl,v,rfl,rp⟩:=fr.var ei
  exact⟨v,eo,q v H ⟨F,A,fr.push ⟨rfl,v,rfl,rp⟩⟩⟩
 ·rename_i ds ei
  cases e
  obtain⟨o,A1,eo,l,vs,rfl,_⟩:=fr.var ei
  exact⟨_,eo,q _ H ⟨F,A,fr.push ⟨rfl,_,rfl,eo⟩⟩⟩
 ·rename_i ds ei
  cases e
  obtain⟨o,A1,eo,l,vs,A2,rfl,_⟩:=fr.var ei
  exact⟨_,eo,q _ H ⟨F,A,fr.push ⟨rfl,_,rfl,eo⟩⟩⟩
 ·rename_i ds ei
  cases e
  obtain⟨o,A1,eo,l,vs,rfl,_⟩:=fr.var ei
  exact⟨_,eo,q _ H ⟨F,A,fr.push ⟨rfl,_,rfl,eo⟩⟩⟩
 ·cases e
theorem Fm{e:Expr}{v:V}(d:PyData)(h:PE X e (tC v))(hd:Ec d=some v:=by rfl):EX X e false (pC d):=by
 refine cR h fun σ H Q h=>?_
 obtain⟨B,E,xs,Xs,r,E',⟨F,A,fr⟩,_,e,q⟩:=h
 cases e
 exact q v H ⟨F,A,fr.push ⟨rfl,v,rfl,ql hd⟩⟩
theorem ar{i j pos}:EX X (.Constant (.int i) j pos) false (pC (.int i)):=Fm _ ED
theorem jW{b j pos}:EX X (.Constant (.bool b) j pos) false (pC (.bool b)):=Fm _ Gr
theorem kM{x j pos}:EX X (.Constant (.str x) j pos) false (pC (.str x)):=Fm _ Ao
end
abbrev P2:=List Sl→Sl→Sl→Option (Sl×List Sl)
def lN(K:PySem.W.Frag)(r:R2)(p:P2):Prop:=∀{B F:Hp} {A:List Addr} {σ:Sg} {H:Hp} {E:List Sl} {xs:List V} {Xs:List Sl} {v1 v2:V} {s1 s2 res:Sl} {E':List Sl} {Q:VK},
 FrF K B F A σ H E (v2::v1::xs) (s2::s1::Xs)→p E s1 s2=some (res,E')→(∀v H',Frm K B σ H' E' (v::xs) (res::Xs)→Q v H')→r v1 v2 H Q
def ag(p:P2)(m2:Bool)(f g:bC):bC:=fun E=>(f E).bind fun a=>if m2&&a.1.isBr then none else (g a.2).bind fun b=>p b.2 a.1 b.1
theorem tU{K:PySem.W.Frag}{r:R2}{p:P2}(hp:lN K r p){m1 m2:Bool}{f g:bC}{σ:Sg}{H:Hp}{Q:VK}(h:rd K (m1||m2) (ag p m2 f g) σ H Q):GE r (rd K m1 f) (rd K m2 g) σ H Q:=by
 obtain⟨B,E,xs,Xs,res,E',fr,c,e,q⟩:=h
 obtain⟨⟨s1,E1⟩,e1,e⟩:=Option.bind_eq_some_iff.mp e
 by_cases hb:(m2&&s1.isBr)=true
 ·rw[if_pos hb]at e;cases e
 rw[if_neg hb]at e
 obtain⟨⟨s2,E2⟩,e2,e⟩:=Option.bind_eq_some_iff.mp e
 refine⟨B,E,xs,Xs,s1,E1,fr,fun z=>c (by simp[z]),e1,fun v1 H1 fr1=>?_⟩
 refine⟨B,E1,v1::xs,s1::Xs,s2,E2,fr1,fun z=>?_,e2,fun v2 H2 fr2=>?_⟩
 ·refine Calm.cons (c (by simp[z])) ?_
  cases hs:s1.isBr with
  |false=>rfl
  |true=>exact absurd (by simp[z,hs]) hb
 ·obtain⟨F,A,fr2⟩:=fr2
  exact hp fr2 e q
def fD(op:PyData→PyData→Option PyData):P2:=fun E s1 s2=>(look E s1).bind fun d1=>(look E s2).bind fun d2=>(op d1 d2).map fun d=>(.sh d,E)
theorem FrF.res2{K:PySem.W.Frag}{B F:Hp}{A:List Addr}{σ:Sg}{H:Hp}{E:List Sl}{xs:List V}{Xs:List Sl}{v1 v2 v:V}{s1 s2 s:Sl}(h:FrF K B F A σ H E (v2::v1::xs) (s2::s1::Xs))(q:SlOk K F H σ (some v) s []):Frm K B σ H E (v::xs) (s::Xs):=by
 obtain⟨A1,h⟩:=h.pop
 obtain⟨A2,h⟩:=h.pop
 exact⟨F,A2,h.push q⟩
theorem lQ{K:PySem.W.Frag}{r:R2}{op:PyData→PyData→Option PyData}(h:∀(d1 d2 d:PyData) (v1 v2:V) (H:Hp) (Q:VK),op d1 d2=some d→Rp K H v1 d1→Rp K H v2 d2→∃v,Ec d=some v∧(Q v H→r v1 v2 H Q)):lN K r (fD op):=by
 intro B F A σ H E xs Xs v1 v2 s1 s2 res E' Q fr e q
 obtain⟨d1,e1,e⟩:=Option.bind_eq_some_iff.mp e
 obtain⟨d2,e2,e⟩:=Option.bind_eq_some_iff.mp e
 obtain⟨d,e3,e⟩:=Option.map_eq_some_iff.mp e
 cases e
 obtain⟨v,hv,k⟩:=h d1 d2 d v1 v2 H Q e3 (fr.look1 e1).1 (fr.look0 e2).1
 exact k (q v H (fr.res2 ⟨rfl,v,rfl,ql hv⟩))
section
variable {X:Cx} {a b:Expr} {m1 m2:Bool} {f g:bC} {pos:Pos}
theorem oW{op:Operator}{r:R2}{p:P2}(ho:OpR X (binaryOp op) r)(hp:lN X.K r p)(ha:EX X a m1 f)(hb:EX X b m2 g):EX X (.BinOp a op b pos) (m1||m2) (ag p m2 f g):=cR (GF ho ha hb) fun _ _ _ h=>tU hp h
theorem wq{op:CmpOp}{r:R2}{p:P2}(ho:OpR X (compareOp op) r)(hp:lN X.K r p)(ha:EX X a m1 f)(hb:EX X b m2 g)(hm:behindInMarks op b=false):EX X (.Compare a [op] [b] pos) (m1||m2) (ag p m2 f g):=cR (CO ho ha hb hm) fun _ _ _ h=>tU hp h
def cV(f:bC):mq:=fun E=>(f E).bind fun a=>match a.1 with
 |.sh (.bool b)=>some (b,a.2)
 |_=>none
theorem Fn{K:PySem.W.Frag}{m:Bool}{f:bC}{σ:Sg}{H:Hp}{Q:Bool→Hp→Prop}(h:rt K m (cV f) σ H Q):rd K m f σ H (fun x H'=>∃k,x=.bl k∧Q k H'):=by
 obtain⟨B,E,xs,Xs,b,E',fr,c,e,q⟩:=h
 obtain⟨⟨s,E1⟩,e1,e⟩:=Option.bind_eq_some_iff.mp e
 refine⟨B,E,xs,Xs,s,E1,fr,c,e1,fun v H' ⟨F,A,fr'⟩=>?_⟩
 simp only at e
 split at e
 ·cases e
  obtain⟨r,_⟩:=fr'.look0 (d:=.bool b) rfl
  cases r
  obtain⟨A',fr2⟩:=fr'.pop
  exact⟨b,rfl,q H' ⟨F,A',fr2⟩⟩
 ·cases e
theorem qm{op:CmpOp}{r:R2}{p:P2}(ho:OpR X (compareOp op) r)(hp:lN X.K r p)(ha:EX X a m1 f)(hb:EX X b m2 g)(hm:behindInMarks op b=false):TX X (.Compare a [op] [b] pos) (m1||m2) (cV (ag p m2 f g)):=by
 refine wo (CP ho ha hb hm) fun σ H Q h=>?_
 exact tU hp (Fn h)
end
def Fo:Int:=2 ^ 20000
def gW(i j:Int):Bool:=decide (-(2 ^ 64) < i∧i < 2 ^ 64)||decide (-(2 ^ 64) < j∧j < 2 ^ 64)||decide (-Fo < i∧i < Fo∧ -Fo < j∧j < Fo)
def oX(j:Int):Bool:=decide (0 < j∧j < 2 ^ 200)
def pS(C:Int→Int→Bool)(g:Int→Int→PyData):PyData→PyData→Option PyData
 |.int i,.int j=>if C i j then some (g i j)else none
 |_,_=>none
abbrev Ed(C:Int→Int→Bool)(g:Int→Int→V):R2:=rI (fun i j=>C i j=true) g
theorem oq{K:PySem.W.Frag}{C:Int→Int→Bool}{g:Int→Int→PyData}{g':Int→Int→V}(hg:∀i j,Ec (g i j)=some (g' i j)):lN K (Ed C g') (fD (pS C g)):=by
 refine lQ fun d1 d2 d v1 v2 H Q e r1 r2=>?_
 unfold pS at e
 split at e
 ·split at e
  ·cases e
   cases r1
   cases r2
   rename_i hC
   exact⟨_,hg _ _,fun q=>⟨_,_,rfl,rfl,hC,q⟩⟩
  ·cases e
 ·cases e
section
variable {X:Cx}
theorem oY{i:Int}(h1: -Fo < i)(h2:i < Fo):Builtin.Int.intBits i≤2 ^ 20:=by
 unfold Fo at h1 h2
 have h:i.natAbs < 2 ^ 20000:=by
  have e:((2 ^ 20000:Nat):Int)=2 ^ 20000:=Int.natCast_pow 2 20000
  generalize (2 ^ 20000:Int)=z at h1 h2 e
  generalize (2 ^ 20000:Nat)=y at e ⊢
  omega
 unfold Builtin.Int.intBits
 split
 ·exact Nat.zero_le _
 ·rename_i hz
  have hz':i≠0:=by simpa using hz
  have:i.natAbs.log2 < 20000:=(Nat.log2_lt (by omega)).mpr h
  omega
theorem AK{i j:Int}(h:gW i j=true):PySem.IntMulOk i j:=by
 unfold gW at h
 simp only[Bool.or_eq_true,decide_eq_true_eq]at h
 rcases h with(h |h) |h
 ·exact CMul.ok (.inl h)
 ·exact CMul.ok (.inr h)
 ·exact PySem.IntMulOk.of_bits (oY h.1 h.2.1) (oY h.2.2.1 h.2.2.2)
end
end PL
namespace PL
open PySem L2 Nh PyProof.Rows
abbrev oZ:=L2.St
section
variable {X:Cx}
theorem OpR.or{f:Value→Value→Sem Value}{r r':R2}(h:OpR X f r)(h':OpR X f r'):OpR X f (fun x y H Q=>r x y H Q∨r' x y H Q):=by
 intro pins s σ H x y v u Q I rx ry q
 rcases q with q |q
 ·exact h pins s σ H x y v u Q I rx ry q
 ·exact h' pins s σ H x y v u Q I rx ry q
theorem OpR.imp{f:Value→Value→Sem Value}{r r':R2}(h:OpR X f r)(k:∀x y H Q,r' x y H Q→r x y H Q):OpR X f r':=fun pins s σ H x y v u Q I rx ry q=>h pins s σ H x y v u Q I rx ry (k _ _ _ _ q)
def Ee(K:PySem.W.Frag):R2:=fun x y H Q=>∃l b xs zs,x=.ref l∧y=.ref b∧SqL K H l xs∧SqL K H b zs∧xs.length+zs.length≤sizeLine∧∀p,H p=none→Q (.ref p) (fS H p (.lst (xs++zs)))
theorem C5:OpR X (binaryOp .Add) (Ee X.K):=by
 intro pins s σ H x y v u Q I rx ry h
 obtain⟨l,b,xs,zs,rfl,rfl,hH,hB,hz,q⟩:=h
 cases rx
 cases ry
 obtain⟨its,r,p1,z1⟩:=I.list hH
 obtain⟨its2,r2,p2,z2⟩:=I.list hB
 obtain⟨⟨cls,dd,data,sl⟩,ho,hc,n,hd⟩:=p1.isList
 obtain⟨⟨cls2,dd2,data2,sl2⟩,ho2,hc2,n2,Am⟩:=p2.isList
 simp only at hc hd hc2 Am
 subst hc hd hc2 Am
 have l1:=r.length
 have l2:=r2.length
 refine concat_meets ⟨_,ho,rfl⟩ ⟨_,ho2,rfl⟩ noFill_list_add seq_list_add PySem.F.slot_list_add PySem.F.entry_list_add (PySem.F.args_list_add_2 _ _) (list_addW l b its.toArray its2.toArray n n2 dd dd2 sl sl2 (by simp only[List.size_toArray];omega)) ⟨ho,ho2,?_⟩
 have ea:its.toArray++its2.toArray=(its++its2).toArray:=by simp
 rw[ea]
 exact⟨.ref _,_,I.lnew (t':=s.toks) (r.append r2) (by rw[List.length_append];omega),rfl,q _ I.fresh⟩
def Ef(K:PySem.W.Frag):R2:=fun x y H Q=>∃l k xs,x=.ref l∧y=.int k∧SqL K H l xs∧ -(2 ^ 63)≤k∧k < 2 ^ 63∧xs.length*k.toNat≤sizeLine∧
 ∀p,H p=none→Q (.ref p) (fS H p (.lst (List.replicate k.toNat xs).flatten))
theorem C6:OpR X (binaryOp .Mult) (Ef X.K):=by
 intro pins s σ H x y v u Q I rx ry h
 obtain⟨l,k,xs,rfl,rfl,hH,h1,h2,hz,q⟩:=h
 cases rx
 obtain⟨t,rfl⟩:=ry
 obtain⟨its,r,p1,z1⟩:=I.list hH
 obtain⟨⟨cls,d,data,sl⟩,ho,hcl,n,hd⟩:=p1.isList
 simp only at hcl hd
 subst hcl hd
 have l1:=r.length
 have hsz:its.toArray.size*k.toNat≤2 ^ 24:=by rw[List.size_toArray,←l1];exact hz
 refine wpAny_binaryOp_repeat_ref (T:="list") (U:="int") (by decide) ⟨_,ho,rfl⟩ (fun s'=>typeIs_int s' k t) noFill_list_mul F.fills_int_mul F.slot_int_rmul repeat_list F.slot_int_index.lookup
  (call_meets F.slot_int_rmul (typeIs_int s k t) F.entry_int_rmul (F.args_int_rmul_2 _ _) (lm_int_rmul_list_any k t l its.toArray n d sl)
   ⟨ho,rfl,⟨_,ho,rfl⟩,call_meets F.slot_list_mul ⟨_,ho,rfl⟩ F.entry_list_mul (F.args_list_mul_2 _ _)
    (lm_list_mul_any l its.toArray n d sl k t (by simp[Builtin.List.listFitsIndex];omega) (by omega) (by simp[Builtin.List.listTooLong,sizeLine];omega))
    ⟨ho,?_⟩⟩)
 rw[listMul_foldl_if]
 exact⟨.ref _,_,I.lnew (t':=s.toks) (r.rep k.toNat) (by rw[C3,Nat.mul_comm];exact hz),rfl,q _ I.fresh⟩
end
def aT:P2:=fun E s1 s2=>(look E s1).bind fun d1=>(look E s2).bind fun d2=>match d1,d2 with
 |.int i,.int j=>some (.sh (.int (i+j)),E)
 |.str a,.str b=>if a.length+b.length≤1000000 then some (.sh (.str (a++b)),E)else none
 |.list a,.list b=>if decide (a.length+b.length≤1000000)&&(!gJ E s1||bE a)&&(!gJ E s2||bE b)then some (.ow (a++b),E)else none
 |_,_=>none
theorem small{n:Nat}(h:n≤1000000):n < sizeLine:=Nat.lt_of_le_of_lt h (by rw[sizeLine_eq];decide)
theorem i9{n:Nat}(h:n≤1000000):n≤sizeLine:=Nat.le_of_lt (small h)
section
variable {K:PySem.W.Frag} {B F:Hp} {A:List Addr} {σ:oZ} {H:Hp} {E:List Sl} {xs:List V} {Xs:List Sl} {v:V} {s:Sl} {ds:List PyData}
theorem FrF.items{k:Nat}(h:FrF K B F A σ H E xs Xs)(e:Xs[k]? =some s)(q:PL.look E s=some (.list ds))(c:(!gJ E s||bE ds)=true):∃a vs,xs[k]? =some (.ref a)∧SqL K H a vs∧RpA K F vs ds:=by
 obtain⟨v,ev,r,f⟩:=h.look e q
 cases hh:gJ E s with
 |false=>
  obtain⟨a,vs,rfl,h1,h2⟩:=f hh
  exact⟨a,vs,ev,h1,h2⟩
 |true=>
  rw[hh]at c
  cases r with
  |lst h1 h2=>exact⟨_,_,ev,h1,h.coldA h2 (by simpa using c)⟩
theorem FrF.res2l{v1 v2:V}{s1 s2:Sl}{vs:List V}(h:FrF K B F A σ H E (v2::v1::xs) (s2::s1::Xs))(r:RpA K F vs ds){p:Addr}(hp:H p=none):Frm K B σ (fS H p (.lst vs)) E (.ref p::xs) (.ow ds::Xs):=by
 obtain⟨A1,h⟩:=h.pop
 obtain⟨A2,h⟩:=h.pop
 exact⟨F,_,h.newl r hp⟩
end
abbrev Eg(K:PySem.W.Frag):R2:=fun x y H Q=>(∃i j,x=.int i∧y=.int j∧Q (.int (i+j)) H)∨(∃i j,x=.str i∧y=.str j∧i.length+j.length≤sizeLine∧Q (.str (i++j)) H)∨Ee K x y H Q
theorem C7{X:Cx}:OpR X (binaryOp .Add) (Eg X.K):=OpR.or ET (OpR.or wg C5)
theorem C8{K:PySem.W.Frag}:lN K (Eg K) aT:=by
 intro B F A σ H E xs Xs v1 v2 s1 s2 res E' Q fr e q
 obtain⟨d1,e1,e⟩:=Option.bind_eq_some_iff.mp e
 obtain⟨d2,e2,e⟩:=Option.bind_eq_some_iff.mp e
 have r1:=(fr.look1 e1).1
 have r2:=(fr.look0 e2).1
 split at e
 ·cases e;cases r1;cases r2
  exact .inl ⟨_,_,rfl,rfl,q _ _ (fr.res2 ⟨rfl,_,rfl,.int _⟩)⟩
 ·split at e
  ·rename_i hl
   cases e;cases r1;cases r2
   exact .inr (.inl ⟨_,_,rfl,rfl,i9 hl,q _ _ (fr.res2 ⟨rfl,_,rfl,.str _⟩)⟩)
  ·cases e
 ·split at e
  ·rename_i hc
   cases e
   simp only[Bool.and_eq_true,decide_eq_true_eq]at hc
   obtain⟨a1,u1,x1,q1,i1⟩:=fr.items (k:=1) rfl e1 hc.1.2
   obtain⟨a2,u2,x2,q2,i2⟩:=fr.items (k:=0) rfl e2 hc.2
   cases x1;cases x2
   have l1:=i1.len
   have l2:=i2.len
   exact .inr (.inr ⟨_,_,_,_,rfl,rfl,q1,q2,i9 (by omega),fun p hp=>q _ _ (fr.res2l (i1.append i2) hp)⟩)
  ·cases e
 ·cases e
def tV:P2:=fD (pS (fun _ _=>true) fun i j=>.int (i - j))
def cJ:P2:=fD (pS (fun _ j=>oX j) fun i j=>.int (i / j))
def gd:P2:=fD (pS (fun _ j=>decide (0 < j)) fun i j=>.int (i % j))
def qo:P2:=fD (pS (fun i j=>decide (0≤j∧j≤1000000∧ -(2 ^ 64) < i∧i < 2 ^ 64)) fun i j=>.int (i ^ j.toNat))
section
variable {X:Cx}
theorem C9:OpR X (binaryOp .Sub) (Ed (fun _ _=>true) fun i j=>.int (i - j)):=OpR.imp EU fun x y H Q ⟨i,j,a,b,_,q⟩=>⟨i,j,a,b,q⟩
theorem AL:OpR X (binaryOp .FloorDiv) (Ed (fun _ j=>oX j) fun i j=>.int (i / j)):=GH fun i j _ _ _ _ _ hc q=>by
 obtain⟨h1,h2⟩:=of_decide_eq_true hc
 have h3:j.natAbs.log2 < 9000:=by
  have:j.natAbs < 2 ^ 200:=by omega
  have:=(Nat.log2_lt (n:=j.natAbs) (k:=200) (by omega)).mpr this
  omega
 exact floordiv_int (by omega) (by rw[Int.fdiv_eq_ediv_of_nonneg i (by omega)];exact q) (.inl (PyProof.noPylong_of_log2 h3))
theorem C_:OpR X (binaryOp .Mod) (Ed (fun _ j=>decide (0 < j)) fun i j=>.int (i % j)):=OpR.imp EV fun x y H Q ⟨i,j,a,b,c,q⟩=>⟨i,j,a,b,of_decide_eq_true c,q⟩
theorem Da{i j:Int}(c:0≤j∧j≤1000000∧ -(2 ^ 64) < i∧i < 2 ^ 64):GI i j:=⟨c.1,c.2.1,by omega⟩
theorem Db:OpR X (binaryOp .Pow) (Ed (fun i j=>decide (0≤j∧j≤1000000∧ -(2 ^ 64) < i∧i < 2 ^ 64)) fun i j=>.int (i ^ j.toNat)):=OpR.imp EW fun x y H Q ⟨i,j,a,b,c,q⟩=>⟨i,j,a,b,Da (of_decide_eq_true c),q⟩
end
def hW:P2:=fun E s1 s2=>(look E s1).bind fun d1=>(look E s2).bind fun d2=>match d1,d2 with
 |.int i,.int j=>if gW i j then some (.sh (.int (i*j)),E)else none
 |.list a,.int k=>if decide (a.length*k.toNat≤1000000∧ -1000000≤k∧k≤1000000)&&(!gJ E s1||bE a)then some (.ow (List.replicate k.toNat a).flatten,E)else none
 |_,_=>none
abbrev Eh(K:PySem.W.Frag):R2:=fun x y H Q=>Ed gW (fun i j=>.int (i*j)) x y H Q∨Ef K x y H Q
theorem Dc{X:Cx}:OpR X (binaryOp .Mult) (Eh X.K):=OpR.or (GH fun _ _ _ _ _ _ _ hc q=>mul_int q (AK hc)) C6
theorem De{K:PySem.W.Frag}:lN K (Eh K) hW:=by
 intro B F A σ H E xs Xs v1 v2 s1 s2 res E' Q fr e q
 obtain⟨d1,e1,e⟩:=Option.bind_eq_some_iff.mp e
 obtain⟨d2,e2,e⟩:=Option.bind_eq_some_iff.mp e
 have r1:=(fr.look1 e1).1
 have r2:=(fr.look0 e2).1
 split at e
 ·split at e
  ·rename_i hm
   cases e;cases r1;cases r2
   exact .inl ⟨_,_,rfl,rfl,hm,q _ _ (fr.res2 ⟨rfl,_,rfl,.int _⟩)⟩
  ·cases e
 ·split at e
  ·rename_i hc
   cases e
   simp only[Bool.and_eq_true,decide_eq_true_eq]at hc
   obtain⟨a1,u1,x1,q1,i1⟩:=fr.items (k:=1) rfl e1 hc.2
   cases x1;cases r2
   have l1:=i1.len
   exact .inr ⟨_,_,_,rfl,rfl,q1,by omega,by omega,i9 (by rw[l1];exact hc.1.1),fun p hp=>q _ _ (fr.res2l (i1.rep _) hp)⟩
  ·cases e
 ·cases e
section
variable {X:Cx} {a b:Expr} {m1 m2:Bool} {f g:bC} {pos:Pos}
theorem bv(ha:EX X a m1 f)(hb:EX X b m2 g):EX X (.BinOp a .Add b pos) (m1||m2) (ag aT m2 f g):=oW C7 C8 ha hb
theorem wt(ha:EX X a m1 f)(hb:EX X b m2 g):EX X (.BinOp a .Sub b pos) (m1||m2) (ag tV m2 f g):=oW C9 (oq fun _ _=>rfl) ha hb
theorem ii(ha:EX X a m1 f)(hb:EX X b m2 g):EX X (.BinOp a .Mult b pos) (m1||m2) (ag hW m2 f g):=oW Dc De ha hb
theorem iF(ha:EX X a m1 f)(hb:EX X b m2 g):EX X (.BinOp a .FloorDiv b pos) (m1||m2) (ag cJ m2 f g):=oW AL (oq fun _ _=>rfl) ha hb
theorem ij(ha:EX X a m1 f)(hb:EX X b m2 g):EX X (.BinOp a .Mod b pos) (m1||m2) (ag gd m2 f g):=oW C_ (oq fun _ _=>rfl) ha hb
theorem AM(ha:EX X a m1 f)(hb:EX X b m2 g):EX X (.BinOp a .Pow b pos) (m1||m2) (ag qo m2 f g):=oW Db (oq fun _ _=>rfl) ha hb
end
def Im(K:PySem.W.Frag)(r:V→Hp→VK→Prop)(op:PyData→Option PyData):Prop:=∀(d1 d:PyData) (v1:V) (H:Hp) (Q:VK),op d1=some d→Rp K H v1 d1→∃v,Ec d=some v∧(Q v H→r v1 H Q)
def ki(op:PyData→Option PyData)(f:bC):bC:=fun E=>(f E).bind fun a=>(look a.2 a.1).bind fun d1=>(op d1).map fun d=>(.sh d,a.2)
theorem G3{K:PySem.W.Frag}{r:V→Hp→VK→Prop}{op:PyData→Option PyData}(hp:Im K r op){m:Bool}{f:bC}{σ:oZ}{H:Hp}{Q:VK}(h:rd K m (ki op f) σ H Q):rd K m f σ H (fun x H1=>r x H1 Q):=by
 obtain⟨B,E,xs,Xs,res,E',fr,c,e,q⟩:=h
 obtain⟨⟨s1,E1⟩,e1,e⟩:=Option.bind_eq_some_iff.mp e
 obtain⟨d1,e2,e⟩:=Option.bind_eq_some_iff.mp e
 obtain⟨d,e3,e⟩:=Option.map_eq_some_iff.mp e
 cases e
 refine⟨B,E,xs,Xs,s1,E1,fr,c,e1,fun v1 H1 ⟨F,A,fr1⟩=>?_⟩
 obtain⟨v,hv,k⟩:=hp d1 d v1 H1 Q e3 (fr1.look0 e2).1
 obtain⟨A',fr2⟩:=fr1.pop
 exact k (q v H1 ⟨F,A',fr2.push ⟨rfl,v,rfl,ql hv⟩⟩)
def lE:PyData→Option PyData
 |.int i=>some (.int (-i))
 |_=>none
section
variable {X:Cx} {a b c:Expr} {m1 m2 m3:Bool} {f g h:bC} {pos:Pos}
theorem wu(ha:EX X a m1 f):EX X (.UnaryOp .USub a pos) m1 (ki lE f):=cR (GG E7 ha) fun σ H Q h=>G3 (r:=rU fun i=>.int (-i)) (fun d1 d v1 H Q e r=>by
 cases d1 <;> simp[lE]at e
 cases e;cases r
 exact⟨_,rfl,fun q=>⟨_,rfl,q⟩⟩) h
end
def wv(d1 d2:PyData):Option Bool:=match d1,d2 with
 |.int i,.int j=>some (decide (i=j))
 |.str a,.str b=>some (decide (a=b))
 |.bool a,.bool b=>some (decide (a=b))
 |.none,.none=>some true
 |.none,.str _=>some false
 |.str _,.none=>some false
 |d1,d2=>if SeqAt.shaped d1&&SeqAt.shaped d2 then some (PyData.eqv d1 d2)else none
def hZ:P2:=fD fun d1 d2=>(wv d1 d2).map fun b=>.bool b
def jX:P2:=fD fun d1 d2=>(wv d1 d2).map fun b=>.bool (!b)
abbrev Io(K:PySem.W.Frag):R2:=fun x y H Q=>IG x y H Q∨GZ K x y H Q
abbrev Ip(K:PySem.W.Frag):R2:=fun x y H Q=>IH x y H Q∨G0 K x y H Q
theorem AN{K:PySem.W.Frag}{H:Hp}{v1 v2:V}{d1 d2:PyData}{b:Bool}(e:wv d1 d2=some b)(r1:Rp K H v1 d1)(r2:Rp K H v2 d2):
  (E8 v1 v2=true∧decide (v1=v2)=b)∨(DOf K H v1 d1∧DOf K H v2 d2∧SeqAt.shaped d1=true∧SeqAt.shaped d2=true∧PyData.eqv d1 d2=b):=by
 unfold wv at e
 split at e
 ·cases e;cases r1;cases r2;exact .inl ⟨rfl,by simp⟩
 ·cases e;cases r1;cases r2;exact .inl ⟨rfl,by simp⟩
 ·cases e;cases r1;cases r2;exact .inl ⟨rfl,by simp⟩
 ·cases e;cases r1;cases r2;exact .inl ⟨rfl,rfl⟩
 ·cases e;cases r1;cases r2;exact .inl ⟨rfl,rfl⟩
 ·cases e;cases r1;cases r2;exact .inl ⟨rfl,rfl⟩
 ·split at e
  ·rename_i hs
   cases e
   simp only[Bool.and_eq_true]at hs
   exact .inr ⟨r1.dof hs.1,r2.dof hs.2,hs.1,hs.2,rfl⟩
  ·cases e
theorem AO{K:PySem.W.Frag}:lN K (Io K) hZ:=lQ fun d1 d2 d v1 v2 H Q e r1 r2=>by
 obtain⟨b,e',rfl⟩:=Option.map_eq_some_iff.mp e
 refine⟨_,rfl,fun q=>?_⟩
 rcases AN e' r1 r2 with⟨a,rfl⟩ |⟨a1,a2,a3,a4,rfl⟩
 ·exact .inl ⟨a,q⟩
 ·exact .inr ⟨_,_,a1,a2,a3,a4,q⟩
theorem Fp{K:PySem.W.Frag}:lN K (Ip K) jX:=lQ fun d1 d2 d v1 v2 H Q e r1 r2=>by
 obtain⟨b,e',rfl⟩:=Option.map_eq_some_iff.mp e
 refine⟨_,rfl,fun q=>?_⟩
 rcases AN e' r1 r2 with⟨a,rfl⟩ |⟨a1,a2,a3,a4,rfl⟩
 ·exact .inl ⟨a,q⟩
 ·exact .inr ⟨_,_,a1,a2,a3,a4,q⟩
def y9(K:PySem.W.Frag)(r:R2)(op:PyData→PyData→Option PyData):Prop:=∀(d1 d2 d:PyData) (v1 v2:V) (H:Hp) (Q:VK),op d1 d2=some d→Rp K H v1 d1→Rp K H v2 d2→∃v,Ec d=some v∧(Q v H→r v1 v2 H Q)
def qp(op op':PyData→PyData→Option PyData)(m2 m3:Bool)(f g h:bC):bC:=fun E=>(f E).bind fun a=>if (m2||m3)&&a.1.isBr then none else (g a.2).bind fun b=>if m3&&b.1.isBr then none else
 (look b.2 a.1).bind fun d1=>(look b.2 b.1).bind fun d2=>match op d1 d2 with
  |some (.bool true)=>(h b.2).bind fun c=>(look c.2 b.1).bind fun d2=>(look c.2 c.1).bind fun d3=>(op' d2 d3).map fun d=>(.sh d,c.2)
  |some (.bool false)=>some (.sh (.bool false),b.2)
  |_=>none
section
variable {X:Cx} {a b c:Expr} {m1 m2 m3:Bool} {f g h:bC} {pos:Pos}
theorem xK(hu:X.A.units+64 < cLine)(ha:EX X a m1 f)(hb:EX X b m2 g):EX X (.Compare a [.Eq] [b] pos) (m1||m2) (ag hZ m2 f g):=wq (OpR.or D7 (AF hu)) AO ha hb (tF _)
theorem kj(hu:X.A.units+64 < cLine)(ha:EX X a m1 f)(hb:EX X b m2 g):TX X (.Compare a [.Eq] [b] pos) (m1||m2) (cV (ag hZ m2 f g)):=qm (OpR.or D7 (AF hu)) AO ha hb (tF _)
theorem lR(hu:X.A.units+64 < cLine)(ha:EX X a m1 f)(hb:EX X b m2 g):TX X (.Compare a [.NotEq] [b] pos) (m1||m2) (cV (ag jX m2 f g)):=qm (OpR.or GJ (Fh hu)) Fp ha hb (tF _)
theorem AQ{K:PySem.W.Frag}{r r':R2}{op op':PyData→PyData→Option PyData}(k:y9 K r op)(k':y9 K r' op'){σ:oZ}{H:Hp}{Q:VK}(z:rd K (m1||(m2||m3)) (qp op op' m2 m3 f g h) σ H Q):Au r r' (rd K m1 f) (rd K m2 g) (rd K m3 h) σ H Q:=by
 obtain⟨B,E,xs,Xs,res,E',fr,cl,e,q⟩:=z
 obtain⟨⟨s1,E1⟩,e1,e⟩:=Option.bind_eq_some_iff.mp e
 by_cases hb:((m2||m3)&&s1.isBr)=true
 ·rw[if_pos hb]at e;cases e
 rw[if_neg hb]at e
 obtain⟨⟨s2,E2⟩,e2,e⟩:=Option.bind_eq_some_iff.mp e
 by_cases hb2:(m3&&s2.isBr)=true
 ·rw[if_pos hb2]at e;cases e
 rw[if_neg hb2]at e
 obtain⟨d1,l1,e⟩:=Option.bind_eq_some_iff.mp e
 obtain⟨d2,l2,e⟩:=Option.bind_eq_some_iff.mp e
 have n1:(m2||m3)=true→s1.isBr=false:=fun z=>by
  cases hs:s1.isBr with
  |false=>rfl
  |true=>exact absurd (by rw[z,hs];rfl) hb
 have n2:m3=true→s2.isBr=false:=fun z=>by
  cases hs:s2.isBr with
  |false=>rfl
  |true=>exact absurd (by rw[z,hs];rfl) hb2
 refine⟨B,E,xs,Xs,s1,E1,fr,fun z=>cl (by simp[z]),e1,fun v1 H1 fr1=>?_⟩
 refine⟨B,E1,v1::xs,s1::Xs,s2,E2,fr1,fun z=>Calm.cons (cl (by simp[z])) (n1 (by simp[z])),e2,fun v2 H2 ⟨F,A,fr2⟩=>?_⟩
 cases ho:op d1 d2 with
 |none=>rw[ho]at e;cases e
 |some d=>
  rw[ho]at e
  obtain⟨v,hv,kk⟩:=k d1 d2 d v1 v2 H2 (fun z H3=>∃k,z=.bl k∧(if k=true then rd K m3 h σ H3 fun w' H4=>r' v2 w' H4 Q else Q (.bl false) H3)) ho (fr2.look1 l1).1 (fr2.look0 l2).1
  cases d with
  |bool t=>
   cases hv
   refine kk ⟨t,rfl,?_⟩
   cases t with
   |true=>
    rw[if_pos rfl]
    obtain⟨⟨s3,E3⟩,e3,e⟩:=Option.bind_eq_some_iff.mp e
    obtain⟨d2',l2',e⟩:=Option.bind_eq_some_iff.mp e
    obtain⟨d3,l3,e⟩:=Option.bind_eq_some_iff.mp e
    obtain⟨d,ho',e⟩:=Option.map_eq_some_iff.mp e
    cases e
    refine⟨B,E2,v2::v1::xs,s2::s1::Xs,s3,E3,⟨F,A,fr2⟩,fun z=>Calm.cons (Calm.cons (cl (by simp[z])) (n1 (by simp[z]))) (n2 z),e3,fun v3 H3 ⟨F3,A3,fr3⟩=>?_⟩
    obtain⟨v,hv,kk⟩:=k' d2' d3 d v2 v3 H3 Q ho' (fr3.look1 l2').1 (fr3.look0 l3).1
    obtain⟨A4,fr4⟩:=fr3.pop
    exact kk (q v H3 (fr4.res2 ⟨rfl,v,rfl,ql hv⟩))
   |false=>
    rw[if_neg (by decide)]
    cases e
    exact q _ _ (fr2.res2 ⟨rfl,_,rfl,.bl _⟩)
  |none=>cases e
  |int i=>cases e
  |str x=>cases e
  |list xs=>cases e
  |tuple xs=>cases e
  |dict kvs=>cases e
theorem AR{o1 o2:CmpOp}{r r':R2}{op op':PyData→PyData→Option PyData}(ho:OpR X (compareOp o1) r)(ho':OpR X (compareOp o2) r')(k:y9 X.K r op)(k':y9 X.K r' op')(ha:EX X a m1 f)(hb:EX X b m2 g)(hc:EX X c m3 h)
  (hm:lastMarks [o1,o2] [b,c]=false:=by with_unfolding_all rfl):EX X (.Compare a [o1,o2] [b,c] pos) (m1||(m2||m3)) (qp op op' m2 m3 f g h):=cR (Av ho ho' ha hb hc hm) fun _ _ _ z=>AQ k k' z
end
end PL
namespace PL
open PySem L2 Nh
def xL(f g:bC):bC:=fun E=>(f E).bind fun a=>match a.1 with
 |.sh (.bool true)=>g a.2
 |.sh (.bool false)=>some (.sh (.bool false),a.2)
 |_=>none
def jC(f g:mq):mq:=fun E=>(f E).bind fun a=>if a.1 then g a.2 else some (false,a.2)
def lS(f g:mq):mq:=fun E=>(f E).bind fun a=>if a.1 then some (true,a.2)else g a.2
def d0(f:mq):mq:=fun E=>(f E).map fun a=>(!a.1,a.2)
def i_:PyData→Option Bool
 |.none=>some false
 |.bool b=>some b
 |.int i=>some (i != 0)
 |.str x=>if x.length≤1000000 then some ((x.length:Int) != 0)else none
 |.list xs=>some (!xs.isEmpty)
 |.tuple xs=>some (!xs.isEmpty)
 |.dict _=>none
def dw(f:bC):mq:=fun E=>(f E).bind fun a=>match a.1 with
 |.al i=>match a.2[i]? with
  |some (.od kvs)=>some (!kvs.isEmpty,a.2)
  |some s=>(s.val.bind i_).map fun b=>(b,a.2)
  |none=>none
 |s=>(s.val.bind i_).map fun b=>(b,a.2)
section
variable {X:Cx} {a b c:Expr} {rest:List Expr} {m1 m2 m3:Bool} {f g h:bC} {t u:mq} {pos:Pos} {K:PySem.W.Frag}
theorem Fq{op}(h:EX X a m1 f):EX X (.BoolOp op [a] pos) m1 f:=EH h
theorem AS(ha:EX X a m1 f)(hb:EX X (.BoolOp .And (b::rest) pos) m2 g):EX X (.BoolOp .And (a::b::rest) pos) (m1||m2) (xL f g):=by
 refine cR (EI ha hb) fun σ H Q z=>?_
 obtain⟨B,E,xs,Xs,res,E',fr,cl,e,q⟩:=z
 obtain⟨⟨s1,E1⟩,e1,e⟩:=Option.bind_eq_some_iff.mp e
 refine⟨B,E,xs,Xs,s1,E1,fr,fun z=>cl (by simp[z]),e1,fun v1 H1 ⟨F,A,fr1⟩=>?_⟩
 simp only at e
 split at e
 ·obtain⟨r,_⟩:=fr1.look0 (d:=.bool true) rfl
  cases r
  obtain⟨A',fr2⟩:=fr1.pop
  exact⟨true,rfl,(if_pos rfl).mpr ⟨B,E1,xs,Xs,res,E',⟨F,A',fr2⟩,fun z=>cl (by simp[z]),e,q⟩⟩
 ·cases e
  obtain⟨r,_⟩:=fr1.look0 (d:=.bool false) rfl
  cases r
  exact⟨false,rfl,(if_neg (by decide)).mpr (q _ _ ⟨F,A,fr1⟩)⟩
 ·cases e
theorem xM(ha:TX X a m1 t):WX X (.BoolOp .And [a] pos) m1 t:=CF ha
theorem ou(ha:TX X a m1 t):WX X (.BoolOp .Or [a] pos) m1 t:=EE ha
theorem AT(ha:TX X a m1 t)(hb:WX X (.BoolOp .And (b::rest) pos) m2 u):WX X (.BoolOp .And (a::b::rest) pos) (m1||m2) (jC t u):=by
 refine AJ (EF ha hb) fun σ H Q z=>?_
 obtain⟨B,E,xs,Xs,res,E',fr,cl,e,q⟩:=z
 obtain⟨⟨b1,E1⟩,e1,e⟩:=Option.bind_eq_some_iff.mp e
 refine⟨B,E,xs,Xs,b1,E1,fr,fun z=>cl (by simp[z]),e1,fun H1 fr1=>?_⟩
 cases b1 with
 |true=>exact(if_pos rfl).mpr ⟨B,E1,xs,Xs,res,E',fr1,fun z=>cl (by simp[z]),e,q⟩
 |false=>cases e;exact(if_neg (by decide)).mpr (q _ fr1)
theorem qr(ha:TX X a m1 t)(hb:WX X (.BoolOp .Or (b::rest) pos) m2 u):WX X (.BoolOp .Or (a::b::rest) pos) (m1||m2) (lS t u):=by
 refine AJ (Gs ha hb) fun σ H Q z=>?_
 obtain⟨B,E,xs,Xs,res,E',fr,cl,e,q⟩:=z
 obtain⟨⟨b1,E1⟩,e1,e⟩:=Option.bind_eq_some_iff.mp e
 refine⟨B,E,xs,Xs,b1,E1,fr,fun z=>cl (by simp[z]),e1,fun H1 fr1=>?_⟩
 cases b1 with
 |true=>cases e;exact(if_pos rfl).mpr (q _ fr1)
 |false=>exact(if_neg (by decide)).mpr ⟨B,E1,xs,Xs,res,E',fr1,fun z=>cl (by simp[z]),e,q⟩
theorem u8(h:WX X a m1 t):TX X a m1 t:=PW.pt h
theorem jD(ha:TX X a m1 t):TX X (.UnaryOp .Not a pos) m1 (d0 t):=by
 refine wo (EG ha) fun σ H Q z=>?_
 obtain⟨B,E,xs,Xs,res,E',fr,cl,e,q⟩:=z
 obtain⟨⟨b1,E1⟩,e1,e⟩:=Option.map_eq_some_iff.mp e
 cases e
 exact⟨B,E,xs,Xs,b1,E1,fr,cl,e1,fun H1 fr1=>q _ fr1⟩
theorem Fr{H:Hp}{v:V}{d:PyData}{b:Bool}(r:Rp K H v d)(e:i_ d=some b):Aw K v H b:=by
 cases r with
 |non=>cases e;rfl
 |bl b=>cases e;rfl
 |int i=>cases e;rfl
 |str x=>
  simp only[i_]at e
  split at e
  ·rename_i hl
   cases e
   exact⟨i9 hl,rfl⟩
  ·cases e
 |lst h r=>cases e;exact .inl ⟨_,h,by cases r <;> rfl⟩
 |tup h r=>cases e;exact .inr (.inl ⟨_,h,by cases r <;> rfl⟩)
 |dct h r=>cases e
theorem fT(ha:EX X a m1 f)(he:∀whole,isTrue a X.env whole=(do let v ←whole;standAt a.pos;holding [v] (truthy v)):=by exact fun _=>rfl):TX X a m1 (dw f):=by
 refine wo (Ax ha he) fun σ H Q z=>?_
 obtain⟨B,E,xs,Xs,res,E',fr,cl,e,q⟩:=z
 obtain⟨⟨s,E1⟩,e1,e⟩:=Option.bind_eq_some_iff.mp e
 refine⟨B,E,xs,Xs,s,E1,fr,cl,e1,fun v1 H1 ⟨F,A,fr1⟩=>?_⟩
 have key:∀d,look E1 s=some d→(i_ d).map (fun b=>(b,E1))=some (res,E')→∃k,Aw X.K v1 H1 k∧Q k H1:=fun d l e=>by
  obtain⟨b,e',z⟩:=Option.map_eq_some_iff.mp e
  cases z
  obtain⟨A',fr2⟩:=fr1.pop
  exact⟨_,Fr (fr1.look0 l).1 e',q _ ⟨F,A',fr2⟩⟩
 have kv:(s.val.bind i_).map (fun b=>(b,E1))=some (res,E')→(∀i,s≠ .al i)→∃k,Aw X.K v1 H1 k∧Q k H1:=fun e na=>by
  obtain⟨b,e',z⟩:=Option.map_eq_some_iff.mp e
  obtain⟨d,e1,e2⟩:=Option.bind_eq_some_iff.mp e'
  refine key d ?_ (by rw[e2];exact congrArg some z)
  cases s <;> first |exact e1 |exact absurd rfl (na _)
 simp only at e
 split at e
 ·rename_i i
  split at e
  ·rename_i kvs ei
   cases e
   obtain⟨v',A1,ev,rfl,w,ew,hw⟩:=fr1.ext (k:=0) rfl
   cases ev;cases ew
   obtain⟨o,A1,eo,l,us,A2,rfl,_,hl,r⟩:=fr1.var ei
   rw[hw]at eo
   cases eo
   obtain⟨A',fr2⟩:=fr1.pop
   exact⟨_,.inr (.inr ⟨_,hl,by cases us <;> cases kvs <;> first |rfl |exact False.elim r⟩),q _ ⟨F,A',fr2⟩⟩
  ·rename_i s' _ ei
   obtain⟨b,e',z⟩:=Option.map_eq_some_iff.mp e
   obtain⟨d,e1,e2⟩:=Option.bind_eq_some_iff.mp e'
   exact key d (by simp[look,ei,e1]) (by rw[e2];exact congrArg some z)
  ·cases e
 ·rename_i na
  exact kv e na
end
def ak:uM:=fun E=>some ([],E)
def ae(m2:Bool)(f:bC)(g:uM):uM:=fun E=>(f E).bind fun a=>if m2&&a.1.isBr then none else (g a.2).map fun b=>(a.1::b.1,b.2)
def aZ:pB:=fun E=>some ([],E)
def aV(f:bC)(g:pB):pB:=fun E=>(f E).bind fun a=>(frz a.2 a.1).bind fun b=>(g b.2).map fun c=>(b.1::c.1,c.2)
def gX(f:pB):bC:=fun E=>(f E).bind fun a=>if a.1.length≤1000000 then some (.sh (.tuple a.1),a.2)else none
def bD(f:pB):bC:=fun E=>(f E).bind fun a=>if a.1.length≤1000000 then some (.ow a.1,a.2)else none
section
variable {X:Cx} {e:Expr} {es:List Expr} {m1 m2:Bool} {f:bC} {g:uM} {d:pB} {pos:Pos} {K:PySem.W.Frag}
theorem aq:AX X [] false ak:=by
 refine tT iY fun σ H Q z=>?_
 obtain⟨B,E,xs,Xs,res,E',fr,cl,e,q⟩:=z
 cases e
 exact q [] H rfl fr
theorem ai(ha:EX X e m1 f)(hr:AX X es m2 g)(hs:starEach (e::es) X.env=(false,eval e X.env)::starEach es X.env:=by rfl):AX X (e::es) (m1||m2) (ae m2 f g):=by
 refine tT (gc ha hr hs) fun σ H Q z=>?_
 obtain⟨B,E,xs,Xs,res,E',fr,cl,e,q⟩:=z
 obtain⟨⟨s,E1⟩,e1,e⟩:=Option.bind_eq_some_iff.mp e
 by_cases hb:(m2&&s.isBr)=true
 ·rw[if_pos hb]at e;cases e
 rw[if_neg hb]at e
 obtain⟨⟨rs,E2⟩,e2,e⟩:=Option.map_eq_some_iff.mp e
 cases e
 refine⟨B,E,xs,Xs,s,E1,fr,fun z=>cl (by simp[z]),e1,fun v1 H1 fr1=>?_⟩
 refine⟨B,E1,v1::xs,s::Xs,rs,E2,fr1,fun z=>Calm.cons (cl (by simp[z])) ?_,e2,fun vs H2 hl fr2=>?_⟩
 ·cases hs:s.isBr with
  |false=>rfl
  |true=>exact absurd (by simp[z,hs]) hb
 ·exact q (v1::vs) H2 (by simp[hl]) (by simpa using fr2)
theorem cB:DX X [] false aZ:=by
 refine tT iY fun σ H Q z=>?_
 obtain⟨B,E,xs,Xs,res,E',fr,cl,e,q⟩:=z
 cases e
 exact q [] H rfl fr
theorem cu(ha:EX X e m1 f)(hr:DX X es m2 d)(hs:starEach (e::es) X.env=(false,eval e X.env)::starEach es X.env:=by rfl):DX X (e::es) (m1||m2) (aV f d):=by
 refine tT (gc ha hr hs) fun σ H Q z=>?_
 obtain⟨B,E,xs,Xs,res,E',fr,cl,e,q⟩:=z
 obtain⟨⟨s,E1⟩,e1,e⟩:=Option.bind_eq_some_iff.mp e
 obtain⟨⟨d1,E2⟩,e2,e⟩:=Option.bind_eq_some_iff.mp e
 obtain⟨⟨rs,E3⟩,e3,e⟩:=Option.map_eq_some_iff.mp e
 cases e
 refine⟨B,E,xs,Xs,s,E1,fr,fun z=>cl (by simp[z]),e1,fun v1 H1 ⟨F,A,fr1⟩=>?_⟩
 obtain⟨F2,A2,fr2⟩:=fr1.frz0 e2
 refine⟨B,E2,v1::xs,.sh d1::Xs,rs,E3,⟨F2,A2,fr2⟩,fun z=>Calm.cons (cl (by simp[z])) rfl,e3,fun vs H2 hl fr2=>?_⟩
 exact q (v1::vs) H2 (by simp[hl]) (by simpa using fr2)
theorem FrF.shsR{B F:Hp}{σ:oZ}{H:Hp}{E:List Sl}{xs:List V}{Xs:List Sl}:∀{us:List V} {es:List PyData} {A:List Addr},us.length=es.length→FrF K B F A σ H E (us++xs) (es.map .sh++Xs)→RpA K F us es∧∃A',FrF K B F A' σ H E xs Xs
 |[],[],A,_,h=>⟨.nil,A,h⟩
 |u::us,e::es,A,hl,h=>by
  obtain⟨v,A1,ev,rfl,w,ew,r⟩:=h.ext (k:=0) rfl
  cases ev;cases ew
  obtain⟨A',h'⟩:=FrF.pop (xs:=us++xs) (Xs:=es.map .sh++Xs) h
  obtain⟨r',q⟩:=FrF.shsR (by simpa using hl) h'
  exact⟨.cons r r',q⟩
 |[],_::_,_,e,_=>by cases e
 |_::_,[],_,e,_=>by cases e
theorem FrF.shs{B F:Hp}{σ:oZ}{H:Hp}{E:List Sl}{xs:List V}{Xs:List Sl}{us:List V}{es:List PyData}{A:List Addr}(hl:us.length=es.length)(h:FrF K B F A σ H E (us.reverse++xs) (es.reverse.map .sh++Xs)):RpA K F us es∧∃A',FrF K B F A' σ H E xs Xs:=by
 obtain⟨r,q⟩:=FrF.shsR (by simpa using hl) h
 have:=r.rev
 rw[List.reverse_reverse,List.reverse_reverse]at this
 exact⟨this,q⟩
theorem m5{x1}(h:DX X es m1 d):EX X (.Tuple es x1 pos) m1 (gX d):=by
 refine cR (E_ h) fun σ H Q z=>?_
 obtain⟨B,E,xs,Xs,res,E',fr,cl,e,q⟩:=z
 obtain⟨⟨ds,E1⟩,e1,e⟩:=Option.bind_eq_some_iff.mp e
 simp only at e
 split at e
 ·rename_i hl
  cases e
  refine⟨B,E,xs,Xs,ds,_,fr,cl,e1,fun vs H1 hv ⟨F,A,fr1⟩=>?_⟩
  obtain⟨r,A',fr2⟩:=fr1.shs hv
  exact⟨i9 (by omega),fun p hp=>q _ _ ⟨_,_,fr2.newt r hp⟩⟩
 ·cases e
theorem eJ(h:DX X es m1 d):EX X (.List es pos) m1 (bD d):=by
 refine cR (Fa h) fun σ H Q z=>?_
 obtain⟨B,E,xs,Xs,res,E',fr,cl,e,q⟩:=z
 obtain⟨⟨ds,E1⟩,e1,e⟩:=Option.bind_eq_some_iff.mp e
 simp only at e
 split at e
 ·rename_i hl
  cases e
  refine⟨B,E,xs,Xs,ds,_,fr,cl,e1,fun vs H1 hv ⟨F,A,fr1⟩=>?_⟩
  obtain⟨r,A',fr2⟩:=fr1.shs hv
  exact⟨i9 (by omega),fun p hp=>q _ _ ⟨_,_,fr2.newl r hp⟩⟩
 ·cases e
end
def y_(ds:List PyData)(lo hi:Option Int):List PyData:=(ds.drop (HT.pR ds.length 0 lo)).take (HT.pR ds.length ds.length hi - HT.pR ds.length 0 lo)
def jf:P2:=fun E s1 s2=>(look E s1).bind fun d1=>(look E s2).bind fun d2=>match d2 with
 |.int i=>match d1 with
  |.list ds=>(atI ds i).map fun d=>(if gJ E s1&& !dL d then .br d else .sh d,E)
  |.tuple ds=>(atI ds i).map fun d=>(if gJ E s1&& !dL d then .br d else .sh d,E)
  |.str z=>if z.length≤1000000 then (atI z.cps.toList i).map fun c=>(.sh (.str ⟨#[c]⟩),E)else none
  |_=>none
 |_=>none
section
variable {K:PySem.W.Frag} {H:Hp}
theorem RpA.atI{vs:List V}{ds:List PyData}{i:Int}{d:PyData}(h:RpA K H vs ds)(e:L2.atI ds i=some d):∃v,L2.atI vs i=some v∧Rp K H v d:=by
 unfold L2.atI at e ⊢
 obtain⟨j,e1,e2⟩:=Option.bind_eq_some_iff.mp e
 obtain⟨v,ev,r⟩:=h.get e2
 exact⟨v,by rw[h.len,e1];exact ev,r⟩
theorem FrF.item{B F:Hp}{A:List Addr}{σ:oZ}{E:List Sl}{xs:List V}{Xs:List Sl}{v1 v2 v:V}{s1 s2:Sl}{d:PyData}(fr:FrF K B F A σ H E (v2::v1::xs) (s2::s1::Xs))(r:Rp K H v d)(f:gJ E s1=false→Rp K F v d):
  Frm K B σ H E (v::xs) ((if gJ E s1&& !dL d then .br d else .sh d)::Xs):=by
 by_cases hc:(gJ E s1&& !dL d)=true
 ·rw[if_pos hc]
  exact fr.res2 ⟨rfl,v,rfl,r⟩
 ·rw[if_neg hc]
  refine fr.res2 ⟨rfl,v,rfl,?_⟩
  cases hh:gJ E s1 with
  |false=>exact f hh
  |true=>
   rw[hh]at hc
   exact fr.cold r (by simpa using hc)
theorem Fs:lN K (II K) jf:=by
 intro B F A σ H E xs Xs v1 v2 s1 s2 res E' Q fr e q
 obtain⟨d1,e1,e⟩:=Option.bind_eq_some_iff.mp e
 obtain⟨d2,e2,e⟩:=Option.bind_eq_some_iff.mp e
 obtain⟨r1,f1⟩:=fr.look1 e1
 have r2:=(fr.look0 e2).1
 split at e
 ·cases r2
  split at e
  ·obtain⟨d,ed,e⟩:=Option.map_eq_some_iff.mp e
   cases e
   cases hh:gJ E s1 with
   |false=>
    obtain⟨a,vs,rfl,h1,h2⟩:=f1 hh
    obtain⟨v,ev,rv⟩:=h2.atI ed
    have z:=fr.item (rv.same fr.fh) fun _=>rv
    rw[hh]at z q
    exact .inl ⟨_,_,_,v,rfl,rfl,h1,ev,q _ _ z⟩
   |true=>
    cases r1 with
    |lst h1 h2=>
     obtain⟨v,ev,rv⟩:=h2.atI ed
     have z:=fr.item rv fun h=>absurd (hh.symm.trans h) (by decide)
     rw[hh]at z q
     exact .inl ⟨_,_,_,v,rfl,rfl,h1,ev,q _ _ z⟩
  ·obtain⟨d,ed,e⟩:=Option.map_eq_some_iff.mp e
   cases e
   cases hh:gJ E s1 with
   |false=>
    have h0:Rp K F v1 _:=f1 hh
    cases h0 with
    |tup h1 h2=>
     obtain⟨v,ev,rv⟩:=h2.atI ed
     have z:=fr.item (rv.same fr.fh) fun _=>rv
     rw[hh]at z q
     exact .inr (.inl ⟨_,_,_,v,rfl,rfl,fr.fh.tup h1,ev,q _ _ z⟩)
   |true=>
    cases r1 with
    |tup h1 h2=>
     obtain⟨v,ev,rv⟩:=h2.atI ed
     have z:=fr.item rv fun h=>absurd (hh.symm.trans h) (by decide)
     rw[hh]at z q
     exact .inr (.inl ⟨_,_,_,v,rfl,rfl,h1,ev,q _ _ z⟩)
  ·split at e
   ·rename_i hl
    obtain⟨c,ec,e⟩:=Option.map_eq_some_iff.mp e
    cases e;cases r1
    exact .inr (.inr ⟨_,_,c,rfl,rfl,i9 hl,ec,q _ _ (fr.res2 ⟨rfl,_,rfl,.str _⟩)⟩)
   ·cases e
  ·cases e
 ·cases e
end
end PL
namespace L2
open PySem PySem.Spec PyProof.Rows
section
variable {κ:Type} [DecidableEq κ]
def pD(kvs:List (κ×V))(k:κ):Option V:=(kvs.find? fun kv=>decide (kv.1=k)).map (·.2)
def u9(kvs:List (κ×V))(k:κ)(v:V):List (κ×V):=
 if (kvs.any fun kv=>decide (kv.1=k))=true then kvs.map (fun kv=>if kv.1=k then (kv.1,v)else kv)else kvs++[(k,v)]
theorem qu{p:κ×V}{r:List (κ×V)}{k:κ}(e:p.1=k):pD (p::r) k=some p.2:=by simp[pD,List.find?_cons,e]
theorem qv{p:κ×V}{r:List (κ×V)}{k:κ}(e:¬p.1=k):pD (p::r) k=pD r k:=by simp[pD,List.find?_cons,e]
theorem u_(k:κ):∀kvs:List (κ×V),(kvs.any fun kv=>decide (kv.1=k))=(pD kvs k).isSome
 |[]=>rfl
 |p::r=>by
  rw[List.any_cons]
  by_cases e:p.1=k
  ·simp only[qu e,decide_eq_true e,Bool.true_or,Option.isSome_some]
  ·rw[qv e,decide_eq_false e,Bool.false_or];exact u_ k r
theorem RelO.isSome_eq{o:Option V}{u:Option Value}(r:RelO o u):o.isSome=u.isSome:=by
 cases o with
 |none=>cases u with
  |none=>rfl
  |some _=>exact(show False from r).elim
 |some _=>cases u with
  |none=>exact(show False from r).elim
  |some _=>rfl
theorem KV.val{kvs:List (κ×V)}{vs:List (κ×Value)}(r:KV kvs vs)(k:κ):RelO (pD kvs k) (valueAt vs k):=by
 unfold KV at r
 induction r with
 |nil=>exact True.intro
 | @cons p q ps qs h t ih=>
  obtain⟨h1,h2⟩:=h
  by_cases e:p.1=k
  ·have e':q.1=k:=h1.symm.trans e
   have b:valueAt (q::qs) k=some q.2:=by simp[valueAt,List.find?_cons,e']
   rw[qu e,b];exact h2
  ·have e':¬q.1=k:=fun z=>e (h1.trans z)
   have b:valueAt (q::qs) k=valueAt qs k:=by simp[valueAt,List.find?_cons,e']
   rw[qv e,b];exact ih
theorem KV.any{kvs:List (κ×V)}{vs:List (κ×Value)}(r:KV kvs vs)(k:κ):(kvs.any fun kv=>decide (kv.1=k))=vs.any fun kv=>decide (kv.1=k):=by
 unfold KV at r
 induction r with
 |nil=>rfl
 |cons h t ih=>rw[List.any_cons,List.any_cons,ih,h.1]
theorem KV.repl{kvs:List (κ×V)}{vs:List (κ×Value)}(r:KV kvs vs)(k:κ){y:V}{u:Value}(ry:RelV y u):
  KV (kvs.map fun kv=>if kv.1=k then (kv.1,y)else kv) (vs.map fun kv=>if kv.1=k then (kv.1,u)else kv):=by
 unfold KV at r ⊢
 induction r with
 |nil=>exact .nil
 | @cons p q ps qs h t ih=>
  rw[List.map_cons,List.map_cons]
  refine .cons ?_ ih
  obtain⟨h1,h2⟩:=h
  by_cases e:p.1=k
  ·rw[if_pos e,if_pos (h1.symm.trans e)];exact⟨h1,ry⟩
  ·rw[if_neg e,if_neg (fun z=>e (h1.trans z))];exact⟨h1,h2⟩
theorem KV.put{kvs:List (κ×V)}{vs:List (κ×Value)}(r:KV kvs vs)(k:κ){y:V}{u:Value}(ry:RelV y u):KV (u9 kvs k y) (stored vs k u):=by
 unfold u9 stored
 rw[r.any k]
 by_cases e:(vs.any fun kv=>decide (kv.1=k))=true
 ·rw[if_pos e,if_pos e];exact r.repl k ry
 ·rw[if_neg e,if_neg e];exact Paired.snoc r ⟨rfl,ry⟩
theorem KV.keys{kvs:List (κ×V)}{vs:List (κ×Value)}(r:KV kvs vs):kvs.map (·.1)=vs.map (·.1):=by
 unfold KV at r
 induction r with
 |nil=>rfl
 |cons h t ih=>rw[List.map_cons,List.map_cons,ih,h.1]
end
abbrev KT(H:Hp):List (List iP×V)→List (List iP×Addr×Value)→Prop:=Paired fun p q=>p.1=q.1∧H q.2.1=some (.tup (p.1.map kV))∧RelV p.2 q.2.2
theorem KT.val{H:Hp}{kvs:List (List iP×V)}{xs:List (List iP×Addr×Value)}(r:KT H kvs xs)(k:List iP):RelO (pD kvs k) ((atKey xs k).map (·.2)):=by
 induction r with
 |nil=>exact True.intro
 | @cons p q ps qs h t ih=>
  obtain⟨h1,_,h2⟩:=h
  by_cases e:p.1=k
  ·have e':q.1=k:=h1.symm.trans e
   have b:atKey (q::qs) k=some q.2:=by simp[atKey,List.find?_cons,e']
   rw[qu e,b];exact h2
  ·have e':¬q.1=k:=fun z=>e (h1.trans z)
   have b:atKey (q::qs) k=atKey qs k:=by simp[atKey,List.find?_cons,e']
   rw[qv e,b];exact ih
theorem KT.repl{H:Hp}{kvs:List (List iP×V)}{xs:List (List iP×Addr×Value)}(r:KT H kvs xs)(k:List iP){y:V}{u:Value}(ry:RelV y u):
  KT H (kvs.map fun kv=>if kv.1=k then (kv.1,y)else kv) (xs.map (putAt k u)):=by
 induction r with
 |nil=>exact .nil
 | @cons p q ps qs h t ih=>
  rw[List.map_cons,List.map_cons]
  refine .cons ?_ ih
  obtain⟨h1,h2,h3⟩:=h
  unfold putAt
  by_cases e:p.1=k
  ·rw[if_pos e,if_pos (h1.symm.trans e)];exact⟨h1,h2,ry⟩
  ·rw[if_neg e,if_neg (fun z=>e (h1.trans z))];exact⟨h1,h2,h3⟩
theorem KT.put{H:Hp}{kvs:List (List iP×V)}{xs:List (List iP×Addr×Value)}(r:KT H kvs xs)(k:List iP){b:Addr}{y:V}{u:Value}(hb:H b=some (.tup (k.map kV)))(ry:RelV y u):
  KT H (u9 kvs k y) (storedH xs k b u):=by
 have e:(kvs.any fun kv=>decide (kv.1=k))=(atKey xs k).isSome:=by
  rw[u_,(r.val k).isSome_eq,Option.isSome_map]
 unfold u9 storedH
 rw[e]
 by_cases q:(atKey xs k).isSome=true
 ·rw[if_pos q,if_pos q];exact r.repl k ry
 ·rw[if_neg q,if_neg q];exact Paired.snoc r ⟨rfl,hb,ry⟩
section
variable {P:Program} {w:World} {H:Hp} {h:Heap} {a:Addr}
theorem G4{u:HO}(ok:HOk P w H h)(e:Rd H a u):ObjOk P w H h a u:=e.ok ok
theorem G5{kvs:List (iP×V)}(ok:HOk P w H h)(e:Rd H a (.dK kvs)):kvs.length≤sizeLine∧(a == sysModules)=false∧∃vs,KV kvs vs∧h.DictOf (pQ P w) a vs:=
 show ObjOk P w H h a (.dK kvs)from G4 ok e
end
def DGet(H:Hp)(a:Addr)(y:V)(r:Option V):Prop:=
 (∃kvs k,Rd H a (.dK kvs)∧y=kV k∧r=pD kvs k)∨∃kvs k b,Rd H a (.dT kvs)∧y=.ref b∧H b=some (.tup (k.map kV))∧r=pD kvs k
def DPut(H:Hp)(a:Addr)(y v:V)(H':Hp):Prop:=
 (∃kvs k,H a=some (.dK kvs)∧y=kV k∧kvs.length < sizeLine∧H'=fS H a (.dK (u9 kvs k v)))∨
 ∃kvs k b,H a=some (.dT kvs)∧y=.ref b∧H b=some (.tup (k.map kV))∧kvs.length < sizeLine∧H'=fS H a (.dT (u9 kvs k v))
theorem DGet.k{H:Hp}{a:Addr}{kvs:List (iP×V)}{k:iP}(e:H a=some (.dK kvs)):DGet H a (kV k) (pD kvs k):=.inl ⟨kvs,k,.inl e,rfl,rfl⟩
theorem DGet.t{H:Hp}{a b:Addr}{kvs:List (List iP×V)}{k:List iP}(e:H a=some (.dT kvs))(eb:H b=some (.tup (k.map kV))):DGet H a (.ref b) (pD kvs k):=.inr ⟨kvs,k,b,.inl e,rfl,eb,rfl⟩
theorem DPut.k{H:Hp}{a:Addr}{kvs:List (iP×V)}{k:iP}{v:V}(e:H a=some (.dK kvs))(hl:kvs.length < sizeLine):DPut H a (kV k) v (fS H a (.dK (u9 kvs k v))):=.inl ⟨kvs,k,e,rfl,hl,rfl⟩
theorem DPut.t{H:Hp}{a b:Addr}{kvs:List (List iP×V)}{k:List iP}{v:V}(e:H a=some (.dT kvs))(eb:H b=some (.tup (k.map kV)))(hl:kvs.length < sizeLine):
  DPut H a (.ref b) v (fS H a (.dT (u9 kvs k v))):=.inr ⟨kvs,k,b,e,rfl,eb,hl,rfl⟩
structure M1 (X:Cx) (o:Expr) (m:Str) (apos:Pos) (e:Expr) (cpos:Pos):Prop where
 base:attributeBase o m X.env (eval o X.env)=eval o X.env
 few:((backTo cpos (starEach [e] X.env)).all (fun x=> !x.1)&&(backToKw cpos (keywordEach [] X.env)).all (fun x=>x.1.isSome)
  &&decide (([e]:List Expr).length+([]:List Keyword).length+(if ([]:List Keyword).isEmpty then 0 else 1) < 30))=true
 line:(apos.endLine == cpos.line)=true
 trees:backTo cpos (starEach [e] X.env)=[(false,eval e X.env)]
end L2
namespace PL
open PySem L2 Nh
theorem h7{X:Cx}{a b:Expr}{m1 m2:Bool}{f g:bC}{pos:Pos}(ha:EX X a m1 f)(hb:EX X b m2 g)(hs:xv b:=by exact fun _ _=>rfl):EX X (.Subscript a b pos) (m1||m2) (ag jf m2 f g):=cR (GR Fd ha hb hs) fun _ _ _ h=>tU Fs h
abbrev Ft:=List Sl→Option (Option Int×List Sl)
def ro(K:PySem.W.Frag)(m:Bool)(f:Ft):TO:=fun σ H Q=>∃B E xs Xs o E',Frm K B σ H E xs Xs∧(m=true→Calm Xs)∧f E=some (o,E')∧∀H',Frm K B σ H' E' xs Xs→Q o H'
def OX(X:Cx)(e:Option Expr)(m:Bool)(f:Ft):Prop:=PO X e (ro X.K m f)
def jY:Ft:=fun E=>some (none,E)
def eI(f:bC):Ft:=fun E=>(f E).bind fun a=>match look a.2 a.1 with
 |some (.int i)=>some (some i,a.2)
 |_=>none
section
variable {X:Cx} {e:Expr} {lo hi:Option Expr} {m1 m2 m3:Bool} {f:bC} {g h:Ft} {pos p2:Pos} {K:PySem.W.Frag}
theorem AU{e:Option Expr}{t t':TO}(h:PO X e t)(k:∀σ H Q,t' σ H Q→t σ H Q):PO X e t':=fun pins s σ H Q I q=>h pins s σ H Q I (k σ H Q q)
theorem nC:OX X none false jY:=AU CU fun σ H Q z=>by
 obtain⟨B,E,xs,Xs,res,E',fr,cl,e,q⟩:=z
 cases e
 exact q _ fr
theorem jg(he:EX X e m1 f):OX X (some e) m1 (eI f):=AU (CV he) fun σ H Q z=>by
 obtain⟨B,E,xs,Xs,res,E',fr,cl,e,q⟩:=z
 obtain⟨⟨s,E1⟩,e1,e⟩:=Option.bind_eq_some_iff.mp e
 refine⟨B,E,xs,Xs,s,E1,fr,cl,e1,fun v1 H1 ⟨F,A,fr1⟩=>?_⟩
 simp only at e
 split at e
 ·rename_i i l
  cases e
  have r:=(fr1.look0 l).1
  cases r
  obtain⟨A',fr2⟩:=fr1.pop
  exact⟨i,rfl,q _ ⟨F,A',fr2⟩⟩
 ·cases e
theorem RpA.cut{F:Hp}{vs:List V}{ds:List PyData}(h:RpA K F vs ds)(lo hi:Option Int):RpA K F (yT vs lo hi) (y_ ds lo hi):=by
 unfold yT y_
 rw[h.len]
 exact(h.drop _).take _
end
def cb(E:List Sl):List Sl→Option (List PyData)
 |[]=>some []
 |s::ss=>(look E s).bind fun d=>(cb E ss).map fun ds=>d::ds
theorem lookA_iff{E:List Sl}:∀{ss:List Sl} {ds:List PyData},cb E ss=some ds↔Paired (fun s d=>look E s=some d) ss ds
 |[],ds=>⟨fun h=>by cases h;exact .nil,fun h=>by cases h;rfl⟩
 |s::ss,ds=>by
  constructor
  ·intro h
   obtain⟨d,h1,h⟩:=Option.bind_eq_some_iff.mp h
   obtain⟨es,h2,h⟩:=Option.map_eq_some_iff.mp h
   cases h
   exact .cons h1 (lookA_iff.mp h2)
  ·intro h
   cases h with
   |cons h1 h2=>simp[cb,h1,lookA_iff.mpr h2]
theorem za{E:List Sl}{ss:List Sl}{ds:List PyData}(h:cb E ss=some ds):cb E ss.reverse=some ds.reverse:=lookA_iff.mpr (m4 (lookA_iff.mp h))
section
variable {X:Cx} {K:PySem.W.Frag} {B F:Hp} {σ:oZ} {H:Hp} {E:List Sl} {xs:List V} {Xs:List Sl}
theorem FrF.looksR:∀{us:List V} {ts:List Sl} {es:List PyData} {A:List Addr},us.length=ts.length→FrF K B F A σ H E (us++xs) (ts++Xs)→cb E ts=some es→RpA K H us es∧∃A',FrF K B F A' σ H E xs Xs
 |[],[],es,A,_,h,e=>by cases e;exact⟨.nil,A,h⟩
 |u::us,t::ts,es,A,hl,h,e=>by
  obtain⟨d,h1,e⟩:=Option.bind_eq_some_iff.mp e
  obtain⟨es',h2,e⟩:=Option.map_eq_some_iff.mp e
  cases e
  have r:=(FrF.look0 (xs:=us++xs) (Xs:=ts++Xs) h h1).1
  obtain⟨A',h'⟩:=FrF.pop (xs:=us++xs) (Xs:=ts++Xs) h
  obtain⟨r',q⟩:=FrF.looksR (by simpa using hl) h' h2
  exact⟨.cons r r',q⟩
 |[],_::_,_,_,e,_,_=>by cases e
 |_::_,[],_,_,e,_,_=>by cases e
theorem FrF.looks{us:List V}{ts:List Sl}{es:List PyData}{A:List Addr}(hl:us.length=ts.length)(h:FrF K B F A σ H E (us.reverse++xs) (ts.reverse++Xs))(e:cb E ts=some es):RpA K H us es∧∃A',FrF K B F A' σ H E xs Xs:=by
 obtain⟨r,q⟩:=FrF.looksR (by simpa using hl) h (za e)
 have:=r.rev
 rw[List.reverse_reverse,List.reverse_reverse]at this
 exact⟨this,q⟩
end
def AV(K:PySem.W.Frag)(r:List V→Hp→VK→Prop)(op:List PyData→Option PyData):Prop:=∀(ds:List PyData) (d:PyData) (vs:List V) (H:Hp) (Q:VK),op ds=some d→RpA K H vs ds→∃v,Ec d=some v∧(Q v H→r vs H Q)
def bY(op:List PyData→Option PyData)(g:uM):bC:=fun E=>(g E).bind fun a=>(cb a.2 a.1).bind fun ds=>(op ds).map fun d=>(.sh d,a.2)
theorem Fu{K:PySem.W.Frag}{r:List V→Hp→VK→Prop}{op:List PyData→Option PyData}(hp:AV K r op){m:Bool}{g:uM}{σ:oZ}{H:Hp}{Q:VK}(h:rd K m (bY op g) σ H Q):H_ r (ra K m g) σ H Q:=by
 obtain⟨B,E,xs,Xs,res,E',fr,cl,e,q⟩:=h
 obtain⟨⟨rs,E1⟩,e1,e⟩:=Option.bind_eq_some_iff.mp e
 obtain⟨ds,e2,e⟩:=Option.bind_eq_some_iff.mp e
 obtain⟨d,e3,e⟩:=Option.map_eq_some_iff.mp e
 cases e
 refine⟨B,E,xs,Xs,rs,E1,fr,cl,e1,fun vs H1 hl ⟨F,A,fr1⟩=>?_⟩
 obtain⟨r1,A',fr2⟩:=fr1.looks hl e2
 obtain⟨v,hv,k⟩:=hp ds d vs H1 Q e3 r1
 exact k (q v H1 ⟨F,A',fr2.push ⟨rfl,v,rfl,ql hv⟩⟩)
def eK:List PyData→Option PyData
 |[.list xs]=>some (.int xs.length)
 |[.tuple xs]=>some (.int xs.length)
 |[.str z]=>if z.length≤1000000 then some (.int z.length)else none
 |_=>none
def rL:List PyData→Option PyData
 |[.int i]=>some (.int (if i < 0 then -i else i))
 |_=>none
theorem RpA.one{K:PySem.W.Frag}{H:Hp}{vs:List V}{d:PyData}(h:RpA K H vs [d]):∃v,vs=[v]∧Rp K H v d:=by
 cases h with
 |cons h t=>cases t;exact⟨_,rfl,h⟩
theorem RpA.two{K:PySem.W.Frag}{H:Hp}{vs:List V}{d e:PyData}(h:RpA K H vs [d,e]):∃v u,vs=[v,u]∧Rp K H v d∧Rp K H u e:=by
 cases h with
 |cons h t=>
  obtain⟨u,rfl,r⟩:=t.one
  exact⟨_,_,rfl,h,r⟩
section
variable {X:Cx} {e:Expr} {es:List Expr} {m1:Bool} {g:uM} {p pos:Pos} {K:PySem.W.Frag}
abbrev G6(K:PySem.W.Frag):List V→Hp→VK→Prop:=fun xs H Q=>(∃p ys,xs=[.ref p]∧(SqL K H p ys∨SqT K H p ys)∧Q (.int ys.length) H)∨(∃z,xs=[.str z]∧z.length≤sizeLine∧Q (.int z.length) H)
theorem Df:AV K (G6 K) eK:=fun ds d vs H Q e r=>by
 unfold eK at e
 split at e
 ·cases e
  obtain⟨v,rfl,r'⟩:=r.one
  cases r' with
  |lst h1 h2=>exact⟨_,rfl,fun q=>.inl ⟨_,_,rfl,.inl h1,by rw[h2.len];exact q⟩⟩
 ·cases e
  obtain⟨v,rfl,r'⟩:=r.one
  cases r' with
  |tup h1 h2=>exact⟨_,rfl,fun q=>.inl ⟨_,_,rfl,.inr h1,by rw[h2.len];exact q⟩⟩
 ·split at e
  ·rename_i hl
   cases e
   obtain⟨v,rfl,r'⟩:=r.one
   cases r'
   exact⟨_,rfl,fun q=>.inr ⟨_,rfl,i9 hl,q⟩⟩
  ·cases e
 ·cases e
theorem nD {x:Str} {id:String} {r:List V→Hp→VK→Prop} {op:List PyData→Option PyData} (hp:AV X.K r op) (hc:CallR X (.builtin id) r) (hg:Gl X x) (hm:X.mg x=none) (hv:bootBuiltins x=some (.builtin id)) (ha:AX X (e::es) m1 g) (hn:x≠"__name__":=by decide) (hdb:(x == ("__debug__":Str))=false:=by decide)
  (he:starEach (e::es) X.env=(false,eval e X.env)::starEach es X.env:=by rfl) (hpl:(backTo pos (starEach es X.env)).any (·.1)=false:=by rfl):EX X (.Call (.Name x p) (e::es) [] pos) m1 (bY op g):=
 cR (lI hc hg hm hv ha hn hdb he hpl) fun _ _ _ h=>Fu hp h
theorem gw (hg:Gl X "len") (hm:X.mg "len"=none) (ha:AX X [e] m1 g) (he:starEach [e] X.env=[(false,eval e X.env)]:=by rfl):EX X (.Call (.Name "len" p) [e] [] pos) m1 (bY eK g):=nD Df (CallR.or tM tN) hg hm PySem.boot_len ha (by decide) (by decide) he rfl
theorem Fv (hg:Gl X "abs") (hm:X.mg "abs"=none) (ha:AX X [e] m1 g) (he:starEach [e] X.env=[(false,eval e X.env)]:=by rfl):EX X (.Call (.Name "abs" p) [e] [] pos) m1 (bY rL g):=nD (fun ds d vs H Q e r=>by
 unfold rL at e
 split at e
 ·cases e
  obtain⟨v,rfl,r'⟩:=r.one
  cases r'
  exact⟨_,rfl,fun q=>⟨_,rfl,q⟩⟩
 ·cases e) Ay hg hm PyProof.Rows.boot_abs ha (by decide) (by decide) he rfl
end
def ft(g:bC):bC:=fun E=>(g E).bind fun a=>match look a.2 a.1 with
 |some (.list ds)=>if !gJ a.2 a.1||bE ds then some (.ow ds,a.2)else none
 |some (.tuple ds)=>if !gJ a.2 a.1||bE ds then some (.ow ds,a.2)else none
 |_=>none
section
variable {X:Cx} {e:Expr} {m1:Bool} {f:bC} {p pos:Pos} {K:PySem.W.Frag}
theorem pT (hg:Gl X "list") (hm:X.mg "list"=none) (ha:EX X e m1 f) (he:starEach [e] X.env=[(false,eval e X.env)]:=by rfl):EX X (.Call (.Name "list" p) [e] [] pos) m1 (ft f):=by
 refine cR (sm tO hg hm PyProof.Rows.boot_list (gc ha iY he) (by decide) (by decide) he rfl) fun σ H Q z=>?_
 obtain⟨B,E,xs,Xs,res,E',fr,cl,e,q⟩:=z
 obtain⟨⟨s,E1⟩,e1,e⟩:=Option.bind_eq_some_iff.mp e
 refine⟨B,E,xs,Xs,s,E1,fr,cl,e1,fun v1 H1 ⟨F,A,fr1⟩=>?_⟩
 obtain⟨A',fr2⟩:=fr1.pop
 simp only at e
 split at e
 ·rename_i ds ld
  split at e
  ·rename_i hc
   cases e
   obtain⟨a,vs,ev,h1,h2⟩:=fr1.items (k:=0) rfl ld hc
   cases ev
   exact⟨a,vs,rfl,.inl h1,fun l hl=>q _ _ ⟨F,_,fr2.newl h2 hl⟩⟩
  ·cases e
 ·rename_i ds ld
  split at e
  ·rename_i hc
   cases e
   obtain⟨r,f0⟩:=fr1.look0 ld
   cases hh:gJ E' s with
   |false=>
    have h0:Rp X.K F v1 _:=f0 hh
    cases h0 with
    |tup h1 h2=>exact⟨_,_,rfl,.inr (fr1.fh.tup h1),fun l hl=>q _ _ ⟨F,_,fr2.newl h2 hl⟩⟩
   |true=>
    rw[hh]at hc
    cases r with
    |tup h1 h2=>exact⟨_,_,rfl,.inr h1,fun l hl=>q _ _ ⟨F,_,fr2.newl (fr1.coldA h2 (by simpa using hc)) hl⟩⟩
  ·cases e
 ·cases e
end
inductive Ty where
 |non |bool |int |str |list |tuple |dict
def Ty.name:Ty→String
 |.non=>"NoneType"
 |.bool=>"bool"
 |.int=>"int"
 |.str=>"str"
 |.list=>"list"
 |.tuple=>"tuple"
 |.dict=>"dict"
def Ty.is:Ty→Ty→Bool
 |.non,.non=>true
 |.bool,.bool=>true
 |.bool,.int=>true
 |.int,.int=>true
 |.str,.str=>true
 |.list,.list=>true
 |.tuple,.tuple=>true
 |.dict,.dict=>true
 |_,_=>false
def Cz:PyData→Ty
 |.none=>.non
 |.bool _=>.bool
 |.int _=>.int
 |.str _=>.str
 |.list _=>.list
 |.tuple _=>.tuple
 |.dict _=>.dict
theorem G7(K:PySem.W.Frag)(t n:Ty):PySem.W.kitOne K (.type t.name) (.type n.name)=some (t.is n):=by cases t <;> cases n <;> rfl
def lG(n:Ty)(d:PyData):Option PyData:=some (.bool ((Cz d).is n))
section
variable {X:Cx} {e:Expr} {m1:Bool} {f:bC} {p p2 pos:Pos}
theorem zb{pins:List (Addr×Obj)}{s:Shared}{σ:oZ}{H:Hp}{x:V}{u:Value}{d:PyData}{n:Ty}{A:Around}{E:Value→Shared→Prop}{Q:Value→Shared→Prop}(I:Inv X pins σ H s)(rx:RelV x u)(rp:Rp X.K H x d)(h:∀tk,Q (.bool ((Cz d).is n)) {s with toks:=tk}):
  wpAny (model X.prog X.w) A (call (.builtin "isinstance") [u,.type n.name]) Q E s:=by
 have e:=G7 X.K (Cz d) n
 cases rp with
 |non=>exact mn I rx .non e h
 |bl b=>exact mn I rx (.bl b) e h
 |int i=>exact mn I rx (.int i) e h
 |str y=>exact mn I rx (.str y) e h
 |lst h1 _=>
  cases rx
  obtain⟨its,rv,⟨o,n',e1,c,_,d⟩,_⟩:=I.list h1
  exact PySem.W.kia_one PySem.W.kitx_list I.kIn ⟨_,e1,c⟩ e (fun z=>nomatch z) h
 |tup h1 _=>
  cases rx
  obtain⟨its,rv,⟨o,e1,c,n',d⟩,_⟩:=I.tuple h1
  exact PySem.W.kia_one PySem.W.kitx_tuple I.kIn ⟨_,e1,c⟩ e (fun z=>nomatch z) h
 |dct h1 _=>
  cases rx
  obtain⟨_,_,vs,_,ob,es,ep,e1,c,_⟩:=G5 I.hok h1
  exact PySem.W.kia_one PySem.W.kitx_dict I.kIn ⟨_,e1,c.1⟩ e (fun z=>nomatch z) h
theorem zc(n:Ty):CallR X (.builtin "isinstance") (fun xs H Q=>∃x d,xs=[x,.ty n.name]∧Rp X.K H x d∧Q (.bl ((Cz d).is n)) H):=by
 intro pins s σ H xs us Q I r h
 obtain⟨x,d,rfl,rp,q⟩:=h
 obtain⟨u,w',rfl,ru,rw'⟩:=r.two
 cases(show w'=Value.type n.name from rw')
 exact zb I ru rp fun tk=>⟨.bl _,H,I.tok _,rfl,q⟩
theorem kN (n:Ty) (hg:Gl X "isinstance") (hm:X.mg "isinstance"=none) (ha:EX X e m1 f) {x:Str} (hgx:Gl X x) (hmx:X.mg x=none) (hbx:bootBuiltins x=some (.type n.name)) (hnx:x≠"__name__":=by decide) (hdx:(x == ("__debug__":Str))=false:=by decide)
  (he:starEach [e,.Name x p2] X.env=(false,eval e X.env)::starEach [.Name x p2] X.env:=by rfl) (he2:starEach [.Name x p2] X.env=[(false,eval (.Name x p2) X.env)]:=by rfl) (hpl:(backTo pos (starEach [.Name x p2] X.env)).any (·.1)=false:=by rfl):
  EX X (.Call (.Name "isinstance" p) [e,.Name x p2] [] pos) m1 (ki (lG n) f):=by
 have h2:PE X (.Name x p2) (tC (.ty n.name)):=CD (v:=.ty n.name) hgx hmx hbx rfl hnx hdx
 refine cR (lI (zc n) hg hm PyProof.Rows.boot_isinstance (gc ha (gc h2 iY he2) he) (by decide) (by decide) he hpl) fun σ H Q z=>?_
 obtain⟨B,E,xs,Xs,res,E',fr,cl,e,q⟩:=z
 obtain⟨⟨s,E1⟩,e1,e⟩:=Option.bind_eq_some_iff.mp e
 obtain⟨d1,e2,e⟩:=Option.bind_eq_some_iff.mp e
 cases e
 refine⟨B,E,xs,Xs,s,E1,fr,cl,e1,fun v1 H1 ⟨F,A,fr1⟩=>?_⟩
 obtain⟨A',fr2⟩:=fr1.pop
 exact⟨v1,d1,rfl,(fr1.look0 e2).1,q _ _ ⟨F,A',fr2.push ⟨rfl,_,rfl,.bl _⟩⟩⟩
end
end PL
namespace PL
open PySem L2 Nh
def xN(K:PySem.W.Frag)(H H':Hp)(v:V):Sl→Prop
 |.sh d=>Rp K (tups H') v d
 |.ow ds=>∃l vs,v=.ref l∧H l=none∧H' l=some (.lst vs)∧RpA K (tups H') vs ds
 |.tx ps=>∃t vs A,v=.ref t∧tups H' t=some (.tup vs)∧A.Nodup∧(∀a∈A,H a=none)∧PtsOk K (tups H') H' vs ps A
 |.od kvs=>∃l us A,v=.ref l∧(l::A).Nodup∧(∀a∈l::A,H a=none)∧H' l=some (.dK us)∧DlOk K (tups H') H' us kvs A
 |.br d=>Rp K H' v d
 |_=>False
def bZ(K:PySem.W.Frag)(c:List PyData→Option Sl):Sp:=fun vs H Q _=>∃ds r,c ds=some r∧RpA K H vs ds∧∀v H',Same H H'→xN K H H' v r→Q v H'
section
variable {K:PySem.W.Frag} {B F:Hp} {A N:List Addr} {σ:oZ} {H H':Hp} {E:List Sl} {xs:List V} {Xs:List Sl} {v:V} {s:Sl}
theorem FrF.growN(h:FrF K B F A σ H E xs Xs)(g:Same H H')(hN:∀a∈N,H a=none∧((∃us,H' a=some (.lst us))∨∃us,H' a=some (.dK us))):FrF K B (fun b=>if b∈N then none else if b∈A then none else H' b) A σ H' E xs Xs:=by
 have h1:=h.grow g
 have nF:∀b o,F b=some o→b∉N:=fun b o e hb=>by
  have:=h.fh.free (hN b hb).1
  rw[this]at e;cases e
 have FF:Same F (fun b=>if b∈N then none else if b∈A then none else H' b):=fun b o e=>by
  have nA:b∉A:=fun hb=>by rw[h.fr b hb]at e;cases e
  show(if b∈N then none else if b∈A then none else H' b)=some o
  rw[if_neg (nF b o e),if_neg nA]
  exact g _ _ (h.fh _ _ e)
 have hA:∀b∈A,H' b=H b:=fun b hb=>by
  rcases h.mutA b hb with⟨_,z⟩ |⟨_,z⟩ <;> rw[z,g _ _ z]
 refine⟨h.bf.trans FF,fun b o e=>?_,fun b o e=>?_,h.sl.mono fun o s C _ hC q=>q.stay FF (fun b hb=>hA b (hC b hb)) fun _=>g,h.nd,fun a ha=>?_,h.len,h.pl⟩
 ·by_cases hb:b∈N
  ·rw[if_pos hb]at e;cases e
  ·rw[if_neg hb]at e;exact h1.fh _ _ e
 ·show(if b∈N then none else if b∈A then none else H' b)=some o
  by_cases hb:b∈N
  ·obtain⟨e1,e2⟩:=Option.filter_eq_some_iff.mp e
   rcases(hN b hb).2 with⟨us,z⟩ |⟨us,z⟩ <;> rw[z]at e1 <;> cases e1 <;> cases e2
  ·rw[if_neg hb];exact h1.tf _ _ e
 ·show(if a∈N then none else if a∈A then none else H' a)=none
  by_cases hb:a∈N
  ·rw[if_pos hb]
  ·rw[if_neg hb,if_pos ha]
theorem FrF.pushR(h:FrF K B F A σ H E xs Xs)(q:SlOk K F H σ (some v) s N)(nd:N.Nodup)(dj:∀a∈N,a∉A)(fr:∀a∈N,F a=none):FrF K B F (N++A) σ H E (v::xs) (s::Xs):=
 ⟨h.bf,h.fh,h.tf,.cons q h.sl,List.nodup_append.mpr ⟨nd,h.nd,fun a ha b hb e=>dj a ha (e▸hb)⟩,fun a ha=>(List.mem_append.mp ha).elim (fr a) (h.fr a),by simp[h.len],h.pl⟩
theorem FrF.told(h:FrF K B F A σ H E xs Xs)(g:Same H H')(q:xN K H H' v s):Frm K B σ H' E (v::xs) (s::Xs):=by
 cases s with
 |sh d=>
  have h1:=h.grow g
  exact⟨_,_,h1.push ⟨rfl,v,rfl,Rp.same h1.tf q⟩⟩
 |ow ds=>
  obtain⟨l,vs,rfl,hl,hl',r⟩:=q
  have h1:=h.growN (N:=[l]) g fun a ha=>by rw[List.mem_singleton.mp ha];exact⟨hl,.inl ⟨vs,hl'⟩⟩
  exact⟨_,_,h1.pushR (N:=[l]) ⟨l,vs,rfl,rfl,hl',r.same h1.tf⟩ (by simp) (fun a ha=>by rw[List.mem_singleton.mp ha];exact h.newA hl) fun a ha=>if_pos ha⟩
 |tx ps=>
  obtain⟨t,vs,N,rfl,ht,nd,hN,r⟩:=q
  have h1:=h.growN (N:=N) g fun a ha=>⟨hN a ha,.inl (r.some a ha)⟩
  exact⟨_,_,h1.pushR (N:=N) ⟨t,vs,rfl,h1.tf _ _ ht,r.stay h1.tf fun _ _=>rfl⟩ nd (fun a ha=>h.newA (hN a ha)) fun a ha=>if_pos ha⟩
 |no=>exact False.elim q
 |od kvs=>
  obtain⟨l,us,N,rfl,nd,hN,hl,r⟩:=q
  have h1:=h.growN (N:=l::N) g fun a ha=>⟨hN a ha,(List.mem_cons.mp ha).elim (fun z=>.inr ⟨us,z▸hl⟩) fun z=>.inl (r.some a z)⟩
  exact⟨_,_,h1.pushR (N:=l::N) ⟨l,us,N,rfl,rfl,hl,r.stay h1.tf fun _ _=>rfl⟩ nd (fun a ha=>h.newA (hN a ha)) fun a ha=>if_pos ha⟩
 |al i=>exact False.elim q
 |br d=>
  have h1:=h.grow g
  exact⟨_,_,h1.push ⟨rfl,v,rfl,q⟩⟩
end
def aj(c:List PyData→Option Sl)(g:uM):bC:=fun E=>(g E).bind fun a=>(cb a.2 a.1).bind fun ds=>(c ds).map fun r=>(r,a.2)
theorem au{X:Cx}{k:Nat}{x:Str}{ps:List Str}{c:List PyData→Option Sl}{p pos:Pos}{e:Expr}{es:List Expr}{m:Bool}{g:uM}(D:Own X.prog X.w X.K X.mg X.base k x ps (bZ X.K c))(hr:Room k X.A)(hg:Gl X x)(ha:AX X (e::es) m g)
  (hdb:(x == ("__debug__":Str))=false:=by decide) (he:starEach (e::es) X.env=(false,eval e X.env)::starEach es X.env:=by rfl) (hpl:(backTo pos (starEach es X.env)).any (·.1)=false:=by rfl):
  EX X (.Call (.Name x p) (e::es) [] pos) m (aj c g):=by
 refine cR (Fj D hr hg ha hdb he hpl) fun σ H Q z=>?_
 obtain⟨B,E,xs,Xs,res,E',fr,cl,e,q⟩:=z
 obtain⟨⟨rs,E1⟩,e1,e⟩:=Option.bind_eq_some_iff.mp e
 obtain⟨ds,e2,e⟩:=Option.bind_eq_some_iff.mp e
 obtain⟨r,e3,e⟩:=Option.map_eq_some_iff.mp e
 cases e
 refine⟨B,E,xs,Xs,rs,E1,fr,cl,e1,fun vs H1 hl ⟨F,A,fr1⟩=>?_⟩
 obtain⟨r1,A',fr2⟩:=fr1.looks hl e2
 exact⟨ds,res,e3,by rw[List.append_nil];exact r1,fun v H' g q'=>q v H' (fr2.told g q')⟩
def aU(i:Nat)(f:bC):bC:=fun E=>match E[i]? with
 |some (.ow _)=>(f E).bind fun a=>(frz a.2 a.1).bind fun b=>match b.2[i]? with
  |some (.ow ds)=>if ds.length < 1000000 then some (.sh .none,b.2.set i (.ow (ds++[b.1])))else none
  |_=>none
 |_=>none
def mL(i:Nat):bC:=fun E=>match E[i]? with
 |some (.ow ds)=>(ds[ds.length - 1]?).map fun d=>(.sh d,E.set i (.ow ds.dropLast))
 |_=>none
section
variable {X:Cx} {e:Expr} {m1:Bool} {f:bC} {x:Str} {p apos cpos:Pos}
theorem gf (i:Nat) (he:EX X e m1 f) (hN:X.N[i]? =some x:=by rfl) (hv:Gq X.env.scope x:=by first |exact Or.inl rfl |exact Or.inr (Or.inl rfl) |exact Or.inr (Or.inr rfl)) (hd:(x == ("__debug__":Str))=false:=by decide) (hcd:(x == ("__classdict__":Str))=false:=by decide)
  (hs:starEach [e] X.env=[(false,eval e X.env)]:=by rfl) (hbase:attributeBase (.Name x p) "append" X.env (eval (.Name x p) X.env)=eval (.Name x p) X.env:=by rfl)
  (hfew:((backTo cpos (starEach [e] X.env)).all (fun x=> !x.1)&&(backToKw cpos (keywordEach [] X.env)).all (fun x=>x.1.isSome)
   &&decide (([e]:List Expr).length+([]:List Keyword).length+(if ([]:List Keyword).isEmpty then 0 else 1) < 30))=true:=by rfl) (hline:(apos.endLine == cpos.line)=true:=by rfl):
  EX X (.Call (.Attribute (.Name x p) "append" apos) [e] [] cpos) true (aU i f):=by
 refine cR (Ea PySem.F.plainAttrs_list PySem.F.slot_list_append PySem.F.type_list_append sq (wb hN hv hd hcd) (gc he iY hs) hbase hfew hline hs rfl) fun σ H Q z=>?_
 obtain⟨B,E,xs,Xs,res,E',⟨F,A,fr⟩,cl,e,q⟩:=z
 unfold aU at e
 split at e
 ·rename_i ds0 ei
  obtain⟨⟨s,E1⟩,e1,e⟩:=Option.bind_eq_some_iff.mp e
  obtain⟨⟨d,E2⟩,e2,e⟩:=Option.bind_eq_some_iff.mp e
  simp only at e
  split at e
  ·rename_i ds ei2
   split at e
   ·rename_i hl
    cases e
    obtain⟨o,A1,eo,l,vs,rfl,rfl,hl0,_⟩:=fr.var ei
    refine⟨_,eo,.inl ⟨rfl,_,SqL.of hl0⟩,B,E,xs,Xs,s,E1,⟨F,A,fr⟩,fun _=>cl rfl,e1,fun v H1 ⟨F1,A1,fr1⟩=>?_⟩
    obtain⟨F2,A2,fr2⟩:=fr1.frz0 e2
    obtain⟨v',A3,ev,rfl,w,ew,rv⟩:=fr2.ext (k:=0) rfl
    cases ev;cases ew
    obtain⟨A4,fr3⟩:=fr2.pop
    obtain⟨l',vs',eo',hl',r',put⟩:=fr3.mut ei2 (cl rfl)
    rw[eo]at eo'
    cases eo'
    have ll:=r'.len
    have fr4:=put (vs'++[v]) (ds++[d]) (r'.snoc rv)
    exact⟨l,vs',v,rfl,rfl,hl',small (by omega),q _ _ ⟨_,_,fr4.push ⟨rfl,_,rfl,.non⟩⟩⟩
   ·cases e
  ·cases e
 ·cases e
theorem AW (i:Nat) (hN:X.N[i]? =some x:=by rfl) (hv:Gq X.env.scope x:=by first |exact Or.inl rfl |exact Or.inr (Or.inl rfl) |exact Or.inr (Or.inr rfl)) (hd:(x == ("__debug__":Str))=false:=by decide) (hcd:(x == ("__classdict__":Str))=false:=by decide)
  (hbase:attributeBase (.Name x p) "pop" X.env (eval (.Name x p) X.env)=eval (.Name x p) X.env:=by rfl) (hline:(apos.endLine == cpos.line)=true:=by rfl):
  EX X (.Call (.Attribute (.Name x p) "pop" apos) [] [] cpos) true (mL i):=by
 refine cR (Ff PySem.F.plainAttrs_list PySem.F.slot_list_pop PySem.F.type_list_pop Fg (wb hN hv hd hcd) hbase hline) fun σ H Q z=>?_
 obtain⟨B,E,xs,Xs,res,E',⟨F,A,fr⟩,cl,e,q⟩:=z
 unfold mL at e
 split at e
 ·rename_i ds ei
  obtain⟨d,ed,e⟩:=Option.map_eq_some_iff.mp e
  cases e
  obtain⟨l,vs,eo,hl,r,put⟩:=fr.mut ei (cl rfl)
  obtain⟨y,ey,ry⟩:=r.get ed
  have fr2:=put vs.dropLast ds.dropLast r.dropLast
  exact⟨_,eo,.inl ⟨rfl,_,SqL.of hl⟩,l,vs,y,rfl,rfl,hl,by rw[r.len];exact ey,q _ _ ⟨_,_,fr2.push ⟨rfl,_,rfl,ry⟩⟩⟩
 ·cases e
end
def AY(s:Sl):Sl:=match s.val with
 |some d=>.sh d
 |none=>.no
def frzAll(E:List Sl):List Sl:=E.map AY
def settle(E:List Sl):Sl→Option (Sl×List Sl)
 |.al i=>(frz E (.al i)).map fun a=>(.sh a.1,a.2)
 |.br d=>if dL d then some (.sh d,E)else some (.sh d,frzAll E)
 |s=>some (s,E)
def aA(g h:de):de:=fun E=>(g E).bind fun a=>match a.2 with
 |.nx=>h a.1
 |fl=>some (a.1,fl)
def aL:de:=fun E=>some (E,.nx)
def bU(f:bC):de:=fun E=>(f E).map fun a=>(a.2,.nx)
def aN(f:bC):de:=fun E=>(f E).bind fun a=>match a.1 with
 |.al i=>(a.2[i]?).map fun s=>(a.2.set i .no,.rt s)
 |s=>some (a.2,.rt s)
def bg(c:mq)(g h:de):de:=fun E=>(c E).bind fun a=>if a.1 then g a.2 else h a.2
def aB(i:Nat)(f:bC):de:=fun E=>(f E).bind fun a=>(settle a.2 a.1).bind fun b=>if i < b.2.length then some (b.2.set i b.1,.nx)else none
section
variable {K:PySem.W.Frag} {B F:Hp} {A:List Addr} {σ:oZ} {H:Hp} {E E':List Sl} {xs:List V} {Xs:List Sl} {v:V} {s s':Sl} {d:PyData}
theorem FrF.frzAll(h:FrF K B F A σ H E xs Xs)(hX:Xs=[]):FrF K B H [] σ H (PL.frzAll E) [] []:=by
 subst hX
 have hx:xs=[]:=by simpa using h.len
 subst hx
 refine⟨h.bf.trans h.fh,Same.refl _,oo H,?_,List.nodup_nil,fun a ha=>(by cases ha),rfl,fun s hs=>?_⟩
 ·have key:∀{os:List (Option V)} {ss:List Sl} {C:List Addr},SAll (SlOk K F H σ) os ss C→SAll (SlOk K H H σ) os (PL.frzAll ss) []:=fun {os ss C} r=>by
   induction r with
   |nil=>exact .nil
   |cons q _ ih=>
    refine .cons (A:=[]) ?_ ih
    unfold AY
    split
    ·rename_i d e
     obtain⟨v,rfl,r,_⟩:=q.val h.fh e
     exact⟨rfl,v,rfl,r⟩
    ·exact rfl
  exact key h.sl
 ·obtain⟨t,_,rfl⟩:=List.mem_map.mp hs
  unfold AY
  split <;> rfl
theorem FrF.settle(h:FrF K B F A σ H E (v::xs) (s::Xs))(hX:Xs=[])(q:PL.settle E s=some (s',E')):s'.isAl=false∧Frm K B σ H E' (v::xs) (s'::Xs):=by
 cases s with
 |al i=>
  obtain⟨⟨d,E2⟩,e,z⟩:=Option.map_eq_some_iff.mp (show(frz E (.al i)).map (fun a=>(Sl.sh a.1,a.2))=some (s',E')from q)
  cases z
  obtain⟨F',A',h'⟩:=h.frz0 e
  exact⟨rfl,F',A',h'⟩
 |br d=>
  have r:=(h.look0 (d:=d) rfl).1
  obtain⟨A',h'⟩:=h.pop
  simp only[PL.settle]at q
  split at q
  ·rename_i hf
   cases q
   exact⟨rfl,F,A',h'.push ⟨rfl,v,rfl,h.cold r hf⟩⟩
  ·cases q
   have h2:=h'.frzAll hX
   have hl:=h'.len
   subst hX
   have hx:xs=[]:=by simpa using hl
   subst hx
   exact⟨rfl,H,[],h2.push ⟨rfl,v,rfl,r⟩⟩
 |no=>cases q;exact⟨rfl,F,A,h⟩
 |sh d=>cases q;exact⟨rfl,F,A,h⟩
 |ow ds=>cases q;exact⟨rfl,F,A,h⟩
 |od kvs=>cases q;exact⟨rfl,F,A,h⟩
 |tx ps=>cases q;exact⟨rfl,F,A,h⟩
theorem FrF.move{i:Nat}(h:FrF K B F A σ H E (v::xs) (.al i::Xs))(e:E[i]? =some s):Frm K B σ H (E.set i .no) (v::xs) (s::Xs):=by
 obtain⟨v',A1,ev,rfl,w,ew,hw⟩:=h.ext (k:=0) rfl
 cases ev;cases ew
 obtain⟨A',h'⟩:=h.pop
 obtain⟨o,A0,A1,A2,eA,eo,hp,put⟩:=h'.sl.at (k:=Xs.length+i) (s:=s) (by rw[List.getElem?_append_right (by omega)];simpa using e)
 have z:=put (SlOk K F H σ) o .no [] rfl fun _ _ _ _ _ q=>q
 have e3:(Xs++E).set (Xs.length+i) .no=Xs++E.set i .no:=by
  rw[List.set_append_right _ _ (by omega),Nat.add_sub_cancel_left]
 have e2:(List.map some xs++σ).set (Xs.length+i) o=List.map some xs++σ:=List.ext_getElem? fun j=>by
  by_cases hj:Xs.length+i=j
  ·subst hj
   rw[List.getElem?_set_self',eo];rfl
  ·rw[List.getElem?_set_ne hj]
 rw[e2,e3]at z
 rw[List.getElem?_append_right (by rw[List.length_map,h'.len];omega),List.length_map,h'.len,Nat.add_sub_cancel_left,hw]at eo
 cases eo
 have nd:=h'.nd
 rw[eA]at nd
 refine⟨F,A1++(A0++([]++A2)),h.bf,h.fh,h.tf,.cons hp z,?_,fun a ha=>h'.fr a ?_,h.len,fun s' hs=>?_⟩
 ·have p:(A1++(A0++([]++A2))).Perm (A0++(A1++A2)):=by
   rw[List.nil_append,←List.append_assoc,←List.append_assoc]
   exact List.Perm.append_right _ List.perm_append_comm
  exact p.nodup_iff.mpr nd
 ·rw[eA]
  simp only[List.mem_append,List.nil_append]at ha ⊢
  rcases ha with z |z |z
  ·exact .inr (.inl z)
  ·exact .inl z
  ·exact .inr (.inr z)
 ·rcases List.mem_or_eq_of_mem_set hs with hs |hs
  ·exact h.pl s' hs
  ·subst hs;rfl
end
section
variable {X:Cx} {st:Stmt} {rest a b:List Stmt} {g h:de} {e c:Expr} {m:Bool} {f:bC} {t:mq} {pos:Pos}
theorem aX:y0 X [] aL:=xJ CG fun D σ H z=>by
 obtain⟨B,E,xs,Xs,E',fl,fr,cl,e,q⟩:=z
 cases e
 exact q _ _ fr
theorem ao(h1:SX X st g):y0 X [st] g:=CH h1
theorem Fw{K:PySem.W.Frag}{D:Ends}{σ:oZ}{H:Hp}(z:rs K (aA g h) D σ H):rs K g {D with nx:=rs K h D} σ H:=by
 obtain⟨B,E,xs,Xs,E',fl,fr,cl,e,q⟩:=z
 obtain⟨⟨E1,f1⟩,e1,e⟩:=Option.bind_eq_some_iff.mp e
 refine⟨B,E,xs,Xs,E1,f1,fr,cl,e1,?_⟩
 cases f1 with
 |nx=>exact fun σ' H' fr'=>⟨B,E1,xs,Xs,E',fl,fr',cl,e,q⟩
 |bk=>cases e;exact q
 |ct=>cases e;exact q
 |rt r=>cases e;exact q
theorem am(h1:SX X st g)(h2:y0 X rest h):y0 X (st::rest) (aA g h):=xJ (Ap h1 h2) fun D σ H z=>Fw z
theorem gK(he:EX X e m f)(hs:swapsWith e none pos.line X.env=pure false:=by rfl):SX X (.Expr e pos) (bU f):=lM (CI he hs) fun D σ H z=>by
 obtain⟨B,E,xs,Xs,E',fl,fr,cl,e,q⟩:=z
 obtain⟨⟨s,E1⟩,e1,e⟩:=Option.map_eq_some_iff.mp e
 cases e
 refine⟨B,E,xs,Xs,s,E1,fr,fun _=>Calm.nil cl,e1,fun v H1 ⟨F,A,fr1⟩=>?_⟩
 obtain⟨A',fr2⟩:=fr1.pop
 exact q _ _ ⟨F,A',fr2⟩
theorem aM(he:EX X e m f):SX X (.Return (some e) pos) (aN f):=lM (EJ he) fun D σ H z=>by
 obtain⟨B,E,xs,Xs,E',fl,fr,cl,e,q⟩:=z
 obtain⟨⟨s,E1⟩,e1,e⟩:=Option.bind_eq_some_iff.mp e
 refine⟨B,E,xs,Xs,s,E1,fr,fun _=>Calm.nil cl,e1,fun v H1 ⟨F,A,fr1⟩=>?_⟩
 simp only at e
 split at e
 ·obtain⟨s',es,e⟩:=Option.map_eq_some_iff.mp e
  cases e
  exact q σ _ _ (fr1.move es)
 ·cases e
  exact q σ _ _ ⟨F,A,fr1⟩
theorem cW(hc:TX X c m t)(ha:y0 X a g)(hb:y0 X b h):SX X (.If c a b pos) (bg t g h):=lM (Gx hc ha hb) fun D σ H z=>by
 obtain⟨B,E,xs,Xs,E',fl,fr,cl,e,q⟩:=z
 obtain⟨⟨b1,E1⟩,e1,e⟩:=Option.bind_eq_some_iff.mp e
 refine⟨B,E,xs,Xs,b1,E1,fr,fun _=>Calm.nil cl,e1,fun H1 fr1=>?_⟩
 cases b1 with
 |true=>exact(if_pos rfl).mpr ⟨B,E1,xs,Xs,E',fl,fr1,cl,e,q⟩
 |false=>exact(if_neg (by decide)).mpr ⟨B,E1,xs,Xs,E',fl,fr1,cl,e,q⟩
theorem aO(i:Nat){x:Str}{pos':Pos}(hN:X.N.Nodup)(he:EX X e m f)(hi:X.N[i]? =some x:=by rfl)(hx:D6 X.env.scope x:=by first |exact Or.inl rfl |exact Or.inr rfl)(hs:swapsWith e (some (.Name x pos')) pos.line X.env=pure false:=by rfl)(hf:X.fn x=true∨X.env.scope.names.lookup x=some .local:=by first |exact .inl rfl |exact .inr rfl |assumption):
  SX X (.Assign [.Name x pos'] e pos) (aB i f):=lM (EN hN hi hx he hs hf) fun D σ H z=>by
 obtain⟨B,E,xs,Xs,E',fl,fr,cl,e,q⟩:=z
 obtain⟨⟨s,E1⟩,e1,e⟩:=Option.bind_eq_some_iff.mp e
 obtain⟨⟨s',E2⟩,e2,e⟩:=Option.bind_eq_some_iff.mp e
 refine⟨B,E,xs,Xs,s,E1,fr,fun _=>Calm.nil cl,e1,fun v H1 ⟨F,A,fr1⟩=>?_⟩
 obtain⟨c1,F2,A2,fr2⟩:=fr1.settle cl e2
 simp only at e
 split at e
 ·rename_i hi
  cases e
  obtain⟨A3,fr3⟩:=fr2.store c1 (Still.nil cl) hi
  exact q _ _ ⟨F2,A3,fr3⟩
 ·cases e
end
end PL
namespace PL
open PySem L2 Nh
abbrev gS:=PyData→List Sl→Option (List Sl)
abbrev va:=List PyData→List Sl→Option (List Sl)
def rg(K:PySem.W.Frag)(h:gS):TG:=fun v σ H Q=>∃B E xs Xs d E',Frm K B σ H E (v::xs) (.sh d::Xs)∧Still Xs∧h d E=some E'∧∀σ' H',Frm K B σ' H' E' xs Xs→Q σ' H'
def IU(K:PySem.W.Frag)(h:va):CJ:=fun vs σ H Q=>∃B E xs Xs ds E',vs.length=ds.length∧Frm K B σ H E (vs++xs) (ds.map .sh++Xs)∧Still Xs∧h ds E=some E'∧∀σ' H',Frm K B σ' H' E' xs Xs→Q σ' H'
def GX(X:Cx)(e:Expr)(h:gS):Prop:=PG X e (rg X.K h)
def Hz(X:Cx)(es:List Expr)(h:va):Prop:=EL X es (IU X.K h)
def aI(i:Nat):gS:=fun d E=>if i < E.length then some (E.set i (.sh d))else none
def jE:va:=fun ds E=>if ds.isEmpty then some E else none
def fu(h:gS)(hs:va):va:=fun ds E=>match ds with
 |d::ds=>(h d E).bind (hs ds)
 |[]=>none
def jF(n:Nat)(hs:va):gS:=fun d E=>match d with
 |.tuple ds=>if ds.length=n then hs ds E else none
 |_=>none
section
variable {X:Cx}
theorem AZ{e:Expr}{t t':TG}(h:PG X e t)(k:∀v σ H Q,t' v σ H Q→t v σ H Q):PG X e t':=fun pins s σ H v u Q I r q=>h pins s σ H v u Q I r (k v σ H Q q)
theorem xO{es:List Expr}{t t':CJ}(h:EL X es t)(k:∀v σ H Q,t' v σ H Q→t v σ H Q):EL X es t':=fun pins s σ H v u Q I r q=>h pins s σ H v u Q I r (k v σ H Q q)
theorem aK(i:Nat){x:Str}{pos:Pos}(hN:X.N.Nodup)(hi:X.N[i]? =some x:=by rfl)(hx:D6 X.env.scope x:=by first |exact Or.inl rfl |exact Or.inr rfl)(hf:X.fn x=true∨X.env.scope.names.lookup x=some .local:=by first |exact .inl rfl |exact .inr rfl |assumption):GX X (.Name x pos) (aI i):=AZ (tE hN hi hx hf) fun v σ H Q z=>by
 obtain⟨B,E,xs,Xs,d,E',⟨F,A,fr⟩,cl,e,q⟩:=z
 unfold aI at e
 split at e
 ·rename_i hi
  cases e
  obtain⟨A',fr'⟩:=fr.store rfl cl hi
  exact q _ _ ⟨F,A',fr'⟩
 ·cases e
theorem nE:Hz X [] jE:=xO CK fun v σ H Q z=>by
 obtain⟨B,E,xs,Xs,ds,E',hl,fr,cl,e,q⟩:=z
 unfold jE at e
 split at e
 ·rename_i hd
  cases e
  have:ds=[]:=by simpa using hd
  subst this
  have hv:v=[]:=by simpa using hl
  subst hv
  exact⟨rfl,q _ _ fr⟩
 ·cases e
theorem gz{e:Expr}{es:List Expr}{h:gS}{hs:va}(h1:GX X e h)(h2:Hz X es hs)(hst:(assignEach (e::es) X.env).map (·.2)=assign e X.env::(assignEach es X.env).map (·.2):=by rfl):Hz X (e::es) (fu h hs):=xO (As h1 h2 hst) fun v σ H Q z=>by
 obtain⟨B,E,xs,Xs,ds,E',hl,fr,cl,e,q⟩:=z
 cases ds with
 |nil=>cases e
 |cons d ds=>
  cases v with
  |nil=>cases hl
  |cons v vs=>
   obtain⟨E1,e1,e2⟩:=Option.bind_eq_some_iff.mp e
   refine⟨v,vs,rfl,B,E,vs++xs,ds.map Sl.sh++Xs,d,E1,fr,fun s hs=>?_,e1,fun σ1 H1 fr1=>⟨B,E1,xs,Xs,ds,E',by simpa using hl,fr1,cl,e2,q⟩⟩
   rcases List.mem_append.mp hs with hs |hs
   ·obtain⟨d',_,rfl⟩:=List.mem_map.mp hs
    rfl
   ·exact cl s hs
theorem qw{es:List Expr}{k:Nat}{pos:Pos}{hs:va}{n:Nat}(hc:X.calm=true)(h:Hz X es hs)(hn:(assignEach es X.env).length=n:=by rfl)(hst:(assignEach es X.env).findIdx? (·.1)=none:=by rfl):GX X (.Tuple es k pos) (jF n hs):=AZ (EM hc h hn hst) fun v σ H Q z=>by
 obtain⟨B,E,xs,Xs,d,E',⟨F,A,fr⟩,cl,e,q⟩:=z
 unfold jF at e
 split at e
 ·rename_i ds
  split at e
  ·rename_i hl
   obtain⟨v',A1,ev,rfl,w,ew,r⟩:=fr.ext (k:=0) rfl
   cases ev;cases ew
   cases r with
   |tup h1 h2=>
    obtain⟨A',fr'⟩:=fr.pop
    have key:∀{us:List V} {es:List PyData},RpA X.K F us es→FrF X.K B F A' σ H E (us++xs) (es.map .sh++Xs):=fun {us es} r=>by
     induction us generalizing es with
     |nil=>cases r;exact fr'
     |cons u us ih=>
      cases r with
      |cons r1 r2=>exact(ih r2).push ⟨rfl,_,rfl,r1⟩
    exact⟨_,_,rfl,fr.fh.tup h1,by rw[h2.len];exact hl,B,E,xs,Xs,ds,E',h2.len,⟨F,A',key h2⟩,cl,e,q⟩
  ·cases e
 ·cases e
end
def ww(K:PySem.W.Frag)(B0:Hp)(J:It)(ds:List PyData):Prop:=∀{B F:Hp} {A:List Addr} {σ:oZ} {H:Hp} {E:List Sl} {xs:List V} {Xs:List Sl} (i:Nat),Same B0 B→FrF K B F A σ H E xs Xs→
 (∀d,ds[i]? =some d→J.go i H∧∀x H2,J.yld i H x H2→Frm K B σ H2 E (x::xs) (.sh d::Xs))∧(i=ds.length→J.stop i H)
def ri(K:PySem.W.Frag)(m:Bool)(f:pB):TI:=fun σ H R=>∃B E xs Xs ds E',Frm K B σ H E xs Xs∧(m=true→Calm Xs)∧f E=some (ds,E')∧∀B' J H',Same B B'→Frm K B' σ H' E' xs Xs→ww K B' J ds→R J H'
def IX(X:Cx)(tg e:Expr)(m:Bool)(f:pB):Prop:=PI X tg e (ri X.K m f)
theorem FrF.base{K:PySem.W.Frag}{B B' F:Hp}{A:List Addr}{σ:oZ}{H:Hp}{E:List Sl}{xs:List V}{Xs:List Sl}(h:FrF K B' F A σ H E xs Xs)(s:Same B B'):FrF K B F A σ H E xs Xs:=⟨s.trans h.bf,h.fh,h.tf,h.sl,h.nd,h.fr,h.len,h.pl⟩
theorem Frm.base{K:PySem.W.Frag}{B B':Hp}{σ:oZ}{H:Hp}{E:List Sl}{xs:List V}{Xs:List Sl}(h:Frm K B' σ H E xs Xs)(s:Same B B'):Frm K B σ H E xs Xs:=let ⟨F,A,h⟩:=h;⟨F,A,h.base s⟩
theorem FrF.raise{K:PySem.W.Frag}{B F:Hp}{A:List Addr}{σ:oZ}{H:Hp}{E:List Sl}{xs:List V}{Xs:List Sl}(h:FrF K B F A σ H E xs Xs):FrF K F F A σ H E xs Xs:=⟨Same.refl _,h.fh,h.tf,h.sl,h.nd,h.fr,h.len,h.pl⟩
def kl(lo:Int)(n:Nat):List PyData:=(List.range n).map fun(k:Nat)=>.int (lo+(k:Int))
def il(g:uM):pB:=fun E=>(g E).bind fun a=>match cb a.2 a.1 with
 |some [.int j]=>if -1000000≤j∧j≤1000000 then some (kl 0 j.toNat,a.2)else none
 |_=>none
def qx(g:uM):pB:=fun E=>(g E).bind fun a=>match cb a.2 a.1 with
 |some [.int i,.int j]=>if -1000000≤i∧i≤1000000∧ -1000000≤j∧j≤1000000 then some (kl i (j - i).toNat,a.2)else none
 |_=>none
def o4(f:bC):pB:=fun E=>(f E).bind fun a=>(frz a.2 a.1).bind fun b=>match b.1 with
 |.list ds=>some (ds.reverse,b.2)
 |_=>none
section
variable {X:Cx} {tg e e2:Expr} {m:Bool} {f:bC} {g:uM} {p pos:Pos} {K:PySem.W.Frag} {B:Hp}
theorem tW{t t':TI}(h:PI X tg e t)(k:∀σ H Q,t' σ H Q→t σ H Q):PI X tg e t':=fun pins s σ H R I q=>h pins s σ H R I (k σ H R q)
theorem zd{a:Addr}{vs:List V}{ds:List PyData}(h:SqL K B a vs)(r:RpA K B vs ds):ww K B (HR K a) ds:=fun {B' F A σ H E xs Xs} i sB fr=>by
 have hH:=fr.fh.seq (fr.bf.seq (sB.seq h))
 refine⟨fun d ed=>?_,fun e=>⟨vs,hH,by rw[e,r.len];exact Nat.le_refl _⟩⟩
 obtain⟨v,ev,rv⟩:=r.get ed
 refine⟨⟨vs,v,hH,ev⟩,fun x H2 ⟨e2,y⟩=>?_⟩
 subst e2
 have:=y vs hH
 rw[ev]at this
 cases this
 exact⟨F,A,fr.push ⟨rfl,_,rfl,rv.same (sB.trans fr.bf)⟩⟩
theorem A8{a:Addr}{vs:List V}{ds:List PyData}(h:SqL K B a vs)(r:RpA K B vs ds):ww K B (Ii K a vs) ds.reverse:=fun {B' F A σ H E xs Xs} i sB fr=>by
 have hH:=fr.fh.seq (fr.bf.seq (sB.seq h))
 refine⟨fun d ed=>?_,fun e=>⟨hH,by rw[e,List.length_reverse,r.len]⟩⟩
 obtain⟨v,ev,rv⟩:=r.rev.get ed
 have hi:i < vs.length:=by
  have:=(List.getElem?_eq_some_iff.mp ev).1
  simpa using this
 refine⟨⟨hH,hi⟩,fun x H2 ⟨e2,y⟩=>?_⟩
 subst e2
 rw[ev]at y
 cases y
 exact⟨F,A,fr.push ⟨rfl,_,rfl,rv.same (sB.trans fr.bf)⟩⟩
theorem qy{lo:Int}{n:Nat}:ww K B (GA lo n) (kl lo n):=fun {B' F A σ H E xs Xs} i sB fr=>by
 have hl:(kl lo n).length=n:=by simp[kl]
 refine⟨fun d ed=>?_,fun e=>?_⟩
 ·have hi:i < n:=by have:=(List.getElem?_eq_some_iff.mp ed).1;omega
  refine⟨hi,fun x H2 ⟨e2,y⟩=>?_⟩
  subst e2 y
  have:d=.int (lo+i):=by
   unfold kl at ed
   rw[List.getElem?_map,List.getElem?_range hi]at ed
   exact(Option.some.inj ed).symm
  subst this
  exact⟨F,A,fr.push ⟨rfl,_,rfl,.int _⟩⟩
 ·show n≤i
  omega
theorem tX (hg:Gl X "reversed") (hm:X.mg "reversed"=none) (he:EX X e m f) (hs:starEach [e] X.env=[(false,eval e X.env)]:=by rfl):IX X tg (.Call (.Name "reversed" p) [e] [] pos) m (o4 f):=tW (Fi hg hm (gc he iY hs) hs) fun σ H R z=>by
 obtain⟨B,E,xs,Xs,ds,E',fr,cl,e,q⟩:=z
 obtain⟨⟨s,E1⟩,e1,e⟩:=Option.bind_eq_some_iff.mp e
 obtain⟨⟨d,E2⟩,e2,e⟩:=Option.bind_eq_some_iff.mp e
 refine⟨B,E,xs,Xs,s,E1,fr,cl,e1,fun v H1 ⟨F,A,fr1⟩=>?_⟩
 obtain⟨F2,A2,fr2⟩:=fr1.frz0 e2
 simp only at e
 split at e
 ·cases e
  obtain⟨v',A1,ev,rfl,w,ew,r⟩:=fr2.ext (k:=0) rfl
  cases ev;cases ew
  cases r with
  |lst h1 h2=>
   obtain⟨A3,fr3⟩:=fr2.pop
   exact⟨_,_,rfl,fr2.fh.seq h1,q F2 _ _ fr2.bf ⟨F2,A3,fr3.raise⟩ (A8 h1 h2)⟩
 ·cases e
theorem kn (hg:Gl X "range") (hm:X.mg "range"=none) (ha:AX X [e] m g) (hs:starEach [e] X.env=[(false,eval e X.env)]:=by rfl):IX X tg (.Call (.Name "range" p) [e] [] pos) m (il g):=tW (yM hg hm ha hs) fun σ H R z=>by
 obtain⟨B,E,xs,Xs,ds,E',fr,cl,e,q⟩:=z
 obtain⟨⟨rs,E1⟩,e1,e⟩:=Option.bind_eq_some_iff.mp e
 refine⟨B,E,xs,Xs,rs,E1,fr,cl,e1,fun vs H1 hl ⟨F,A,fr1⟩=>?_⟩
 simp only at e
 split at e
 ·rename_i j ld
  split at e
  ·rename_i hj
   cases e
   obtain⟨r,A',fr2⟩:=fr1.looks hl ld
   obtain⟨v,rfl,r'⟩:=r.one
   cases r'
   exact⟨j,rfl,by omega,by omega,q B _ _ (Same.refl _) ⟨F,A',fr2⟩ qy⟩
  ·cases e
 ·cases e
theorem ze (hg:Gl X "range") (hm:X.mg "range"=none) (ha:AX X [e,e2] m g) (hs:starEach [e,e2] X.env=[(false,eval e X.env),(false,eval e2 X.env)]:=by rfl) (hs2:starEach [e2] X.env=[(false,eval e2 X.env)]:=by rfl):IX X tg (.Call (.Name "range" p) [e,e2] [] pos) m (qx g):=tW (yN hg hm ha hs hs2) fun σ H R z=>by
 obtain⟨B,E,xs,Xs,ds,E',fr,cl,e,q⟩:=z
 obtain⟨⟨rs,E1⟩,e1,e⟩:=Option.bind_eq_some_iff.mp e
 refine⟨B,E,xs,Xs,rs,E1,fr,cl,e1,fun vs H1 hl ⟨F,A,fr1⟩=>?_⟩
 simp only at e
 split at e
 ·rename_i i j ld
  split at e
  ·rename_i hj
   cases e
   obtain⟨r,A',fr2⟩:=fr1.looks hl ld
   obtain⟨v,u,rfl,r1,r2⟩:=r.two
   cases r1;cases r2
   exact⟨i,j,rfl,by omega,q B _ _ (Same.refl _) ⟨F,A',fr2⟩ qy⟩
  ·cases e
 ·cases e
end
def bb(tg:gS)(body:de):List PyData→de
 |[],E=>some (E,.nx)
 |d::ds,E=>((tg d E).bind body).bind fun a=>match a.2 with
  |.nx=>bb tg body ds a.1
  |.ct=>bb tg body ds a.1
  |.bk=>some (a.1,.nx)
  |.rt r=>some (a.1,.rt r)
def cw(it:pB)(tg:gS)(body:de):de:=fun E=>(it E).bind fun a=>bb tg body a.1 a.2
theorem eL{X:Cx}{tg iter:Expr}{body:List Stmt}{m:Bool}{it:pB}{g:gS}{b:de}{pos:Pos}(hp:PassesOwn (model X.prog X.w) X.A X.env X.xe)(hc:X.calm=true)(hi:IX X tg iter m it)(hg:GX X tg g)(hb:y0 X body b)
  (hs:∀x,foldedSetIterable iter X.env x=pure x:=by intro _;rfl):SX X (.For tg iter body [] pos) (cw it g b):=lM (EQ hp hc hi hg hb hs) fun D σ H z=>by
 obtain⟨B,E,xs,Xs,E',fl,fr,cl,e,q⟩:=z
 obtain⟨⟨ds,E1⟩,e1,e⟩:=Option.bind_eq_some_iff.mp e
 refine⟨B,E,xs,Xs,ds,E1,fr,fun _=>Calm.nil cl,e1,fun B' J H1 hB fr1 ok=>?_⟩
 refine⟨fun i mm σ' H'=>mm=ds.length - i∧i≤ds.length∧∃Ei,bb g b (ds.drop i) Ei=some (E',fl)∧Frm X.K B' σ' H' Ei xs Xs,⟨ds.length,by simp,Nat.zero_le _,E1,by simpa using e,fr1⟩,?_⟩
 rintro i mm σ' H' ⟨rfl,hi,Ei,ei,F,A,fri⟩
 obtain⟨go,stop⟩:=ok i (Same.refl _) fri
 by_cases hlt:i < ds.length
 ·obtain⟨d,ed⟩:∃d,ds[i]? =some d:=⟨ds[i],List.getElem?_eq_getElem hlt⟩
  obtain⟨g1,yl⟩:=go d ed
  have edr:ds.drop i=d::ds.drop (i+1):=by
   rw[List.drop_eq_getElem_cons hlt]
   congr 1
   exact Option.some.inj ((List.getElem?_eq_getElem hlt).symm.trans ed)
  rw[edr]at ei
  obtain⟨⟨E2,f2⟩,e2,ei⟩:=Option.bind_eq_some_iff.mp ei
  obtain⟨E3,e3,e2⟩:=Option.bind_eq_some_iff.mp e2
  refine .inr ⟨g1,fun σ2 H2=>∃Ej,bb g b (ds.drop (i+1)) Ej=some (E',fl)∧Frm X.K B' σ2 H2 Ej xs Xs,fun σ2 H2 ⟨Ej,ej,frj⟩=>⟨ds.length - (i+1),by omega,rfl,hlt,Ej,ej,frj⟩,fun x H2 y=>?_⟩
  refine⟨B',Ei,xs,Xs,d,E3,yl x H2 y,Still.nil cl,e3,fun σ3 H3 fr3=>?_⟩
  refine⟨B',E3,xs,Xs,E2,f2,fr3,cl,e2,?_⟩
  cases f2 with
  |nx=>exact fun σ4 H4 fr4=>⟨E2,ei,fr4⟩
  |ct=>exact fun σ4 H4 fr4=>⟨E2,ei,fr4⟩
  |bk=>cases ei;exact fun σ4 H4 fr4=>q _ _ (fr4.base hB)
  |rt r=>cases ei;exact fun σ4 v H4 fr4=>q _ _ _ (fr4.base hB)
 ·have e0:i=ds.length:=by omega
  refine .inl ⟨stop e0,?_⟩
  rw[e0,List.drop_length]at ei
  cases ei
  exact q _ _ (Frm.base ⟨F,A,fri⟩ hB)
def bF:Sl→Bool
 |.sh d=>dL d
 |.ow ds=>bE ds
 |.tx ps=>ps.all fun p=>match p with |.fl d=>dL d |.ol ds=>bE ds
 |.od kvs=>kvs.all fun p=>bE p.2
 |_=>false
def bd(n:Nat)(ds:List PyData):List Sl:=ds.map .sh++List.replicate (n - ds.length) .no
def bS(r:Sl):Option Sl:=if bF r then some r else match r with
 |.sh d=>some (.br d)
 |.ow ds=>some (.br (.list ds))
 |.tx ps=>some (.br (.tuple (ps.map Pt.val)))
 |.br d=>some (if dL d then .sh d else .br d)
 |_=>none
def gA(n:Nat)(g:de):List PyData→Option Sl:=fun ds=>(g (bd n ds)).bind fun a=>match a.2 with
 |.rt r=>bS r
 |.nx=>some (.sh .none)
 |_=>none
section
variable {K:PySem.W.Frag} {B F:Hp} {A:List Addr} {σ:oZ} {H:Hp} {E:List Sl} {v:V} {r:Sl}
theorem DlOk.cold{F H:Hp}(sF:Same F H):∀{us:List (iP×V)} {kvs:List (iP×List PyData)} {A:List Addr},(∀p∈kvs,bE p.2=true)→DlOk K F H us kvs A→DlOk K (tups H) H us kvs A
 |[],[],A,_,h=>h
 |p::us,q::kvs,A,c,h=>by
  obtain⟨l,vs,A',rfl,rfl,hl,hr,k⟩:=h
  exact⟨l,vs,A',rfl,rfl,hl,(hr.same sF).cold (c q (List.mem_cons_self ..)),DlOk.cold sF (fun p hp=>c p (List.mem_cons_of_mem _ hp)) k⟩
 |[],_::_,_,_,h=>False.elim h
 |_::_,[],_,_,h=>False.elim h
theorem PtsOk.cold{F H G:Hp}(sF:Same F H)(tG:∀{v:V} {d:PyData},Rp K F v d→dL d=true→Rp K G v d):∀{vs:List V} {ps:List Pt} {A:List Addr},(∀p∈ps,(match p with |.fl d=>dL d |.ol ds=>bE ds)=true)→PtsOk K F H vs ps A→PtsOk K G H vs ps A
 |[],[],A,_,h=>h
 |v::vs,.fl d::ps,A,c,h=>⟨tG h.1 (c (.fl d) (List.mem_cons_self ..)),PtsOk.cold sF tG (fun p hp=>c p (List.mem_cons_of_mem _ hp)) h.2⟩
 |v::vs,.ol ds::ps,A,c,h=>by
  obtain⟨l,us,A',rfl,rfl,hl,hr,q⟩:=h
  refine⟨l,us,A',rfl,rfl,hl,?_,q.cold sF tG fun p hp=>c p (List.mem_cons_of_mem _ hp)⟩
  have cd:bE ds=true:=c (.ol ds) (List.mem_cons_self ..)
  have key:∀{us:List V} {ds:List PyData},RpA K F us ds→bE ds=true→RpA K G us ds:=fun {us ds} r c=>by
   induction us generalizing ds with
   |nil=>cases r;exact .nil
   |cons u us ih=>
    cases r with
    |cons r1 r2=>
     simp only[bE,Bool.and_eq_true]at c
     exact .cons (tG r1 c.1) (ih r2 c.2)
  exact key hr cd
 |[],_::_,_,_,h=>False.elim h
 |_::_,[],_,_,h=>False.elim h
theorem FrF.result(h:FrF K B F A σ H E [v] [r])(c:bF r=true):Same B H∧xN K B H v r:=by
 refine⟨h.bf.trans h.fh,?_⟩
 have nB:∀a,F a=none→B a=none:=fun a e=>h.bf.free e
 have cold:∀{v:V} {d:PyData},Rp K F v d→dL d=true→Rp K (tups H) v d:=fun r f=>(r.same h.fh).cold f
 obtain⟨v',A1,ev,hs⟩:=h.ext (k:=0) rfl
 cases ev
 obtain⟨o,C0,C1,C2,eA,eo,hp,_⟩:=h.sl.at (k:=0) (s:=r) rfl
 cases eo
 have sub:∀a∈C1,F a=none:=fun a ha=>h.fr a (by rw[eA];simp[ha])
 have nd:C1.Nodup:=by
  have:=h.nd
  rw[eA]at this
  exact(List.nodup_append.mp (List.nodup_append.mp this).2.1).1
 cases r with
 |sh d=>obtain⟨_,w,ew,r⟩:=hp;cases ew;exact cold r c
 |ow ds=>
  obtain⟨l,vs,el,rfl,hl,r⟩:=hp
  cases el
  exact⟨l,vs,rfl,nB l (sub l (by simp)),hl,(r.same h.fh).cold c⟩
 |tx ps=>
  obtain⟨t,vs,et,ht,r⟩:=hp
  cases et
  exact⟨t,vs,C1,rfl,nz (h.fh _ _ ht) rfl,nd,fun a ha=>nB a (sub a ha),r.cold h.fh cold (by simpa[bF,List.all_eq_true]using c)⟩
 |no=>cases c
 |od kvs=>
  obtain⟨l,us,A',el,rfl,hl,r⟩:=hp
  cases el
  exact⟨l,us,A',rfl,nd,fun a ha=>nB a (sub a ha),hl,r.cold h.fh (by simpa[bF,List.all_eq_true]using c)⟩
 |al i=>cases c
 |br d=>cases c
theorem FrF.resultO{r':Sl}(h:FrF K B F A σ H E [v] [r])(c:bS r=some r'):Same B H∧xN K B H v r':=by
 unfold bS at c
 split at c
 ·rename_i hc
  cases c
  exact h.result hc
 ·refine⟨h.bf.trans h.fh,?_⟩
  cases r with
  |sh d=>cases c;exact(h.look0 (d:=d) rfl).1
  |ow ds=>cases c;exact(h.look0 (d:=.list ds) rfl).1
  |tx ps=>cases c;exact(h.look0 (d:=.tuple (ps.map Pt.val)) rfl).1
  |br d=>
   have r:=(h.look0 (d:=d) rfl).1
   simp only at c
   split at c
   ·rename_i hf
    cases c
    exact r.cold hf
   ·cases c
    exact r
  |no=>cases c
  |od kvs=>cases c
  |al i=>cases c
theorem tY{N:List Str}{vs:List V}{ds:List PyData}(r:RpA K H vs ds)(hn:ds.length≤N.length):FrF K H H [] (L2.lH N vs) H (bd N.length ds) [] []:=by
 refine⟨Same.refl _,Same.refl _,oo H,?_,List.nodup_nil,fun a ha=>(by cases ha),rfl,?_⟩
 ·have l:=r.len
  unfold L2.lH bd
  rw[l]
  generalize N.length - ds.length=k
  have base:∀τ:oZ,SAll (SlOk K H H τ) (List.replicate k none) (List.replicate k .no) []:=fun τ=>by
   induction k with
   |zero=>exact .nil
   |succ k ih=>exact .cons (A:=[]) rfl ih
  have key:∀(τ:oZ) {us:List V} {es:List PyData},RpA K H us es→SAll (SlOk K H H τ) (us.map some++List.replicate k none) (es.map .sh++List.replicate k .no) []:=fun τ us es r=>by
   induction us generalizing es with
   |nil=>cases r;exact base τ
   |cons u us ih=>
    cases r with
    |cons r1 r2=>exact .cons (A:=[]) ⟨rfl,_,rfl,r1⟩ (ih _ r2)
  exact key _ r
 ·intro s hs
  unfold bd at hs
  rcases List.mem_append.mp hs with hs |hs
  ·obtain⟨d,_,rfl⟩:=List.mem_map.mp hs
   rfl
  ·rw[(List.mem_replicate.mp hs).2]
   rfl
end
def dN(k n:Nat)(g:de):List PyData→Option Sl:=fun ds=>if ds.length=k then gA n g ds else none
theorem eM{P:Program}{w:World}{K:PySem.W.Frag}{mg:Str→Option Value}{base:Heap}{x:Str}{st:Stmt}{N ps:List Str}{k a n:Nat}{g:de}(D:Def K mg x st ps)(S:FnScope N ps (ah st))(hpa:ps.length=a)(hNn:N.length=n)(hps:a≤n)
  (hbody:∀(f:Addr) (cdv:Value) (A:Around) (outer:List Env) (s:Shared) (H:Hp) (E:XK),Room k (A.deeper (PyProof.Rows.envOfC x (ah st) s.heap.objs.size f cdv))→
   y0 (rJ yY P w K mg base N x (ah st) f cdv A outer s H E).nox (av st) g):Own P w K mg base (k+1) x ps (bZ K (dN a n g)):=by
 subst hpa hNn
 refine D.own S (fun vs H Q E h=>?_) (fun f cdv A outer s H vs Q E hr h=>?_)
 ·obtain⟨ds,r,e,rp,_⟩:=h
  unfold dN at e
  split at e
  ·rename_i hl
   rw[rp.len];exact hl
  ·cases e
 obtain⟨ds,r,e,rp,q⟩:=h
 unfold dN at e
 split at e
 ·rename_i hl
  refine⟨_,hbody f cdv A outer s H E hr,?_⟩
  obtain⟨⟨E',fl⟩,e1,e⟩:=Option.bind_eq_some_iff.mp e
  refine⟨H,bd N.length ds,[],[],E',fl,⟨H,[],tY rp (by omega)⟩,rfl,e1,?_⟩
  cases fl with
  |nx=>
   cases e
   rintro σ' H' ⟨F',A',fr'⟩
   exact q _ _ (fr'.bf.trans fr'.fh) .non
  |bk=>cases e
  |ct=>cases e
  |rt r'=>
   rintro σ' v H' ⟨F',A',fr'⟩
   obtain⟨s1,s2⟩:=fr'.resultO e
   exact q v H' s1 s2
 ·cases e
theorem IV{P:Program}{w:World}{K:PySem.W.Frag}{mg:Str→Option Value}{base:Heap}{x:Str}{st:Stmt}{N ps:List Str}{k a n:Nat}{g:de}{f0:Addr}{fd:FuncData}(D:Fun K x x st f0 fd)(S:FnScope N ps (ah st))(hpa:ps.length=a)(hNn:N.length=n)(hps:a≤n)
  (hbody:∀(cdv:Value) (A:Around) (outer:List Env) (s:Shared) (H:Hp) (E:XK),Room k (A.deeper (PyProof.Rows.envOfC x (ah st) s.heap.objs.size f0 cdv))→
   y0 (rJ yY P w K mg base N x (ah st) f0 cdv A outer s H E).nox (av st) g):FnOk P w K mg base yY (k+1) f0 fd ps (bZ K (dN a n g)):=by
 subst hpa hNn
 refine D.ok S (fun vs H Q E h=>?_) (fun cdv A outer s H vs Q E hr h=>?_)
 ·obtain⟨ds,r,e,rp,_⟩:=h
  unfold dN at e
  split at e
  ·rename_i hl
   rw[rp.len];exact hl
  ·cases e
 obtain⟨ds,r,e,rp,q⟩:=h
 unfold dN at e
 split at e
 ·rename_i hl
  refine⟨_,hbody cdv A outer s H E hr,?_⟩
  obtain⟨⟨E',fl⟩,e1,e⟩:=Option.bind_eq_some_iff.mp e
  refine⟨H,bd N.length ds,[],[],E',fl,⟨H,[],tY rp (by omega)⟩,rfl,e1,?_⟩
  cases fl with
  |nx=>
   cases e
   rintro σ' H' ⟨F',A',fr'⟩
   exact q _ _ (fr'.bf.trans fr'.fh) .non
  |bk=>cases e
  |ct=>cases e
  |rt r'=>
   rintro σ' v H' ⟨F',A',fr'⟩
   obtain⟨s1,s2⟩:=fr'.resultO e
   exact q v H' s1 s2
 ·cases e
theorem sv{K:PySem.W.Frag}{H:Hp}:∀ns:List Int,RpA K H (ns.map V.int) (ns.map PyData.int)
 |[]=>.nil
 |n::ns=>.cons (.int n) (sv ns)
theorem Fx{K:PySem.W.Frag}{H:Hp}{a:Addr}{ns:List Int}{c:List PyData→Option Sl}(e:c [.list (ns.map .int)]=some (.sh (.bool true)))(h:SqL K H a (ns.map V.int)):bZ K c [.ref a] H (fun v _=>v=.bl true) fun _ _ _=>False:=
 ⟨_,_,e,.cons (.lst h (sv ns)) .nil,fun v H' _ r=>by
  have r':Rp K (tups H') v (.bool true):=r
  cases r'
  rfl⟩
end PL
namespace PL
open PySem L2 Nh
def o5(E:List Sl):Option Nat→Sl
 |none=>.no
 |some j=>match (E[j]?).bind Sl.val with
  |some d=>.sh d
  |none=>.no
def ja(js:List (Option Nat))(E:List Sl):List Sl:=js.map (o5 E)
def bK:mq:=fun E=>some (true,E)
def cf(tg:gS)(cond:mq)(elt:bC):List PyData→List Sl→Option (List PyData)
 |[],_=>some []
 |d::ds,E=>(tg d E).bind fun E1=>(cond E1).bind fun b=>if b.1 then (elt b.2).bind fun c=>(frz c.2 c.1).bind fun e=>(cf tg cond elt ds e.2).map fun r=>e.1::r else cf tg cond elt ds b.2
def ba(js:List (Option Nat))(it:pB)(tg:gS)(cond:mq)(elt:bC):bC:=fun E=>(it E).bind fun a=>(cf tg cond elt a.1 (ja js a.2)).bind fun ds=>if bE ds&&decide (ds.length≤1000000)then some (.ow ds,a.2)else none
section
variable {X:Cx} {elt target iter:Expr} {ifs:List Expr} {scope sc:Scope} {cl:List (Str×Addr)} {N:List Str} {pos:Pos} {js:List (Option Nat)} {K:PySem.W.Frag}
theorem A9{B F:Hp}{A:List Addr}{σ:oZ}{H:Hp}{E:List Sl}{xs:List V}{Xs:List Sl}(fr:FrF K B F A σ H E xs Xs)(js:List (Option Nat)):FrF K H H [] (slots js σ) H (ja js E) [] []:=by
 refine⟨Same.refl _,Same.refl _,oo H,?_,List.nodup_nil,fun a ha=>(by cases ha),rfl,fun s hs=>?_⟩
 ·have key:∀(τ:oZ) (ks:List (Option Nat)),SAll (SlOk K H H τ) (slots ks σ) (ja ks E) []:=fun τ ks=>by
   induction ks with
   |nil=>exact .nil
   |cons j ks ih=>
    refine .cons (A:=[]) ?_ ih
    cases j with
    |none=>exact rfl
    |some j=>
     show SlOk K H H τ _ (match (E[j]?).bind Sl.val with |some d=>.sh d |none=>.no) []
     cases ej:E[j]? with
     |none=>exact rfl
     |some s=>
      cases ev:s.val with
      |none=>simp only[Option.bind_some,ev];exact rfl
      |some d=>
       simp only[Option.bind_some,ev]
       obtain⟨o,A1,eo,hs⟩:=fr.var ej
       obtain⟨v,rfl,r,_⟩:=hs.val fr.fh ev
       refine⟨rfl,v,?_,r⟩
       show(σ[j]?).join=some v
       rw[eo]
       rfl
  exact key _ js
 ·obtain⟨j,_,rfl⟩:=List.mem_map.mp hs
  cases j with
  |none=>rfl
  |some j=>
   simp only[o5]
   split <;> rfl
theorem zf{m2 m3:Bool}{tg:gS}{cond:mq}{el:bC}{tt:TT}(htt:∀σ H Q,rt K m2 cond σ H Q→tt σ H Q){B B' F:Hp}{A:List Addr}{σ:oZ}{H1:Hp}{E1:List Sl}{xs:List V}{Xs:List Sl}{ds rs:List PyData}{J:It}{Q:VK}
  (fr1:FrF K B F A σ H1 E1 xs Xs) (B2:Same B' H1) (ok:ww K B' J ds) (e2:cf tg cond el ds (ja js E1)=some rs) (hc:bE rs=true∧rs.length≤1000000) (q:∀v H',Frm K B σ H' E1 (v::xs) (.ow rs::Xs)→Q v H') (l:Addr) (hl:H1 l=none):
  ∃W:Nat→Nat→oZ→Hp→Prop,(∃m,W 0 m (slots js σ) (fS H1 l (.lst [])))∧
 ∀i m σ' H',W i m σ' H'→(J.stop i H'∧Q (.ref l) H')∨(J.go i H'∧∃N:oZ→Hp→Prop,(∀σ' H',N σ' H'→∃m',m' < m∧W (i+1) m' σ' H')∧∀x H2,J.yld i H' x H2→rg K tg x σ' H2 fun σ3 H3=>tt σ3 H3 fun b H4=>
  if b=true then rd K m3 el σ3 H4 fun y H5=>∃ys,H5 l=some (.lst ys)∧ys.length < sizeLine∧N σ3 (fS H5 l (.lst (ys++[y])))else N σ3 H4):=by
 have fr0:=(A9 fr1 js).newl (ds:=[]) .nil hl
 refine⟨fun i mm σ' H'=>mm=ds.length - i∧i≤ds.length∧∃Ei acc rest,cf tg cond el (ds.drop i) Ei=some rest∧rs=acc++rest∧Frm K H1 σ' H' Ei [.ref l] [.ow acc],⟨ds.length,by simp,Nat.zero_le _,_,[],rs,by simpa using e2,rfl,⟨_,_,fr0⟩⟩,?_⟩
 rintro i mm σ' H' ⟨rfl,hi,Ei,acc,rest,ei,er,F',A',fri⟩
 obtain⟨go,stop⟩:=ok i B2 fri
 by_cases hlt:i < ds.length
 ·obtain⟨d,ed⟩:∃d,ds[i]? =some d:=⟨ds[i],List.getElem?_eq_getElem hlt⟩
  obtain⟨g1,yl⟩:=go d ed
  have edr:ds.drop i=d::ds.drop (i+1):=by
   rw[List.drop_eq_getElem_cons hlt]
   congr 1
   exact Option.some.inj ((List.getElem?_eq_getElem hlt).symm.trans ed)
  rw[edr]at ei
  obtain⟨E3,e3,ei⟩:=Option.bind_eq_some_iff.mp ei
  obtain⟨⟨b,E4⟩,e4,ei⟩:=Option.bind_eq_some_iff.mp ei
  refine .inr ⟨g1,fun σ2 H2=>∃Ej acc rest,cf tg cond el (ds.drop (i+1)) Ej=some rest∧rs=acc++rest∧Frm K H1 σ2 H2 Ej [.ref l] [.ow acc],fun σ2 H2 ⟨Ej,ac,rt,ej,er,frj⟩=>⟨ds.length - (i+1),by omega,rfl,hlt,Ej,ac,rt,ej,er,frj⟩,fun x H2 y=>?_⟩
  have clm:Calm [Sl.ow acc]:=Calm.cons (fun s hs=>absurd hs (by simp)) rfl
  refine⟨H1,Ei,[.ref l],[.ow acc],d,E3,yl x H2 y,(fun s hs=>by rw[List.mem_singleton.mp hs];rfl),e3,fun σ3 H3 fr3=>htt _ _ _ ?_⟩
  refine⟨H1,E3,[.ref l],[.ow acc],b,E4,fr3,fun _=>clm,e4,fun H4 fr4=>?_⟩
  cases b with
  |false=>
   rw[if_neg (by decide)]
   exact⟨E4,acc,rest,ei,er,fr4⟩
  |true=>
   rw[if_pos rfl]
   obtain⟨⟨s5,E5⟩,e5,ei⟩:=Option.bind_eq_some_iff.mp ei
   obtain⟨⟨d6,E6⟩,e6,ei⟩:=Option.bind_eq_some_iff.mp ei
   obtain⟨rest',e7,ei⟩:=Option.map_eq_some_iff.mp ei
   subst ei
   refine⟨H1,E4,[.ref l],[.ow acc],s5,E5,fr4,fun _=>clm,e5,fun y5 H5 ⟨F5,A5,fr5⟩=>?_⟩
   obtain⟨F6,A6,fr6⟩:=fr5.frz0 e6
   obtain⟨v',C1,ev,rfl,w,ew,ry⟩:=fr6.ext (k:=0) rfl
   cases ev;cases ew
   obtain⟨A7,fr7⟩:=fr6.pop
   -- the list under way is the one part that owns
   obtain⟨bf,fh,tf,sl,nd,frn,len,pl⟩:=fr7
   generalize hT:List.map some [V.ref l]++σ3=T at sl
   generalize hS:[Sl.ow acc]++E6=S at sl
   cases sl with
   |nil=>cases hS
   |cons q0 r0=>
    injection hT with h1 hT
    injection hS with h2 hS
    subst h1 h2 hT hS
    obtain⟨l',us,el,rfl,hl5,ru⟩:=q0
    cases el
    have lu:=ru.len
    refine⟨us,hl5,small (by rw[er]at hc;simp at hc;omega),E6,acc++[d6],rest',e7,by rw[er];simp,F6,_,bf,fun b o qb=>?_,?_,.cons (A:=[l]) ⟨l,us++[y5],rfl,rfl,dZ,ru.snoc ry⟩ (r0.mono fun o s C hs hC qq=>qq.stay (Same.refl _) (fun b hb=>bq fun z=>?_) fun z=>?_),nd,frn,rfl,pl⟩
    ·have lF:F6 l=none:=frn l (by simp)
     rw[bq (fun z=>by rw[z,lF]at qb;cases qb)]
     exact fh _ _ qb
    ·rw[u5 hl5];exact tf
    ·have:=hC b hb
     rw[z]at this
     exact(List.nodup_cons.mp nd).1 this
    ·have:=pl s hs
     cases s <;> simp[Sl.isAl,Sl.isBr]at this z
 ·have e0:i=ds.length:=by omega
  refine .inl ⟨stop e0,?_⟩
  rw[e0,List.drop_length]at ei
  cases ei
  rw[List.append_nil]at er
  subst er
  obtain⟨g1,g2⟩:=fri.result hc.1
  exact q _ _ (fr1.told g1 g2)
theorem pU{m m2 m3:Bool}{it:pB}{tg:gS}{cond:mq}{el:bC}{tt:TT}(htt:∀σ H Q,rt K m2 cond σ H Q→tt σ H Q){σ:oZ}{H:Hp}{Q:VK}(z:rd K m (ba js it tg cond el) σ H Q):xD js (ri K m it) (rg K tg) tt (rd K m3 el) σ H Q:=by
 obtain⟨B,E,xs,Xs,res,E',fr,cl,e,q⟩:=z
 obtain⟨⟨ds,E1⟩,e1,e⟩:=Option.bind_eq_some_iff.mp e
 obtain⟨rs,e2,e⟩:=Option.bind_eq_some_iff.mp e
 simp only at e
 split at e
 ·rename_i hc
  cases e
  simp only[Bool.and_eq_true,decide_eq_true_eq]at hc
  exact⟨B,E,xs,Xs,ds,_,fr,cl,e1,fun B' J H1 hB ⟨F,A,fr1⟩ ok l hl=>zf htt (fr1.base hB) (fr1.bf.trans fr1.fh) ok e2 hc q l hl⟩
 ·cases e
theorem fE{m m3:Bool}{it:pB}{tg:gS}{el:bC}(C:CompOk X scope sc cl N js)(hc:X.calm=true)(hi:IX X target iter m it)(hg:∀C s₀ H₀ fp,GX (X.comp sc cl N C s₀ H₀ fp) target tg)(he:∀C s₀ H₀ fp,EX (X.comp sc cl N C s₀ H₀ fp) elt m3 el)
  (hs:∀x,foldedSetIterable iter X.env x=pure x:=by intro _;rfl):EX X (.ListComp elt [⟨target,iter,[],0⟩] scope pos) m (ba js it tg bK el):=
 cR (xE (g:=rg X.K tg) (te:=rd X.K m3 el) C hc hi hg (fun _ _ _ _=>xB) he hs) fun σ H Q z=>pU (m2:=false) (fun σ H Q z=>by
  obtain⟨B,E,xs,Xs,b,E',fr,cl,e,q⟩:=z
  cases e
  exact q _ fr) z
theorem ko{c:Expr}{m m2 m3:Bool}{it:pB}{tg:gS}{cond:mq}{el:bC}(C:CompOk X scope sc cl N js)(hc:X.calm=true)(hi:IX X target iter m it)(hg:∀C s₀ H₀ fp,GX (X.comp sc cl N C s₀ H₀ fp) target tg)(ht:∀C s₀ H₀ fp,TX (X.comp sc cl N C s₀ H₀ fp) c m2 cond)(he:∀C s₀ H₀ fp,EX (X.comp sc cl N C s₀ H₀ fp) elt m3 el)
  (hs:∀x,foldedSetIterable iter X.env x=pure x:=by intro _;rfl):EX X (.ListComp elt [⟨target,iter,[c],0⟩] scope pos) m (ba js it tg cond el):=
 cR (xE (g:=rg X.K tg) (te:=rd X.K m3 el) (tt:=rt X.K m2 cond) C hc hi hg (fun _ _ _ _=>xC (ht _ _ _ _)) he hs) fun σ H Q z=>pU (m2:=m2) (fun _ _ _ z=>z) z
end
end PL
namespace PL
open PySem L2 Nh
theorem A_{K:PySem.W.Frag}{m:Bool}{i:Nat}{f:bC}{D:Ends}{σ:oZ}{H:Hp}(z:rs K (aB i f) D σ H):rd K m f σ H fun v H1=>Ar i v σ H1 D.nx:=by
 obtain⟨B,E,xs,Xs,E',fl,fr,cl,e,q⟩:=z
 obtain⟨⟨s,E1⟩,e1,e⟩:=Option.bind_eq_some_iff.mp e
 obtain⟨⟨s',E2⟩,e2,e⟩:=Option.bind_eq_some_iff.mp e
 refine⟨B,E,xs,Xs,s,E1,fr,fun _=>Calm.nil cl,e1,fun v H1 ⟨F,A,fr1⟩=>?_⟩
 obtain⟨c1,F2,A2,fr2⟩:=fr1.settle cl e2
 simp only at e
 split at e
 ·rename_i hi
  cases e
  obtain⟨A3,fr3⟩:=fr2.store c1 (Still.nil cl) hi
  exact q _ _ ⟨F2,A3,fr3⟩
 ·cases e
section
variable {X:Cx} {elt target iter:Expr} {scope sc:Scope} {cl:List (Str×Addr)} {N:List Str} {pos spos px:Pos} {js:List (Option Nat)} {x:Str}
theorem Ba{m m3:Bool}{it:pB}{tg:gS}{el:bC}(i:Nat)(hN:X.N.Nodup)(C:CompOk X scope sc cl N js)(hc:X.calm=true)(h:IX X target iter m it)(hg:∀C s₀ H₀ fp,GX (X.comp sc cl N C s₀ H₀ fp) target tg)(he:∀C s₀ H₀ fp,EX (X.comp sc cl N C s₀ H₀ fp) elt m3 el)
  (hi:X.N[i]? =some x:=by rfl) (hx:D6 X.env.scope x:=by first |exact Or.inl rfl |exact Or.inr rfl) (hf:X.fn x=true∨X.env.scope.names.lookup x=some .local:=by first |exact .inl rfl |exact .inr rfl |assumption)
  (hs:∀x,foldedSetIterable iter X.env x=pure x:=by intro _;rfl) (hsw:swapsWith (.ListComp elt [⟨target,iter,[],0⟩] scope pos) (some (.Name x px)) spos.line X.env=pure true:=by rfl):
  SX X (.Assign [.Name x px] (.ListComp elt [⟨target,iter,[],0⟩] scope pos) spos) (aB i (ba js it tg bK el)):=
 lM (xF (g:=rg X.K tg) (te:=rd X.K m3 el) C hc (tE hN hi hx hf) h hg (fun _ _ _ _=>xB) he hs hsw) fun D σ H z=>pU (m2:=false) (fun σ H Q z=>by
  obtain⟨B,E,xs,Xs,b,E',fr,cl,e,q⟩:=z
  cases e
  exact q _ fr) (A_ z)
theorem Bb{c:Expr}{m m2 m3:Bool}{it:pB}{tg:gS}{cond:mq}{el:bC}(i:Nat)(hN:X.N.Nodup)(C:CompOk X scope sc cl N js)(hc:X.calm=true)(h:IX X target iter m it)(hg:∀C s₀ H₀ fp,GX (X.comp sc cl N C s₀ H₀ fp) target tg)(ht:∀C s₀ H₀ fp,TX (X.comp sc cl N C s₀ H₀ fp) c m2 cond)(he:∀C s₀ H₀ fp,EX (X.comp sc cl N C s₀ H₀ fp) elt m3 el)
  (hi:X.N[i]? =some x:=by rfl) (hx:D6 X.env.scope x:=by first |exact Or.inl rfl |exact Or.inr rfl) (hf:X.fn x=true∨X.env.scope.names.lookup x=some .local:=by first |exact .inl rfl |exact .inr rfl |assumption)
  (hs:∀x,foldedSetIterable iter X.env x=pure x:=by intro _;rfl) (hsw:swapsWith (.ListComp elt [⟨target,iter,[c],0⟩] scope pos) (some (.Name x px)) spos.line X.env=pure true:=by rfl):
  SX X (.Assign [.Name x px] (.ListComp elt [⟨target,iter,[c],0⟩] scope pos) spos) (aB i (ba js it tg cond el)):=
 lM (xF (g:=rg X.K tg) (te:=rd X.K m3 el) (tt:=rt X.K m2 cond) C hc (tE hN hi hx hf) h hg (fun _ _ _ _=>xC (ht _ _ _ _)) he hs hsw) fun D σ H z=>pU (m2:=m2) (fun _ _ _ z=>z) (A_ z)
end
def G8:Const→Option Int
 |.int i=>some i
 |_=>none
def Fy:Expr→Option Int
 | .Constant c _ _=>G8 c
 |_=>none
def mr:List Expr→Option (List Int)
 |[]=>some []
 |e::r=>(Fy e).bind fun i=>(mr r).map (i:: ·)
def sx(ns:List Int):pB:=fun E=>some (ns.map .int,E)
theorem Fz{e:Expr}{i:Int}(h:Fy e=some i):∃k p,e= .Constant (.int i) k p:=by
 unfold Fy at h
 split at h
 ·unfold G8 at h
  split at h
  ·cases h;exact⟨_,_,rfl⟩
  ·cases h
 ·cases h
theorem xP{X:Cx}:∀{es:List Expr} {ns:List Int},mr es=some ns→DX X es false (sx ns)
 |[],ns,h=>by cases h;exact cB
 |e::es,ns,h=>by
  obtain⟨i,h0,h⟩:=Option.bind_eq_some_iff.mp h
  obtain⟨ms,h1,h⟩:=Option.map_eq_some_iff.mp h
  subst h
  obtain⟨k,p,rfl⟩:=Fz h0
  exact cu (m1:=false) (m2:=false) ar (xP h1) rfl
def G9(body:List Stmt)(k:Nat):List Expr:=match body[k]? with
 |some (.Assign _ (.Subscript (.List es _) _ _) _)=>es
 |_=>[]
def Iq(es:List Expr):Stmt→Stmt
 | .Assign t (.Subscript (.List _ p) i q) r=> .Assign t (.Subscript (.List es p) i q) r
 |s=>s
def FA(es:List Expr):Nat→List Stmt→List Stmt
 |_,[]=>[]
 | 0,s::r=>Iq es s::r
 |k+1,s::r=>s::FA es k r
theorem wx{X:Cx}{body:List Stmt}{g:de}(k:Nat)(ns:List Int)(h:mr (G9 body k)=some ns)(hb:FA (G9 body k) k body=body)(key:∀es,mr es=some ns→y0 X (FA es k body) g):y0 X body g:=by
 have:=key _ h
 rw[hb]at this
 exact this
end PL
namespace PL
open PySem L2 Nh
theorem jG{α:Type}(xs:List α)(k:Nat):atI xs (k:Int)=xs[k]? :=by
 unfold atI Go
 rw[if_pos (by omega)]
 split
 ·simp
 ·rw[List.getElem?_eq_none (by omega)];rfl
theorem lz{α:Type}(a:α)(l:List α):atI (a::l) 0=some a:=jG (a::l) 0
theorem qz{α:Type}(a b:α)(l:List α):atI (a::b::l) 1=some b:=jG (a::b::l) 1
theorem jZ{α:Type}(l:List α)(a:α):atI (l++[a]) (-1)=some a:=by
 unfold atI Go
 rw[if_neg (by omega),if_pos (by simp;omega)]
 have e:(-1+(((l++[a]).length:Nat):Int)).toNat=l.length:=by simp;omega
 rw[e]
 simp
theorem FB{α:Type}{xs:List α}{i:Int}(h:0≤i):atI xs i=xs[i.toNat]? :=by
 have e:i=((i.toNat:Nat):Int):=by omega
 rw[e,jG,Int.toNat_natCast]
theorem mv{α:Type}(l:List α)(a:α):(l++[a])[(l++[a]).length - 1]? =some a:=by simp
theorem pV{α:Type}(l:List α)(a:α):(l++[a]).isEmpty=false:=by cases l <;> rfl
theorem kO:∀(a b:List PyData),bE (a++b)=(bE a&&bE b)
 |[],b=>by simp[bE]
 |x::a,b=>by simp[bE,kO a b,Bool.and_assoc]
theorem sy:∀{a:List PyData},(∀d∈a,dL d=true)→bE a=true
 |[],_=>rfl
 |x::a,h=>by simp[bE,h x (List.mem_cons_self ..),sy fun d hd=>h d (List.mem_cons_of_mem _ hd)]
theorem sC{α:Type}{f:α→PyData}(h:∀a,dL (f a)=true)(l:List α):bE (l.map f)=true:=sy fun d hd=>by
 obtain⟨a,_,rfl⟩:=List.mem_map.mp hd
 exact h a
theorem Dg(p:Pc):dL (aC p)=true:=rfl
theorem fF(c:List Pc):bE (c.map aC)=true:=sC Dg c
theorem zg(l:List Int):bE (l.map PyData.int)=true:=sC (fun _=>rfl) l
def ov{α:Type}(l:List α)(lo hi:Option Int):List α:=(l.drop (HT.pR l.length 0 lo)).take (HT.pR l.length l.length hi - HT.pR l.length 0 lo)
theorem qA{α:Type}(f:α→PyData)(l:List α)(lo hi:Option Int):y_ (l.map f) lo hi=(ov l lo hi).map f:=by
 unfold y_ ov
 rw[List.length_map,List.map_take,List.map_drop]
theorem vb{α:Type}(l:List α)(lo hi:Option Int):(ov l lo hi).length≤l.length:=by
 unfold ov
 rw[List.length_take,List.length_drop]
 omega
theorem zh{α:Type}(l:List α){k:Int}(h0:0≤k):ov l (some k) none=l.drop k.toNat:=by
 have e:k=((k.toNat:Nat):Int):=by omega
 have z:∀d,HT.pR l.length d (some k)=min k.toNat l.length:=fun d=>by
  rw[e,HT.tH,Int.toNat_natCast]
 unfold ov
 rw[z,HT.Az]
 rcases Nat.le_total k.toNat l.length with h |h
 ·rw[Nat.min_eq_left h]
  exact List.take_of_length_le (by rw[List.length_drop];omega)
 ·rw[Nat.min_eq_right h,List.drop_length,List.drop_of_length_le h,List.take_nil]
theorem kq(lo:Int)(n:Nat):kl lo (n+1)=.int lo::kl (lo+1) n:=by
 unfold kl
 rw[List.range_succ_eq_map,List.map_cons,List.map_map]
 simp only[Int.natCast_zero,Int.add_zero]
 congr 1
 refine List.map_congr_left fun k _=>?_
 show PyData.int (lo+((k+1:Nat):Int))=PyData.int (lo+1+(k:Int))
 congr 1
 omega
end PL
namespace L2
open PySem PySem.Spec PyProof.Rows
def HB(x:Str):It:=⟨fun i _=>i < x.cps.toList.length,fun i H v H'=>H'=H∧∃c,x.cps.toList[i]? =some c∧v=.str ⟨#[c]⟩,fun i _=>i=x.cps.toList.length⟩
theorem Bc {P:Program} {w:World} {K:PySem.W.Frag} {tg:Expr} {it:Addr} {T:String} {x:Str} {t:Tok} (hT:T="str_ascii_iterator"∨T="str_iterator"):Turn P w K tg (HB x) [it] it (fun i h=>h.IsStrIter it T x t i) where
 mem:=by simp
 obj:=fun i h st b hb=>by
  have e:b=it:=by simpa using hb
  subst e
  obtain⟨o,e,c,d⟩:=st
  exact⟨o,e,fun v z=>by rw[d]at z;cases z⟩
 keep:=fun i h h' st k=>let ⟨o,ho,r⟩:=st;⟨o,k it (by simp) o ho,r⟩
 item:=by
  intro X hP hw hK hc i pins s σ H E I hf st hg
  subst hP hw hK
  obtain⟨f0,f1,f2,f3,f4,f5⟩:=hf it (by simp)
  have hi:i < x.cps.toList.length:=hg
  have hx:x.cps[i]? =some (x.cps.toList[i]'hi):=by simp at hi;simp[hi]
  have fin:∀(h':Heap),h'.IsStrIter it T x t (i+1)→Heap.SameBut it s.heap h'→∃u,some (Value.str ⟨#[x.cps.toList[i]'hi]⟩ s.toks)=some u∧
    wpAny (model X.prog X.w) X.A (letOwnedTupleGo tg (.ref it) u) (fun _ s2=>∃v H',Inv X pins σ H' s2∧RelV v u∧(HB x).yld i H v H'∧s2.heap.IsStrIter it T x t (i+1)∧∀b∈[it],H' b=none) E {s with heap:=h',toks:=s.toks+1}:=fun h' st' sb=>by
   have I1:Inv X pins σ H {s with heap:=h',toks:=s.toks+1}:=I.turned (t':=s.toks+1) (fun b o hb e=>(sb.2 b hb).trans e) f0 f1 f3 f4 f5
   obtain⟨o,e,c,d⟩:=id st'
   exact⟨_,rfl,uS (s:={s with heap:=h',toks:=s.toks+1}) e c d (by rcases hT with rfl |rfl <;> decide) ⟨.str ⟨#[x.cps.toList[i]'hi]⟩,H,I1,⟨_,rfl⟩,⟨rfl,_,List.getElem?_eq_getElem hi,rfl⟩,st',fun b hb=>(hf b hb).1⟩⟩
  rcases hT with rfl |rfl
  ·exact wpAny_pyNext_ascii_item st hx fun h' st' sb=>fin h' st' sb
  ·exact wpAny_pyNext_wide_item st hx fun h' st' sb=>fin h' st' sb
 done:=by
  intro X hP hw hK hc i pins s σ H E I hf st hg
  subst hP hw hK
  obtain⟨f0,f1,f2,f3,f4,f5⟩:=hf it (by simp)
  have hi:i=x.cps.toList.length:=hg
  have hx:x.cps[i]? =none:=by simp at hi;simp[hi]
  rcases hT with rfl |rfl
  ·exact wpAny_pyNext_ascii_end (I.ok.hd hc) st hx fun h' eb=>⟨rfl,I.turned (t':=s.toks) (fun b o hb e=>eb b o hb e) f0 f1 f3 f4 f5⟩
  ·exact wpAny_pyNext_wide_end (I.ok.hd hc) st hx fun h' eb=>⟨rfl,I.turned (t':=s.toks) (fun b o hb e=>eb b o hb e) f0 f1 f3 f4 f5⟩
 self:=fun _ _ _ _ _ st h=>by
  rcases hT with rfl |rfl
  ·exact wpAny_pyIter_striter_ascii st h
  ·exact wpAny_pyIter_striter_wide st h
def Ir(tl:TE):TI:=fun σ H R=>tl σ H fun v H1=>∃x,v=.str x∧R (HB x) H1
theorem FC{X:Cx}{tg l:Expr}{tl:TE}(hl:PE X l tl):PI X tg l (Ir tl):=by
 intro pins s σ H R I h
 refine gV (hl pins s σ H _ I h) fun v s1 ⟨y,H1,I1,r1,q1⟩=>?_
 obtain⟨x,e,q⟩:=q1
 subst e
 obtain⟨t,rfl⟩:=r1
 refine wpAny_pyIter_strU ?_
 refine⟨s1.heap.objs.size,[s1.heap.objs.size],fun i h=>h.IsStrIter s1.heap.objs.size (strIterType x) x t i,_,H1,rfl,I1.kept (t':=s1.toks) fun b o e=>Heap.get?_push_of_some _ e,Bc (t:=t) ?_,⟨_,Heap.get?_push_size _ rfl,rfl,rfl⟩,fun b hb=>?_,q⟩
 ·unfold strIterType
  split
  ·exact .inl rfl
  ·exact .inr rfl
 ·have e:b=s1.heap.objs.size:=by simpa using hb
  subst e
  exact I1.fpOk (Nat.le_refl _) (I1.hok.fresh (Nat.le_refl _))
theorem PI.or{X:Cx}{tg l:Expr}{a b:TI}(h1:PI X tg l a)(h2:PI X tg l b):PI X tg l (fun σ H R=>a σ H R∨b σ H R):=by
 intro pins s σ H R I h
 rcases h with h |h
 ·exact h1 pins s σ H R I h
 ·exact h2 pins s σ H R I h
end L2
namespace PL
open PySem L2 Nh
def j7(x:Str):List PyData:=x.cps.toList.map fun c=>.str ⟨#[c]⟩
def aQ(f:bC):pB:=fun E=>(f E).bind fun a=>(frz a.2 a.1).bind fun b=>match b.1 with
 |.list ds=>some (ds,b.2)
 |.tuple ds=>some (ds,b.2)
 |.str x=>some (j7 x,b.2)
 |_=>none
section
variable {X:Cx} {K:PySem.W.Frag} {B:Hp}
theorem Bd{x:Str}:ww K B (HB x) (j7 x):=fun {B' F A σ H E xs Xs} i sB fr=>by
 refine⟨fun d ed=>?_,fun e=>by show i=x.cps.toList.length;rw[e];simp[j7]⟩
 unfold j7 at ed
 rw[List.getElem?_map]at ed
 obtain⟨c,ec,rfl⟩:=Option.map_eq_some_iff.mp ed
 refine⟨(List.getElem?_eq_some_iff.mp ec).1,fun z H2 ⟨e1,c',e2,e3⟩=>?_⟩
 rw[ec]at e2;cases e2
 subst e1 e3
 exact⟨F,A,fr.push ⟨rfl,_,rfl,.str _⟩⟩
theorem Be{a:Addr}{vs:List V}{ds:List PyData}(h:SqT K B a vs)(r:RpA K B vs ds):ww K B (HS K a) ds:=fun {B' F A σ H E xs Xs} i sB fr=>by
 have hH:=fr.fh.tup (fr.bf.tup (sB.tup h))
 refine⟨fun d ed=>?_,fun e=>⟨vs,hH,by rw[e,r.len];exact Nat.le_refl _⟩⟩
 obtain⟨v,ev,rv⟩:=r.get ed
 refine⟨⟨vs,v,hH,ev⟩,fun x H2 ⟨e2,y⟩=>?_⟩
 subst e2
 have:=y vs hH
 rw[ev]at this
 cases this
 exact⟨F,A,fr.push ⟨rfl,_,rfl,rv.same (sB.trans fr.bf)⟩⟩
theorem b_{tg e:Expr}{m:Bool}{f:bC}(he:EX X e m f):IX X tg e m (aQ f):=tW (PI.or (CL he) (PI.or (EO he) (FC he))) fun σ H R z=>by
 obtain⟨B,E,xs,Xs,ds,E',fr,cl,e,q⟩:=z
 obtain⟨⟨s,E1⟩,e1,e⟩:=Option.bind_eq_some_iff.mp e
 obtain⟨⟨d,E2⟩,e2,e⟩:=Option.bind_eq_some_iff.mp e
 have key:∀(v:V) (H1:Hp),Frm X.K B σ H1 E1 (v::xs) (s::Xs)→∃F2 A2 A3,Rp X.K F2 v d∧Same B F2∧FrF X.K F2 F2 A3 σ H1 E2 xs Xs∧FrF X.K B F2 A2 σ H1 E2 (v::xs) (.sh d::Xs):=fun v H1 ⟨F,A,fr1⟩=>by
  obtain⟨F2,A2,fr2⟩:=fr1.frz0 e2
  obtain⟨v',A1,ev,rfl,w,ew,r⟩:=fr2.ext (k:=0) rfl
  cases ev;cases ew
  obtain⟨A3,fr3⟩:=fr2.pop
  exact⟨F2,A2,A3,r,fr2.bf,fr3.raise,fr2⟩
 simp only at e
 split at e
 ·cases e
  refine .inl ⟨B,E,xs,Xs,s,E1,fr,cl,e1,fun v H1 fr1=>?_⟩
  obtain⟨F2,A2,A3,r,sb,fr3,fr2⟩:=key v H1 fr1
  cases r with
  |lst h1 h2=>exact⟨_,rfl,⟨_,fr2.fh.seq h1⟩,q F2 _ _ sb ⟨F2,A3,fr3⟩ (zd h1 h2)⟩
 ·cases e
  refine .inr (.inl ⟨B,E,xs,Xs,s,E1,fr,cl,e1,fun v H1 fr1=>?_⟩)
  obtain⟨F2,A2,A3,r,sb,fr3,fr2⟩:=key v H1 fr1
  cases r with
  |tup h1 h2=>exact⟨_,rfl,⟨_,fr2.fh.tup h1⟩,q F2 _ _ sb ⟨F2,A3,fr3⟩ (Be h1 h2)⟩
 ·cases e
  refine .inr (.inr ⟨B,E,xs,Xs,s,E1,fr,cl,e1,fun v H1 fr1=>?_⟩)
  obtain⟨F2,A2,A3,r,sb,fr3,fr2⟩:=key v H1 fr1
  cases r
  exact⟨_,rfl,q F2 _ _ sb ⟨F2,A3,fr3⟩ Bd⟩
 ·cases e
end
end PL
namespace PL
open PySem L2 Nh
inductive Cm where
 |lt |le |gt |ge
def Cm.op:Cm→CmpOp
 |.lt=> .Lt
 |.le=> .LtE
 |.gt=> .Gt
 |.ge=> .GtE
def Cm.i:Cm→Int→Int→Bool
 |.lt,i,j=>decide (i < j)
 |.le,i,j=>decide (i≤j)
 |.gt,i,j=>decide (j < i)
 |.ge,i,j=>decide (j≤i)
def Cm.s:Cm→List Nat→List Nat→Bool
 |.lt,i,j=>decide (i < j)
 |.le,i,j=> !decide (j < i)
 |.gt,i,j=>decide (j < i)
 |.ge,i,j=> !decide (i < j)
def iQ(c:Cm):PyData→PyData→Option PyData
 |.int i,.int j=>some (.bool (c.i i j))
 |.str x,.str y=>some (.bool (c.s x.cps.toList y.cps.toList))
 |_,_=>none
def IK(c:Cm):R2:=fun x y H Q=>(∃i j,x=.int i∧y=.int j∧Q (.bl (c.i i j)) H)∨(∃i j,x=.str i∧y=.str j∧Q (.bl (c.s i.cps.toList j.cps.toList)) H)
section
variable {X:Cx} {a b c:Expr} {m1 m2 m3:Bool} {f g h:bC} {pos:Pos} {K:PySem.W.Frag}
theorem xQ(c:Cm):OpR X (compareOp c.op) (IK c):=by
 cases c with
 |lt=>exact OpR.or GK yP
 |le=>exact OpR.or GL (fun pins s σ H x y v u Q I rx ry h=>by
   obtain⟨i,j,rfl,rfl,q⟩:=h
   obtain⟨t,rfl⟩:=rx
   obtain⟨t',rfl⟩:=ry
   exact PySem.P.le_str (bu I q rfl))
 |gt=>exact OpR.or GM (fun pins s σ H x y v u Q I rx ry h=>by
   obtain⟨i,j,rfl,rfl,q⟩:=h
   obtain⟨t,rfl⟩:=rx
   obtain⟨t',rfl⟩:=ry
   exact PySem.P.gt_str (bu I q rfl))
 |ge=>exact OpR.or GN (fun pins s σ H x y v u Q I rx ry h=>by
   obtain⟨i,j,rfl,rfl,q⟩:=h
   obtain⟨t,rfl⟩:=rx
   obtain⟨t',rfl⟩:=ry
   exact PySem.P.ge_str (bu I q rfl))
theorem xR(c:Cm):y9 K (IK c) (iQ c):=fun d1 d2 d v1 v2 H Q e r1 r2=>by
 unfold iQ at e
 split at e
 ·cases e;cases r1;cases r2
  exact⟨_,rfl,fun q=>.inl ⟨_,_,rfl,rfl,q⟩⟩
 ·cases e;cases r1;cases r2
  exact⟨_,rfl,fun q=>.inr ⟨_,_,rfl,rfl,q⟩⟩
 ·cases e
theorem sD(c:Cm)(b:Expr):behindInMarks c.op b=false:=by cases c <;> exact tF _
theorem G_(c:Cm)(ha:EX X a m1 f)(hb:EX X b m2 g):EX X (.Compare a [c.op] [b] pos) (m1||m2) (ag (fD (iQ c)) m2 f g):=wq (xQ c) (lQ (xR c)) ha hb (sD c b)
theorem xS(c:Cm)(ha:EX X a m1 f)(hb:EX X b m2 g):TX X (.Compare a [c.op] [b] pos) (m1||m2) (cV (ag (fD (iQ c)) m2 f g)):=qm (xQ c) (lQ (xR c)) ha hb (sD c b)
theorem Ha(c1 c2:Cm)(ha:EX X a m1 f)(hb:EX X b m2 g)(hc:EX X c m3 h)(hm:lastMarks [c1.op,c2.op] [b,c]=false:=by with_unfolding_all rfl):EX X (.Compare a [c1.op,c2.op] [b,c] pos) (m1||(m2||m3)) (qp (iQ c1) (iQ c2) m2 m3 f g h):=AR (xQ c1) (xQ c2) (xR c1) (xR c2) ha hb hc hm
def wy:P2:=fD (pS (fun _ j=>decide (0≤j)) fun i j=>.int (i / 2 ^ j.toNat))
def tZ:P2:=fD (pS (fun _ _=>true) fun i j=>.int (Builtin.bitAnd i j))
theorem Bf(ha:EX X a m1 f)(hb:EX X b m2 g):EX X (.BinOp a .RShift b pos) (m1||m2) (ag wy m2 f g):=oW (r:=Ed (fun _ j=>decide (0≤j)) fun i j=>.int (i / 2 ^ j.toNat)) (OpR.imp EY fun x y H Q ⟨i,j,a,b,c,q⟩=>⟨i,j,a,b,of_decide_eq_true c,q⟩) (oq fun _ _=>rfl) ha hb
theorem t5(ha:EX X a m1 f)(hb:EX X b m2 g):EX X (.BinOp a .BitAnd b pos) (m1||m2) (ag tZ m2 f g):=oW (r:=Ed (fun _ _=>true) fun i j=>.int (Builtin.bitAnd i j)) (OpR.imp EZ fun x y H Q ⟨i,j,a,b,_,q⟩=>⟨i,j,a,b,q⟩) (oq fun _ _=>rfl) ha hb
def isInt:PyData→Option Int
 |.int x=>some x
 |_=>none
def jb:List PyData→Option (List Str)
 |[]=>some []
 |.str x::ds=>(jb ds).map fun xs=>x::xs
 |_::_=>none
def t6:List PyData→Option (List Int)
 |[]=>some []
 |.int x::ds=>(t6 ds).map fun xs=>x::xs
 |_::_=>none
theorem kr:∀{ds:List PyData} {xs:List Str},jb ds=some xs→ds=xs.map .str
 |[],xs,h=>by cases h;rfl
 |d::ds,xs,h=>by
  cases d with
  |str x=>
   obtain⟨ys,e,rfl⟩:=Option.map_eq_some_iff.mp h
   rw[kr e];rfl
  |_=>cases h
theorem oz:∀{ds:List PyData} {xs:List Int},t6 ds=some xs→ds=xs.map .int
 |[],xs,h=>by cases h;rfl
 |d::ds,xs,h=>by
  cases d with
  |int x=>
   obtain⟨ys,e,rfl⟩:=Option.map_eq_some_iff.mp h
   rw[oz e];rfl
  |_=>cases h
theorem lT{H:Hp}:∀{vs:List V} {xs:List Str},RpA K H vs (xs.map .str)→vs=xs.map .str
 |[],[],_=>rfl
 |v::vs,x::xs,.cons h r=>by cases h;rw[lT r];rfl
theorem qB{H:Hp}:∀{vs:List V} {xs:List Int},RpA K H vs (xs.map .int)→vs=xs.map .int
 |[],[],_=>rfl
 |v::vs,x::xs,.cons h r=>by cases h;rw[qB r];rfl
def Ek:PyData→PyData→Option Bool
 |.str x,.str y=>some (!(Builtin.Str.occurrences y x 0 y.length 1).isEmpty)
 |.str x,.list ds=>(jb ds).map fun xs=>xs.contains x
 |.str x,.tuple ds=>(jb ds).map fun xs=>xs.contains x
 |.int x,.list ds=>(t6 ds).map fun xs=>xs.contains x
 |.int x,.tuple ds=>(t6 ds).map fun xs=>xs.contains x
 |_,_=>none
def FD(K:PySem.W.Frag)(neg:Bool):R2:=fun x y H Q=>(∃i j,x=.str i∧y=.str j∧Q (.bl (if neg then !(!(Builtin.Str.occurrences j i 0 j.length 1).isEmpty)else !(Builtin.Str.occurrences j i 0 j.length 1).isEmpty)) H)∨Ic K neg x y H Q
theorem vc(x:Str)(xs:List Str):D_ (.str x) (xs.map .str)=xs.contains x:=by
 induction xs with
 |nil=>rfl
 |cons y xs ih=>
  rw[List.contains_cons,←ih]
  show(Cy (.str y) (.str x)||D_ (.str x) (xs.map .str))=_
  congr 1
  show(y == x)=(x == y)
  exact BEq.comm
theorem vd(x:Int)(xs:List Int):D_ (.int x) (xs.map .int)=xs.contains x:=by
 induction xs with
 |nil=>rfl
 |cons y xs ih=>
  rw[List.contains_cons,←ih]
  show(Cy (.int y) (.int x)||D_ (.int x) (xs.map .int))=_
  congr 1
  show(y == x)=(x == y)
  exact BEq.comm
theorem wz(neg:Bool):y9 K (FD K neg) (fun d1 d2=>(Ek d1 d2).map fun b=>.bool (if neg then !b else b)):=fun d1 d2 d v1 v2 H Q e r1 r2=>by
 obtain⟨b,e',rfl⟩:=Option.map_eq_some_iff.mp e
 clear e
 have e:=e'
 clear e'
 refine⟨_,rfl,fun q=>?_⟩
 have hs:∀xs:List Str,(xs.map V.str).all ly=true:=fun xs=>by simp[List.all_eq_true,ly]
 have hi:∀xs:List Int,(xs.map V.int).all ly=true:=fun xs=>by simp[List.all_eq_true,ly]
 unfold Ek at e
 split at e
 ·cases e;cases r1;cases r2
  exact .inl ⟨_,_,rfl,rfl,q⟩
 ·obtain⟨xs,ex,rfl⟩:=Option.map_eq_some_iff.mp e
  cases r1
  cases r2 with
  |lst h1 h2=>
   rw[kr ex]at h2
   rw[lT h2]at h1
   exact .inr ⟨_,_,rfl,.inl h1,rfl,hs _,by rw[vc];exact q⟩
 ·obtain⟨xs,ex,rfl⟩:=Option.map_eq_some_iff.mp e
  cases r1
  cases r2 with
  |tup h1 h2=>
   rw[kr ex]at h2
   rw[lT h2]at h1
   exact .inr ⟨_,_,rfl,.inr h1,rfl,hs _,by rw[vc];exact q⟩
 ·obtain⟨xs,ex,rfl⟩:=Option.map_eq_some_iff.mp e
  cases r1
  cases r2 with
  |lst h1 h2=>
   rw[oz ex]at h2
   rw[qB h2]at h1
   exact .inr ⟨_,_,rfl,.inl h1,rfl,hi _,by rw[vd];exact q⟩
 ·obtain⟨xs,ex,rfl⟩:=Option.map_eq_some_iff.mp e
  cases r1
  cases r2 with
  |tup h1 h2=>
   rw[oz ex]at h2
   rw[qB h2]at h1
   exact .inr ⟨_,_,rfl,.inr h1,rfl,hi _,by rw[vd];exact q⟩
 ·cases e
def xT(neg:Bool):P2:=fD fun d1 d2=>(Ek d1 d2).map fun b=>.bool (if neg then !b else b)
theorem Bg:OpR X (compareOp .In) (FD X.K false):=OpR.or yQ yV
theorem zi:OpR X (compareOp .NotIn) (FD X.K true):=OpR.or tL tK
theorem Hb(ha:EX X a m1 f)(hb:EX X b m2 g)(hm:behindInMarks .In b=false:=by with_unfolding_all rfl):EX X (.Compare a [.In] [b] pos) (m1||m2) (ag (xT false) m2 f g):=wq Bg (lQ (wz false)) ha hb hm
theorem El(ha:EX X a m1 f)(hb:EX X b m2 g)(hm:behindInMarks .In b=false:=by with_unfolding_all rfl):TX X (.Compare a [.In] [b] pos) (m1||m2) (cV (ag (xT false) m2 f g)):=qm Bg (lQ (wz false)) ha hb hm
theorem Bh(ha:EX X a m1 f)(hb:EX X b m2 g)(hm:behindInMarks .NotIn b=false:=by with_unfolding_all rfl):TX X (.Compare a [.NotIn] [b] pos) (m1||m2) (cV (ag (xT true) m2 f g)):=qm zi (lQ (wz true)) ha hb hm
end
def qC(x:Str):PyData→Option PyData
 |.list ds=>(jb ds).bind fun ys=>if (ys.map (·.length)).sum+ys.length*x.length≤1000000 then some (.str (Txt.join x ys))else none
 |.tuple ds=>(jb ds).bind fun ys=>if (ys.map (·.length)).sum+ys.length*x.length≤1000000 then some (.str (Txt.join x ys))else none
 |_=>none
theorem sE{ys:List Str}:∀{us:List Value},Vals (ys.map V.str) us→PyProof.Rows.StrsAre us ys:=by
 induction ys with
 |nil=>intro us h;cases h;exact .nil
 |cons y ys ih=>
  intro us h
  cases h with
  |cons h r=>
   obtain⟨t,rfl⟩:=h
   exact .cons y t (ih r)
def Hc(K:PySem.W.Frag):V→List V→Hp→VK→Prop:=fun x vs H Q=>∃z p ys,x=.str z∧vs=[.ref p]∧(SqL K H p (ys.map .str)∨SqT K H p (ys.map .str))∧(ys.map (·.length)).sum+ys.length*z.length≤16777216∧Q (.str (Txt.join z ys)) H
theorem Dh{X:Cx}:Ia X "str.join" (Hc X.K):=by
 intro pins s σ H x vs v us Q I rx rv h
 obtain⟨z,p,ys,rfl,rfl,hq,hl,q⟩:=h
 obtain⟨t,rfl⟩:=rx
 obtain⟨u,rfl,ru⟩:=rv.one
 cases ru
 rcases hq with hq |hq
 ·obtain⟨its,r,pl,_⟩:=I.list hq
  exact PyProof.Rows.join_list pl.isList (by simpa using sE r) hl fun t' k=>⟨.str _,H,I.tok _,⟨_,rfl⟩,q⟩
 ·obtain⟨its,r,pl,_⟩:=I.tuple hq
  exact PyProof.Rows.join_tuple pl (by simpa using sE r) hl fun t' k=>⟨.str _,H,I.tok _,⟨_,rfl⟩,q⟩
section
variable {X:Cx} {e o:Expr} {m1 m2:Bool} {g:uM} {f h:bC} {p pos apos cpos:Pos} {K:PySem.W.Frag}
def eN(x:Str)(f:bC):bC:=ki (qC x) f
theorem j5 {x:Str} {j:Nat} {sp:Pos} (he:EX X e m1 f) (hs:starEach [e] X.env=[(false,eval e X.env)]:=by rfl) (hbase:attributeBase (.Constant (.str x) j sp) "join" X.env (eval (.Constant (.str x) j sp) X.env)=eval (.Constant (.str x) j sp) X.env:=by rfl)
  (hfew:((backTo cpos (starEach [e] X.env)).all (fun x=> !x.1)&&(backToKw cpos (keywordEach [] X.env)).all (fun x=>x.1.isSome)
   &&decide (([e]:List Expr).length+([]:List Keyword).length+(if ([]:List Keyword).isEmpty then 0 else 1) < 30))=true:=by rfl) (hline:(apos.endLine == cpos.line)=true:=by rfl):
  EX X (.Call (.Attribute (.Constant (.str x) j sp) "join" apos) [e] [] cpos) m1 (eN x f):=by
 refine cR (Ea PySem.F.plainAttrs_str PySem.F.slot_str_join PySem.F.type_str_join Dh (Ao) (gc he iY hs) hbase hfew hline hs rfl) fun σ H Q z=>?_
 obtain⟨B,E,xs,Xs,res,E',fr,c,e,q⟩:=z
 obtain⟨⟨s1,E1⟩,e1,e⟩:=Option.bind_eq_some_iff.mp e
 obtain⟨d1,e2,e⟩:=Option.bind_eq_some_iff.mp e
 obtain⟨d,e3,e⟩:=Option.map_eq_some_iff.mp e
 cases e
 refine⟨rfl,B,E,xs,Xs,s1,E1,fr,c,e1,fun v1 H1 ⟨F,A,fr1⟩=>?_⟩
 have r:=(fr1.look0 e2).1
 obtain⟨A',fr2⟩:=fr1.pop
 unfold qC at e3
 split at e3
 ·obtain⟨ys,ey,e3⟩:=Option.bind_eq_some_iff.mp e3
  split at e3
  ·rename_i hl
   cases e3
   cases r with
   |lst h1 h2=>
    rw[kr ey]at h2
    rw[lT h2]at h1
    exact⟨x,_,ys,rfl,rfl,.inl h1,by omega,q _ _ ⟨F,A',fr2.push ⟨rfl,_,rfl,.str _⟩⟩⟩
  ·cases e3
 ·obtain⟨ys,ey,e3⟩:=Option.bind_eq_some_iff.mp e3
  split at e3
  ·rename_i hl
   cases e3
   cases r with
   |tup h1 h2=>
    rw[kr ey]at h2
    rw[lT h2]at h1
    exact⟨x,_,ys,rfl,rfl,.inr h1,by omega,q _ _ ⟨F,A',fr2.push ⟨rfl,_,rfl,.str _⟩⟩⟩
  ·cases e3
 ·cases e3
end
theorem jH{X:Cx}{st:Stmt}:SX X st (fun _=>none):=lM Aq fun D σ H z=>by
 obtain⟨B,E,xs,Xs,E',fl,fr,cl,e,q⟩:=z
 cases e
def jI:de:=fun _=>none
end PL
namespace PL
open PySem L2 Nh
theorem FE{X:Cx}:SlR X (fun x lo hi H Q=>∃z,x=.str z∧z.length≤sizeLine∧Q (.str (Txt.slice z lo hi)) H):=by
 intro pins s σ H x v vl vu lo hi sl Q I rx hs pl pu h
 obtain⟨z,rfl,hz,q⟩:=h
 obtain⟨t,rfl⟩:=rx
 cases pl with
 |none=>
  cases pu with
  |none=>exact⟨"str",_,PySem.F.slot_str_getitem.lookup,typeIs_str _ _ _,wpAny_getItem_str_slice (l:=none) (u:=none) (st:=none) hs rfl (post_val_or_str ⟨Nat.le_trans (Txt.slice_le z _ _) hz,fun t' k=>⟨.str _,H,I.tok _,⟨_,rfl⟩,q⟩⟩)⟩
  |int j uj=>exact⟨"str",_,PySem.F.slot_str_getitem.lookup,typeIs_str _ _ _,wpAny_getItem_str_slice (l:=none) (u:=some (j,uj)) (st:=none) hs rfl (post_val_or_str ⟨Nat.le_trans (Txt.slice_le z _ _) hz,fun t' k=>⟨.str _,H,I.tok _,⟨_,rfl⟩,q⟩⟩)⟩
 |int i ui=>
  cases pu with
  |none=>exact⟨"str",_,PySem.F.slot_str_getitem.lookup,typeIs_str _ _ _,wpAny_getItem_str_slice (l:=some (i,ui)) (u:=none) (st:=none) hs rfl (post_val_or_str ⟨Nat.le_trans (Txt.slice_le z _ _) hz,fun t' k=>⟨.str _,H,I.tok _,⟨_,rfl⟩,q⟩⟩)⟩
  |int j uj=>exact⟨"str",_,PySem.F.slot_str_getitem.lookup,typeIs_str _ _ _,wpAny_getItem_str_slice (l:=some (i,ui)) (u:=some (j,uj)) (st:=none) hs rfl (post_val_or_str ⟨Nat.le_trans (Txt.slice_le z _ _) hz,fun t' k=>⟨.str _,H,I.tok _,⟨_,rfl⟩,q⟩⟩)⟩
def jU(m2:Bool)(f:bC)(lo hi:Ft):bC:=fun E=>(f E).bind fun a=>if m2&&a.1.isBr then none else (lo a.2).bind fun b=>(hi b.2).bind fun c=>match look c.2 a.1 with
 |some (.list ds)=>if !gJ c.2 a.1||bE (y_ ds b.1 c.1)then some (.ow (y_ ds b.1 c.1),c.2)else none
 |some (.str z)=>if z.length≤1000000 then some (.sh (.str (Txt.slice z b.1 c.1)),c.2)else none
 |_=>none
theorem m7{X:Cx}{e:Expr}{lo hi:Option Expr}{m1 m2 m3:Bool}{f:bC}{g h:Ft}{pos p2:Pos}(he:EX X e m1 f)(hl:OX X lo m2 g)(hh:OX X hi m3 h):EX X (.Subscript e (.Slice lo hi none p2) pos) (m1||(m2||m3)) (jU (m2||m3) f g h):=by
 refine cR (AA (SlR.or CY FE) he hl hh) fun σ H Q z=>?_
 obtain⟨B,E,xs,Xs,res,E',fr,cl,e,q⟩:=z
 obtain⟨⟨s,E1⟩,e1,e⟩:=Option.bind_eq_some_iff.mp e
 by_cases hb:((m2||m3)&&s.isBr)=true
 ·rw[if_pos hb]at e;cases e
 rw[if_neg hb]at e
 have n1:(m2||m3)=true→s.isBr=false:=fun z=>by
  cases hs:s.isBr with
  |false=>rfl
  |true=>exact absurd (by rw[z,hs];rfl) hb
 obtain⟨⟨l,E2⟩,e2,e⟩:=Option.bind_eq_some_iff.mp e
 obtain⟨⟨u,E3⟩,e3,e⟩:=Option.bind_eq_some_iff.mp e
 refine⟨B,E,xs,Xs,s,E1,fr,fun z=>cl (by simp[z]),e1,fun v1 H1 fr1=>?_⟩
 refine⟨B,E1,v1::xs,s::Xs,l,E2,fr1,fun z=>Calm.cons (cl (by simp[z])) (n1 (by simp[z])),e2,fun H2 fr2=>?_⟩
 refine⟨B,E2,v1::xs,s::Xs,u,E3,fr2,fun z=>Calm.cons (cl (by simp[z])) (n1 (by simp[z])),e3,fun H3 ⟨F,A,fr3⟩=>?_⟩
 simp only at e
 split at e
 ·rename_i ds ld
  split at e
  ·rename_i hc
   cases e
   obtain⟨v,ev,r,f0⟩:=fr3.look (k:=0) rfl ld
   cases ev
   obtain⟨A',fr4⟩:=fr3.pop
   cases hh:gJ E' s with
   |false=>
    obtain⟨a,vs,rfl,h1,h2⟩:=f0 hh
    exact .inl ⟨a,vs,rfl,h1,fun p hp=>q _ _ ⟨F,_,fr4.newl (h2.cut l u) hp⟩⟩
   |true=>
    rw[hh]at hc
    cases r with
    |lst h1 h2=>exact .inl ⟨_,_,rfl,h1,fun p hp=>q _ _ ⟨F,_,fr4.newl (fr3.coldA (h2.cut l u) (by simpa using hc)) hp⟩⟩
  ·cases e
 ·rename_i z ld
  split at e
  ·rename_i hc
   cases e
   have r:=(fr3.look0 ld).1
   cases r
   obtain⟨A',fr4⟩:=fr3.pop
   exact .inr ⟨_,rfl,i9 hc,q _ _ ⟨F,A',fr4.push ⟨rfl,_,rfl,.str _⟩⟩⟩
  ·cases e
 ·cases e
def ve(scope:Scope)(env:Env):List (Str×Addr):=((scope.names.filter fun p=>p.2 ==.free).map fun p=>(p.1,(env.cells.lookup p.1).getD 0)).reverse
theorem eO{X:Cx}{scope:Scope}{N:List Str}{js:List (Option Nat)}(clos:closureFor scope X.env=pure (ve scope X.env):=by rfl)(nocell:∀y∈scope.names,y.2≠ .cell:=by decide+kernel)(kind:scope.kind=.function:=by rfl)
  (names:∀y∈scope.names,y.2=.local→scope.names.lookup y.1=some .local:=by decide+kernel) (same:(scope.names.filter fun p=>p.2 ==.free).all (fun p=>(X.env.cells.lookup p.1).isSome)=true:=by rfl)
  (has:(relabel scope X.env).names.all (fun y=> !(y.2 ==.cell||y.2 ==.free)||((ve scope X.env).lookup y.1).isSome)=true:=by rfl) (len:js.length=N.length:=by rfl)
  (fr:(js.zip N).all (fun p=>match p.1 with |none=>true |some j=>X.N[j]? == some p.2&&((relabel scope X.env).names.lookup p.2 == some .cell||(relabel scope X.env).names.lookup p.2 == some .free)&&(X.env.kindOf p.2 == some .cell||X.env.kindOf p.2 == some .free))=true:=by rfl):
  CompOk X scope (relabel scope X.env) (ve scope X.env) N js where
 clos:=clos
 rel:=rfl
 nocell:=nocell
 kind:=kind
 names:=names
 same:=fun x c e=>by
  have hm:=PySem.mem_of_lookup e
  unfold ve at hm
  obtain⟨p,hp,ep⟩:=List.mem_map.mp (List.mem_reverse.mp hm)
  have:=List.all_eq_true.mp same _ hp
  obtain⟨c',ec⟩:=Option.isSome_iff_exists.mp this
  injection ep with e1 e2
  subst e1
  rw[ec]at e2 ⊢
  exact congrArg some e2
 has:=fun x h=>by
  have key:∀k,(relabel scope X.env).names.lookup x=some k→(k == NameKind.cell||k == NameKind.free)=true→∃c,(ve scope X.env).lookup x=some c:=fun k h hk=>by
   have:=List.all_eq_true.mp has _ (PySem.mem_of_lookup h)
   simp only[hk,Bool.not_true,Bool.false_or]at this
   exact Option.isSome_iff_exists.mp this
  rcases h with h |h
  ·exact key _ h rfl
  ·exact key _ h rfl
 len:=len
 from_:=fun i j h=>by
  have hi:i < js.length:=(List.getElem?_eq_some_iff.mp h).1
  obtain⟨x,ex⟩:∃x,N[i]? =some x:=⟨N[i]'(by omega),List.getElem?_eq_getElem (by omega)⟩
  have hz:(js.zip N)[i]? =some (some j,x):=by rw[List.getElem?_zip_eq_some];exact⟨h,ex⟩
  have:=List.all_eq_true.mp fr _ (List.mem_of_getElem? hz)
  simp only[Bool.and_eq_true,Bool.or_eq_true,beq_iff_eq]at this
  exact⟨x,ex,this.1.1,this.1.2,this.2⟩
structure Bn (mg:Str→Option Value):Prop where
 len:mg "len"=none
 range:mg "range"=none
 abs:mg "abs"=none
 min:mg "min"=none
 max:mg "max"=none
 reversed:mg "reversed"=none
 enumerate:mg "enumerate"=none
 isinstance:mg "isinstance"=none
 list:mg "list"=none
 tuple:mg "tuple"=none
 str:mg "str"=none
 int:mg "int"=none
 bool:mg "bool"=none
 sorted:mg "sorted"=none
 zip:mg "zip"=none
 sum:mg "sum"=none
 any:mg "any"=none
 all:mg "all"=none
 set:mg "set"=none
 dict:mg "dict"=none
theorem Hd{K:PySem.W.Frag}{h:Heap}{mg:Str→Option Value}(X:K.In h)(G:h.Ns mainGlobals mg)
  (z1:PySem.W.nsIn K mainGlobals "len"=some none) (z2:PySem.W.nsIn K mainGlobals "range"=some none) (z3:PySem.W.nsIn K mainGlobals "abs"=some none) (z4:PySem.W.nsIn K mainGlobals "min"=some none) (z5:PySem.W.nsIn K mainGlobals "max"=some none) (z6:PySem.W.nsIn K mainGlobals "reversed"=some none) (z7:PySem.W.nsIn K mainGlobals "enumerate"=some none) (z8:PySem.W.nsIn K mainGlobals "isinstance"=some none) (z9:PySem.W.nsIn K mainGlobals "list"=some none) (z10:PySem.W.nsIn K mainGlobals "tuple"=some none) (z11:PySem.W.nsIn K mainGlobals "str"=some none) (z12:PySem.W.nsIn K mainGlobals "int"=some none) (z13:PySem.W.nsIn K mainGlobals "bool"=some none) (z14:PySem.W.nsIn K mainGlobals "sorted"=some none) (z15:PySem.W.nsIn K mainGlobals "zip"=some none) (z16:PySem.W.nsIn K mainGlobals "sum"=some none) (z17:PySem.W.nsIn K mainGlobals "any"=some none) (z18:PySem.W.nsIn K mainGlobals "all"=some none) (z19:PySem.W.nsIn K mainGlobals "set"=some none) (z20:PySem.W.nsIn K mainGlobals "dict"=some none):Bn mg:=
 ⟨PySem.W.mg_none_of X G z1,PySem.W.mg_none_of X G z2,PySem.W.mg_none_of X G z3,PySem.W.mg_none_of X G z4,PySem.W.mg_none_of X G z5,PySem.W.mg_none_of X G z6,PySem.W.mg_none_of X G z7,PySem.W.mg_none_of X G z8,PySem.W.mg_none_of X G z9,PySem.W.mg_none_of X G z10,PySem.W.mg_none_of X G z11,PySem.W.mg_none_of X G z12,PySem.W.mg_none_of X G z13,PySem.W.mg_none_of X G z14,PySem.W.mg_none_of X G z15,PySem.W.mg_none_of X G z16,PySem.W.mg_none_of X G z17,PySem.W.mg_none_of X G z18,PySem.W.mg_none_of X G z19,PySem.W.mg_none_of X G z20⟩
end PL
namespace PL
open PySem PySem.Spec L2 Nh PyProof.Rows
def IW(i:Int):Prop:= -1000000≤i∧i≤1000000
instance (i:Int):Decidable (IW i):=inferInstanceAs (Decidable (_∧_))
theorem fits{i:Int}(h: -10000000≤i∧i≤10000000):Builtin.Range.rangeFitsLong i=true:=by
 unfold Builtin.Range.rangeFitsLong
 simp only[Bool.and_eq_true,decide_eq_true_eq]
 omega
end PL
namespace PL
open PySem L2 Nh
theorem qD{P:Program}{w:World}{K:PySem.W.Frag}{mg:Str→Option Value}{base:Heap}{x:Str}{st:Stmt}{N ps:List Str}{k:Nat}(D:Def K mg x st ps)(S:FnScope N ps (ah st)):Own P w K mg base (k+1) x ps (bZ K fun _=>none):=by
 refine D.own S (fun vs H Q E h=>?_) (fun f cdv A outer s H vs Q E hr h=>?_)
 ·obtain⟨ds,r,e,_⟩:=h
  cases e
 ·obtain⟨ds,r,e,_⟩:=h
  cases e
end PL
namespace PL
open PySem L2 Nh
def kP:List PyData→Option (List Bool)
 |[]=>some []
 |.bool b::ds=>(kP ds).map (b:: ·)
 |_=>none
def wA:List PyData→Option PyData
 |[.list ds]=>(kP ds).map fun bs=>.bool (bs.all id)
 |_=>none
def wB(K:PySem.W.Frag)(f:List Bool→Bool):List V→Hp→VK→Prop:=fun xs H Q=>∃p bs,xs=[.ref p]∧SqL K H p (bs.map V.bl)∧Q (.bl (f bs)) H
theorem vf{K:PySem.W.Frag}{H:Hp}:∀{vs:List V} {ds:List PyData} {bs:List Bool},RpA K H vs ds→kP ds=some bs→vs=bs.map V.bl
 |_,_,bs,.nil,e=>by cases e;rfl
 |_,_,bs,.cons (d:=d) h t,e=>by
  cases d <;> simp[kP]at e
  obtain⟨cs,e,rfl⟩:=e
  cases h
  rw[vf t e]
  rfl
theorem Bi{K:PySem.W.Frag}{f:List Bool→Bool}:AV K (wB K f) (fun ds=>match ds with
 |[.list ds]=>(kP ds).map fun bs=>.bool (f bs)
 |_=>none):=fun ds d vs H Q e r=>by
 simp only at e
 split at e
 ·obtain⟨bs,eb,rfl⟩:=Option.map_eq_some_iff.mp e
  obtain⟨v,rfl,r1⟩:=r.one
  cases r1 with
  |lst h1 h2=>
   have:=vf h2 eb
   subst this
   exact⟨_,rfl,fun q=>⟨_,bs,rfl,h1,q⟩⟩
 ·cases e
theorem sG:∀bs:List Bool,(List.range bs.length).all (fun i=>bs.getD i false)=bs.all id
 |[]=>rfl
 |b::bs=>by
  rw[List.length_cons,List.range_succ_eq_map,List.all_cons,List.all_map,List.all_cons,←sG bs]
  rfl
section
variable {X:Cx} {e:Expr} {es:List Expr} {m1:Bool} {g:uM} {p pos:Pos}
theorem qE:∀{bs:List Bool} {us:List Value},Vals (bs.map V.bl) us→us=bs.map Value.bool
 |[],_,.nil=>rfl
 |b::bs,_,.cons h t=>by cases h;rw[qE t];rfl
theorem Di{bs:List Bool}{i:Nat}{v:Value}(h:(bs.map Value.bool).toArray[i]? =some v):v=.bool (bs.getD i false):=by
 rw[List.getElem?_toArray,List.getElem?_map]at h
 obtain⟨b,e,rfl⟩:=Option.map_eq_some_iff.mp h
 rw[List.getD_eq_getElem?_getD,e]
 rfl
theorem zj(hc:X.calm=true):CallR X (.builtin "all") (wB X.K fun bs=>bs.all id):=by
 intro pins s σ H xs us Q I r h
 obtain⟨a,bs,rfl,hq,q⟩:=h
 cases r with
 |cons r rr=>
  cases rr
  cases r
  obtain⟨its,rv,pl,hz⟩:=I.list hq
  have:=qE rv
  subst this
  obtain⟨o,n,eo,_⟩:=id pl
  have hlt:a < s.heap.objs.size:=Heap.lt_size eo
  refine call_all_walk (wpAny_pyIter_list pl.isList ?_)
  refine⟨s.heap.objs.size,_,_,_,_,_,fun i=>bs.getD i false,rfl,Walks.list (A:=X.A.in1) (I.ok.hd hc) s.heap.objs.size a (Nat.ne_of_lt hlt) (bs.map Value.bool).toArray,?_,?_,?_⟩
  ·exact⟨⟨_,Heap.get?_push_size _ rfl,rfl,rfl⟩,pl.isList.at fun o e=>Heap.get?_push_of_some _ e⟩
  ·intro i v s Q E hv hQ
   rw[Di hv]
   exact wpAny_truthy_bool hQ
  ·intro h' tk hk
   refine⟨.bl _,H,I.kept (t':=tk) fun b o e=>hk b o (fun z=>?_) (Heap.get?_push_of_some _ e),rfl,?_⟩
   ·have:b=s.heap.objs.size:=by simpa using z
    exact Nat.lt_irrefl _ (this▸Heap.lt_size e)
   ·rw[show((bs.map Value.bool).toArray).size=bs.length by simp,sG]
    exact q
theorem Bj (hc:X.calm=true) (hg:Gl X "all") (hm:X.mg "all"=none) (ha:AX X [e] m1 g) (he:starEach [e] X.env=[(false,eval e X.env)]:=by rfl):EX X (.Call (.Name "all" p) [e] [] pos) m1 (bY wA g):=nD (r:=wB X.K fun bs=>bs.all id) Bi (zj hc) hg hm PyProof.Rows.boot_all ha (by decide) (by decide) he rfl
def sH:List PyData→Option (List Int)
 |[]=>some []
 |.int i::ds=>(sH ds).map (i:: ·)
 |_=>none
def zk:List PyData→Option PyData
 |[.list ds]=>(sH ds).map fun ns=>.int ns.sum
 |_=>none
def FG(K:PySem.W.Frag):List V→Hp→VK→Prop:=fun xs H Q=>∃(p:Addr) (ns:List Int),xs=[.ref p]∧SqL K H p (ns.map V.int)∧Q (.int ns.sum) H
theorem xV{K:PySem.W.Frag}{H:Hp}:∀{vs:List V} {ds:List PyData} {bs:List Int},RpA K H vs ds→sH ds=some bs→vs=bs.map V.int
 |_,_,bs,.nil,e=>by cases e;rfl
 |_,_,bs,.cons (d:=d) h t,e=>by
  cases d <;> simp[sH]at e
  obtain⟨cs,e,rfl⟩:=e
  cases h
  rw[xV t e]
  rfl
theorem FH{K:PySem.W.Frag}:AV K (FG K) zk:=fun ds d vs H Q e r=>by
 unfold zk at e
 split at e
 ·obtain⟨bs,eb,rfl⟩:=Option.map_eq_some_iff.mp e
  obtain⟨v,rfl,r1⟩:=r.one
  cases r1 with
  |lst h1 h2=>
   have:=xV h2 eb
   subst this
   exact⟨_,rfl,fun q=>⟨_,bs,rfl,h1,q⟩⟩
 ·cases e
theorem j_:∀{ns:List Int} {us:List Value},Vals (ns.map V.int) us→us.length=ns.length∧∀(i:Nat) (v:Value),us[i]? =some v→∃t,v=Value.int (ns.getD i 0) t
 |[],_,.nil=>⟨rfl,fun i v h=>by simp at h⟩
 |n::ns,_,.cons h t=>by
  obtain⟨tk,rfl⟩:=h
  obtain⟨h1,h2⟩:=j_ t
  refine⟨by simp[h1],fun i v h=>?_⟩
  cases i with
  |zero=>simp at h;subst h;exact⟨tk,rfl⟩
  |succ i=>simpa using h2 i v (by simpa using h)
theorem o6(ns:List Int):∀k,k≤ns.length→preSum (fun i=>ns.getD i 0) k=(ns.take k).sum
 | 0,_=>by simp[preSum]
 |k+1,h=>by
  have hk:k < ns.length:=by omega
  rw[preSum,o6 ns k (by omega),List.take_add_one,List.getElem?_eq_getElem hk,List.sum_append]
  simp[List.getD_eq_getElem?_getD,hk]
theorem zl(hc:X.calm=true):CallR X (.builtin "sum") (FG X.K):=by
 intro pins s σ H xs us Q I r h
 obtain⟨a,ns,rfl,hq,q⟩:=h
 cases r with
 |cons r rr=>
  cases rr
  cases r
  obtain⟨its,rv,pl,hz⟩:=I.list hq
  obtain⟨hl,hv⟩:=j_ rv
  obtain⟨o,n,eo,_⟩:=id pl
  have hlt:a < s.heap.objs.size:=Heap.lt_size eo
  refine call_sum_walkG (wpAny_pyIter_list pl.isList ?_)
  refine⟨s.heap.objs.size,_,_,_,_,_,fun i=>ns.getD i 0,rfl,Walks.list (A:=X.A.in1) (I.ok.hd hc) s.heap.objs.size a (Nat.ne_of_lt hlt) its.toArray,?_,?_,?_,?_⟩
  ·exact⟨⟨_,Heap.get?_push_size _ rfl,rfl,rfl⟩,pl.isList.at fun o e=>Heap.get?_push_of_some _ e⟩
  ·intro b hb
   have hsz:∀o,(s.heap.push o).objs.size=s.heap.objs.size+1:=fun o=>by simp[Heap.push]
   show b < (s.heap.push _).objs.size
   rw[hsz]
   rcases List.mem_cons.mp hb with rfl |hb
   ·exact Nat.lt_succ_self _
   ·have:b=a:=by simpa using hb
    subst this
    exact Nat.lt_succ_of_lt hlt
  ·intro i v h
   exact hv i v (by simpa using h)
  ·intro h' tk t' hk
   refine⟨.int _,H,I.kept (t':=tk) fun b o e=>hk b o (fun z=>?_) (Heap.get?_push_of_some _ e),⟨t',rfl⟩,?_⟩
   ·have:b=s.heap.objs.size:=by simpa using z
    exact Nat.lt_irrefl _ (this▸Heap.lt_size e)
   ·rw[show its.toArray.size=ns.length by simpa using hl,o6 ns _ (Nat.le_refl _),List.take_length]
    exact q
theorem FI (hc:X.calm=true) (hg:Gl X "sum") (hm:X.mg "sum"=none) (ha:AX X [e] m1 g) (he:starEach [e] X.env=[(false,eval e X.env)]:=by rfl):EX X (.Call (.Name "sum" p) [e] [] pos) m1 (bY zk g):=nD (r:=FG X.K) FH (zl hc) hg hm PyProof.Rows.boot_sum ha (by decide) (by decide) he rfl
end
end PL
namespace PL
open PySem L2 Nh
def t7(a b:Str):Bool:=decide (a.cps.toList≤b.cps.toList)
def iR(ss:List Str):List Str:=ss.mergeSort t7
theorem kt(a b c:Str)(h:t7 a b=true)(k:t7 b c=true):t7 a c=true:=decide_eq_true (List.le_trans (of_decide_eq_true h) (of_decide_eq_true k))
theorem mz(a b:Str):(t7 a b||t7 b a)=true:=by
 rcases List.le_total a.cps.toList b.cps.toList with h |h
 ·simp[t7,h]
 ·simp[t7,h]
theorem nG{a b:Str}(h:t7 a b=true)(k:t7 b a=true):a=b:=by
 have e:=List.le_antisymm (of_decide_eq_true h) (of_decide_eq_true k)
 cases a;cases b
 simp only at e
 rw[Array.toList_inj.mp e]
theorem sI:∀(p:Str) (l:List Str),PyProof.Rows.risingS p l=true→(p::l).Pairwise (fun a b=>t7 a b=true)
 |p,[],_=>by simp
 |p,x::r,h=>by
  have h':(!PySem.Spec.ltCps x.cps.toList p.cps.toList&&PyProof.Rows.risingS x r)=true:=h
  rw[Bool.and_eq_true,PyProof.Rows.ltCps_eq]at h'
  have ih:=sI x r h'.2
  have hpx:t7 p x=true:=by
   have:=h'.1
   simp only[Bool.not_eq_true',decide_eq_false_iff_not]at this
   exact decide_eq_true this
  refine List.pairwise_cons.mpr ⟨fun y hy=>?_,ih⟩
  rcases List.mem_cons.mp hy with rfl |hy
  ·exact hpx
  ·exact kt p x y hpx ((List.pairwise_cons.mp ih).1 y hy)
theorem zn:∀l:List Str,PyProof.Rows.sortedS l=true→l.Pairwise (fun a b=>t7 a b=true)
 |[],_=>List.Pairwise.nil
 |x::r,h=>sI x r h
theorem m8{a b:List Str}(p:a.Perm b)(h:PyProof.Rows.sortedS a=true):a=iR b:=
 List.Perm.eq_of_pairwise (fun _ _ _ _ h k=>nG h k) (zn a h) (List.pairwise_mergeSort kt mz b) (p.trans (List.mergeSort_perm b t7).symm)
theorem mB(ss:List Str):(iR ss).length=ss.length:=(List.mergeSort_perm ss t7).length_eq
section
variable {X:Cx} {e:Expr} {m1:Bool} {f:bC} {p pos:Pos}
theorem nH:∀{ss:List Str} {us:List Value},Vals (ss.map V.str) us→PyProof.Rows.StrsAre us ss
 |[],_,.nil=>.nil
 |s::ss,_,.cons h t=>by obtain⟨tk,rfl⟩:=h;exact .cons _ _ (nH t)
theorem nI:∀{ss:List Str} {us:List Value},PyProof.Rows.StrsAre us ss→Vals (ss.map V.str) us
 |[],_,.nil=>.nil
 |_::_,_,.cons y t h=>.cons ⟨t,rfl⟩ (nI h)
theorem t8:CallR X (.builtin "sorted") (fun xs H Q=>∃(p:Addr) (ss:List Str),xs=[.ref p]∧SqL X.K H p (ss.map V.str)∧ss.length < 64∧∀l,H l=none→Q (.ref l) (fS H l (.lst ((iR ss).map V.str)))):=by
 intro pins s σ H xs us Q I r h
 obtain⟨p,ss,rfl,hq,h64,q⟩:=h
 cases r with
 |cons r rr=>
  cases rr
  cases r
  obtain⟨its,rv,pl,hz⟩:=I.list hq
  have hS:=nH rv
  have hl:its.length=ss.length:=by have:=rv.length;simpa using this.symm
  refine PyProof.Rows.sorted_strs pl.isList hS (by omega) fun out ss' a1 a2 a3=>?_
  have:=m8 a2 a3
  subst this
  obtain⟨e,he⟩:=PyProof.Rows.sortedAll_at s.heap its out
  refine⟨.ref (s.heap.objs.size+1),_,I.laid (t':=s.toks) (fun b o=>PyProof.Rows.sortedAll_old) (Nat.le_succ _) (show ObjOk X.prog X.w _ _ _ (.lst ((iR ss).map V.str))from⟨?_,out.toList,e,nI a1,he⟩),rfl,q _ (I.hok.fresh (Nat.le_succ _))⟩
  rw[List.length_map,mB]
  exact i9 (by omega)
def lA:List PyData→Option (List Str)
 |[]=>some []
 |.str x::ds=>(lA ds).map (x:: ·)
 |_=>none
theorem nJ{K:PySem.W.Frag}{H:Hp}:∀{vs:List V} {ds:List PyData} {bs:List Str},RpA K H vs ds→lA ds=some bs→vs=bs.map V.str
 |_,_,bs,.nil,e=>by cases e;rfl
 |_,_,bs,.cons (d:=d) h t,e=>by
  cases d <;> simp[lA]at e
  obtain⟨cs,e,rfl⟩:=e
  cases h
  rw[nJ t e]
  rfl
theorem ku{K:PySem.W.Frag}{H:Hp}:∀ss:List Str,RpA K H (ss.map V.str) (ss.map PyData.str)
 |[]=>.nil
 |s::ss=>.cons (.str s) (ku ss)
def pW(g:bC):bC:=fun E=>(g E).bind fun a=>match look a.2 a.1 with
 |some (.list ds)=>(lA ds).bind fun ss=>if ss.length < 64 then some (.ow ((iR ss).map .str),a.2)else none
 |_=>none
theorem zo (hg:Gl X "sorted") (hm:X.mg "sorted"=none) (ha:EX X e m1 f) (he:starEach [e] X.env=[(false,eval e X.env)]:=by rfl):EX X (.Call (.Name "sorted" p) [e] [] pos) m1 (pW f):=by
 refine cR (lI t8 hg hm PyProof.Rows.boot_sorted (gc ha iY he) (by decide) (by decide) he rfl) fun σ H Q z=>?_
 obtain⟨B,E,xs,Xs,res,E',fr,cl,e,q⟩:=z
 obtain⟨⟨s,E1⟩,e1,e⟩:=Option.bind_eq_some_iff.mp e
 refine⟨B,E,xs,Xs,s,E1,fr,cl,e1,fun v1 H1 ⟨F,A,fr1⟩=>?_⟩
 obtain⟨A',fr2⟩:=fr1.pop
 simp only at e
 split at e
 ·rename_i ds ld
  obtain⟨ss,es,e⟩:=Option.bind_eq_some_iff.mp e
  split at e
  ·rename_i hc
   cases e
   have r:=(fr1.look0 ld).1
   cases r with
   |lst h1 h2=>
    have:=nJ h2 es
    subst this
    exact⟨_,ss,rfl,h1,hc,fun l hl=>q _ _ ⟨F,_,fr2.newl (ku _) hl⟩⟩
  ·cases e
 ·cases e
end
end PL
namespace PL
open PySem L2 Nh
def CA(ks:List Str)(x:Str):List Str:=if x∈ks then ks else ks++[x]
def kQ(ss:List Str):List Str:=ss.foldl CA []
def nK(x:Str):List Str:=x.cps.toList.map fun c=>⟨#[c]⟩
def dC(g:bC):bC:=fun E=>(g E).bind fun a=>match look a.2 a.1 with
 |some (.list ds)=>(lA ds).bind fun ss=>if ss.length < 4000∧(kQ ss).length < 64 then some (.ow ((iR (kQ ss)).map .str),a.2)else none
 |some (.str x)=>if (nK x).length < 4000∧(kQ (nK x)).length < 64 then some (.ow ((iR (kQ (nK x))).map .str),a.2)else none
 |_=>none
end PL
namespace NhSet
open PySem PyProof.Rows
structure SS (w:World) (b:Bool) (ks:List Str) (es:Array (Int×Value)) (t:SetTable):Prop where
 perm:(es.toList.map (fun e=>strOf e.2)).Perm ks
 elems:∀e∈es.toList,∃x tk,e=(hashStr w x,Value.str x tk)
 bound:es.size < scanBound
 fits:t.fits es.size=true
 led:t.led=b
 plain:es.size≠0→t.plain=false
abbrev eB(es:Array (Int×Value))(ep:Nat)(t:SetTable):Obj:={cls:=.type "set",dict:=none,data:=.set es ep t}
def StrSet(w:World)(h:Heap)(a:Addr)(b:Bool)(ks:List Str):Prop:=∃es ep t,h.get? a=some (eB es ep t)∧SS w b ks es t
theorem StrSet.at'{w:World}{h h':Heap}{a:Addr}{b:Bool}{ks:List Str}(S:StrSet w h a b ks)(e:∀o,h.get? a=some o→h'.get? a=some o):StrSet w h' a b ks:=
 let ⟨es,ep,t,ho,r⟩:=S;⟨es,ep,t,e _ ho,r⟩
theorem StrSet.obj{w:World}{h:Heap}{a:Addr}{b:Bool}{ks:List Str}(S:StrSet w h a b ks):∃o,h.get? a=some o:=let ⟨_,_,_,ho,_⟩:=S;⟨_,ho⟩
theorem SS.elemsOf{prog:Program}{w:World}{b:Bool}{ks:List Str}{es:Array (Int×Value)}{t:SetTable}(S:SS w b ks es t):ElemsOf (strKind prog w) es.toList:=fun e he=>by
 obtain⟨x,tk,rfl⟩:=S.elems e he
 exact⟨⟨x,by simp[PySem.strKind,Value.isStrOf],rfl⟩,rfl⟩
theorem SS.len{w:World}{b:Bool}{ks:List Str}{es:Array (Int×Value)}{t:SetTable}(S:SS w b ks es t):es.size=ks.length:=by
 have:=S.perm.length_eq;simpa using this
theorem SS.mem{w:World}{b:Bool}{ks:List Str}{es:Array (Int×Value)}{t:SetTable}(S:SS w b ks es t)(x:Str):x∈ks↔∃e∈es.toList,Value.isStrOf x e.2=true:=by
 rw[←S.perm.mem_iff,List.mem_map]
 constructor
 ·rintro⟨e,he,rfl⟩
  obtain⟨y,tk,rfl⟩:=S.elems e he
  exact⟨_,he,by simp[Value.isStrOf,strOf]⟩
 ·rintro⟨e,he,hx⟩
  obtain⟨y,tk,rfl⟩:=S.elems e he
  have:y=x:=by simpa[Value.isStrOf]using hx
  exact⟨_,he,by simp[strOf,this]⟩
theorem SetTable.orStandIn_led(t:SetTable)(n:Nat):(t.orStandIn n).led=t.led:=by
 unfold SetTable.orStandIn;split <;> rfl
theorem wC(t:SetTable)(es:Array (Int×Value))(h:Int)(x:Value):(layNew t es h x).2.1.led=t.led:=by
 unfold layNew
 split
 ·exact SetTable.orStandIn_led _ _
 ·rfl
theorem wD{mask finger moves:Nat}{led plain:Bool}{hashes:Array Int}{t':SetTable}{order:Array Nat}(h:SetTable.laid mask finger moves led plain hashes=some (t',order)):t'.led=led∧t'.plain=plain:=by
 unfold SetTable.laid at h
 cases hc:SetTable.layClean mask hashes with
 |none=>rw[hc]at h;simp at h
 |some ow=>rw[hc]at h;simp at h;rw[←h.1];exact⟨rfl,rfl⟩
theorem qF(t:SetTable)(es:Array (Int×Value))(wanted:Nat)(hp:t.plain=false):(relayAll t es wanted).2.1.led=t.led∧(relayAll t es wanted).2.1.plain=false:=by
 unfold relayAll
 split
 ·rename_i t' order hr
  dsimp only
  split
  ·have:=wD hr
   exact⟨this.1,this.2.trans hp⟩
  ·exact⟨rfl,rfl⟩
 ·exact⟨rfl,rfl⟩
section
variable {prog:Program} {w:World} {A:Around} {E:Value→Shared→Prop} {s:Shared}
theorem rM(es es':Array (Int×Value))(ep:Nat)(t t':SetTable):Obj.putSet es' t' (eB es ep t)=eB es' (ep+1) t':=rfl
theorem vg{h:Heap}{a:Addr}{es es':Array (Int×Value)}{ep:Nat}{t t':SetTable}(ho:h.get? a=some (eB es ep t)):(h.update a (Obj.putSet es' t')).get? a=some (eB es' (ep+1) t'):=
 Heap.get?_update_self (Obj.putSet es' t') ho (by rw[rM];rfl)
theorem xW{g:Bool→Sem Unit}(hg:∀(b:Bool) (s₁:Shared) (Q':Unit→Shared→Prop),Q' () s₁→wpAny (model prog w) A (g b) Q' E s₁)
  {a:Addr} {es:Array (Int×Value)} {ep:Nat} {t:SetTable} (ho:s.heap.get? a=some (eB es ep t))
  {es1:Array (Int×Value)} {t2:SetTable} {b:Bool} {ks:List Str} (S:SS w b ks es1 t2) (hp:t2.plain=false) {wasDummy:Bool} {R:Option Bool→Shared→Prop}
  (h:∀h',Heap.SameBut a s.heap h'→StrSet w h' a b ks→R (some true) {s with heap:=h'}):
  wpAny (model prog w) A (do
    storeSet a es1 t2
    if (!wasDummy&&t2.tooFull)=true then do
      g (relayAll t2 es1 (SetTable.grown es1.size)).2.2
      storeSet a (relayAll t2 es1 (SetTable.grown es1.size)).1 (relayAll t2 es1 (SetTable.grown es1.size)).2.1
      pure (some true)
     else pure (some true)) R E s:=by
 refine wpAny_bind (wpAny_storeSet_of ho rfl ?_ (fits_of_scanBound S.bound))
 have ho1:=vg (es':=es1) (t':=t2) ho
 have hsb1:=Heap.SameBut.update s.heap a (Obj.putSet es1 t2)
 split
 ·have hpm:=relayAll_perm t2 es1 (SetTable.grown es1.size)
  have hfr:=relayAll_fits t2 es1 (SetTable.grown es1.size)
  have hmk:=qF t2 es1 (SetTable.grown es1.size) hp
  generalize hRl:relayAll t2 es1 (SetTable.grown es1.size)=Rl at hpm hfr hmk ⊢
  obtain⟨es2,t3,gave2⟩:=Rl
  dsimp only at hpm hfr hmk ⊢
  have hsz:es2.size=es1.size:=by rw[←Array.length_toList,hpm.length_eq,Array.length_toList]
  have hb2:es2.size < scanBound:=by rw[hsz];exact S.bound
  have S2:SS w b ks es2 t3:=⟨(hpm.map _).trans S.perm,fun e he=>S.elems e (hpm.mem_iff.mp he),hb2,hfr,hmk.1.trans S.led,fun _=>hmk.2⟩
  refine wpAny_bind (hg _ _ _ ?_)
  refine wpAny_bind (wpAny_storeSet_of ho1 rfl ?_ (fits_of_scanBound hb2))
  exact wpAny_pure (h _ (hsb1.trans (Heap.SameBut.update _ a _)) ⟨es2,_,t3,vg ho1,S2⟩)
 ·exact wpAny_pure (h _ hsb1 ⟨es1,_,t2,ho1,S⟩)
def pE(ks:List Str)(x:Str):List Str:=if x∈ks then ks else ks++[x]
theorem oA{a:Addr}{b:Bool}{ks:List Str}{x:Str}{tk:Tok}{Q:Bool→Shared→Prop}(hS:StrSet w s.heap a b ks)(hroom:ks.length+1 < scanBound)
  (h:∀(r:Bool) h',Heap.SameBut a s.heap h'→StrSet w h' a b (pE ks x)→Q r {s with heap:=h'}):
  wpAny (model prog w) A (setAddHashed a (.str x tk) (hashStr w x)) Q E s:=by
 obtain⟨es,ep,t,ho,S⟩:=hS
 have hb1:es.size+1 < scanBound:=by rw[S.len];exact hroom
 have hel:=S.elemsOf (prog:=prog)
 have hkey:(strKind prog w).is x (.str x tk)=true:=by simp[PySem.strKind,Value.isStrOf]
 unfold setAddHashed setAddHashedIn
 refine wpAny_holding (wpAny_bind (wpAny_setState_of ho rfl S.fits ?_))
 dsimp only
 rw[byScan_of (knd:=strKind prog w) (x:=.str x tk) rfl S.bound hel]
 simp only[↓reduceIte]
 unfold setAddByScan
 refine wpAny_bind ?_
 refine wpAny_bind (wpAny_rule ?_)
 refine wpAny_bind (wpAny_setScan_of (knd:=strKind prog w) hkey ho rfl S.fits hel ?_)
 cases hr:List.findIdx? (fun e=>(strKind prog w).is x e.2) es.toList with
 |some j=>
  dsimp only
  obtain⟨hj,hpj,_⟩:=List.findIdx?_eq_some_iff_getElem.mp hr
  have hk:x∈ks:=(S.mem x).mpr ⟨es.toList[j],List.getElem_mem hj,hpj⟩
  refine wpAny_pure (wpAny_pure ?_)
  have e:s={s with heap:=s.heap}:=by cases s;rfl
  rw[e]
  exact h _ s.heap (Heap.SameBut.refl a s.heap) (by rw[pE,if_pos hk];exact⟨es,ep,t,ho,S⟩)
 |none=>
  dsimp only
  have hk:x∉ks:=fun hk=>by
   obtain⟨e,he,hp⟩:=(S.mem x).mp hk
   have:=List.findIdx?_eq_none_iff.mp hr e he
   rw[show(strKind prog w).is x e.2=true from hp]at this;exact Bool.noConfusion this
  have hgw:∀(b:Bool) {s₁:Shared} {Q':Unit→Shared→Prop},Q' () s₁→wpAny (model prog w) A (match b with |true=>rule "set.scan.the-table-gave-way" |false=>pure ()) Q' E s₁:=
   fun b s₁ Q' hq=>by cases b <;> first |exact wpAny_pure hq |exact wpAny_rule hq
  have hperm:=layNew_perm t es (hashStr w x) (.str x tk)
  have hfits:=layNew_fits t es (hashStr w x) (.str x tk)
  have hled:=wC t es (hashStr w x) (.str x tk)
  generalize hL:layNew t es (hashStr w x) (.str x tk)=L at hperm hfits hled ⊢
  obtain⟨es1,t1,wasDummy,gave⟩:=L
  dsimp only at hperm hfits hled ⊢
  rw[Array.toList_push]at hperm
  have hb1':es1.size < scanBound:=by rw[←Array.length_toList,hperm.length_eq,List.length_append,Array.length_toList];simpa using hb1
  have hpm:(es1.toList.map (fun e=>strOf e.2)).Perm (ks++[x]):=(hperm.map _).trans (by rw[List.map_append];exact S.perm.append_right _)
  have hel1:∀e∈es1.toList,∃x tk,e=(hashStr w x,Value.str x tk):=fun e he=>by
   rcases List.mem_append.mp (hperm.mem_iff.mp he)with z |z
   ·exact S.elems e z
   ·exact⟨x,tk,List.mem_singleton.mp z⟩
  refine wpAny_bind (hgw _ ?_)
  split
  ·refine wpAny_bind ?_
   rw[hashByValue_scannable 8 (x:=.str x tk) rfl]
   refine wpAny_pure ?_
   simp only[plainKind,Bool.false_eq_true,↓reduceIte]
   refine xW ?_ ho (t2:={t1 with plain:=false}) (ks:=pE ks x) (b:=b) ⟨by rw[pE,if_neg hk];exact hpm,hel1,hb1',SetTable.fits_plain_off hfits,hled.trans S.led,fun _=>rfl⟩ rfl ?_
   ·intro b s₁ Q' hq;cases b <;> first |exact wpAny_pure hq |exact wpAny_rule hq
   ·intro h' hsb hS';dsimp only;exact wpAny_pure (h _ h' hsb hS')
  ·rename_i hpl
   refine wpAny_bind (wpAny_pure ?_)
   simp only[↓reduceIte]
   have hpl':t1.plain=false:=by simpa using hpl
   refine xW ?_ ho (ks:=pE ks x) (b:=b) ⟨by rw[pE,if_neg hk];exact hpm,hel1,hb1',hfits,hled.trans S.led,fun _=>hpl'⟩ hpl' ?_
   ·intro b s₁ Q' hq;cases b <;> first |exact wpAny_pure hq |exact wpAny_rule hq
   ·intro h' hsb hS';dsimp only;exact wpAny_pure (h _ h' hsb hS')
end
def m_(val:Nat→Str)(i:Nat):List Str:=((List.range i).map val).foldl pE []
theorem sJ(val:Nat→Str)(i:Nat):m_ val (i+1)=pE (m_ val i) (val i):=by
 unfold m_;rw[List.range_succ,List.map_append,List.foldl_append];rfl
theorem Bk(ks:List Str)(x:Str):(pE ks x).length≤ks.length+1:=by
 unfold pE;split
 ·omega
 ·simp
theorem vh(val:Nat→Str):∀i,(m_ val i).length≤i
 | 0=>Nat.le_refl _
 |i+1=>by rw[sJ];have:=vh val i;have:=Bk (m_ val i) (val i);omega
section
variable {prog:Program} {w:World} {A:Around} {R:Result→Shared→Prop} {I:Addr} {fp wr:List Addr} {G:Array GenState→Array GenState→Prop} {n:Nat} {P:Nat→Value→Prop} {St:Nat→Shared→Prop}
theorem o8(W:WalksS prog w A.in1 I fp wr G n P St)(S:Addr)(hSf:S∉fp)(b:Bool)
  (val:Nat→Str) (hval:∀i v,P i v→∃t,v=.str (val i) t) (hb:n+1 < scanBound):
  ∀(k i:Nat) (s:Shared),n - i=k→i≤n→St i s→StrSet w s.heap S b (m_ val i)→
   (∀s',Moved (S::wr) G s s'→StrSet w s'.heap S b (m_ val n)→R (.ok (.ret .none)) s')→
   codeAny (model prog w) A (.builtin "set.update.loop" ⟨[.ref S,.ref I],[]⟩) R s:=by
 have hSw:S∉wr:=fun h=>hSf (W.sub _ h)
 have hsub:∀b∈wr,b∈S::wr:=fun b hb=>List.mem_cons_of_mem _ hb
 intro k
 induction k with
 |zero=>
  intro i s hk hi hst hS hR
  have hin:i=n:=by omega
  subst hin
  refine codeAny_builtin PyProof.Rows.F.entry_set_update_loop ?_
  rw[Around.under_plainId PyProof.Rows.F.plain_set_update_loop _]
  show wpAny _ A.in1 (pyNext (.ref I) >>= _) _ _ s
  refine wpAny_bind (W.done s _ _ hst fun s' hm=>?_)
  show wpAny _ A.in1 (ret Value.none) _ _ s'
  exact wpAny_pure (hR s' (hm.mono hsub) (hS.at' fun o e=>hm.heap S o hSw e))
 |succ k ih=>
  intro i s hk hi hst hS hR
  have hlt:i < n:=by omega
  refine codeAny_builtin PyProof.Rows.F.entry_set_update_loop ?_
  rw[Around.under_plainId PyProof.Rows.F.plain_set_update_loop _]
  show wpAny _ A.in1 (pyNext (.ref I) >>= _) _ _ s
  refine wpAny_bind (W.item i s _ _ hlt hst fun v s' hP hst' hm=>?_)
  obtain⟨t,rfl⟩:=hval i v hP
  have hS':StrSet w s'.heap S b (m_ val i):=hS.at' fun o e=>hm.heap S o hSw e
  show wpAny _ A.in1 (holding [Value.str (val i) t] (setAdd S (.str (val i) t)) >>= _) _ _ s'
  refine wpAny_bind (wpAny_holding ?_)
  unfold setAdd
  refine wpAny_holding ?_
  refine wpAny_bind (wpAny_pyHash_str ?_)
  have hroom:(m_ val i).length+1 < scanBound:=by have:=vh val i;omega
  refine oA (s:={s' with toks:=s'.toks+1}) hS' hroom fun r h' hsb hS2=>?_
  refine wpAny_pure ⟨plainId_quiet PyProof.Rows.F.plain_set_update_loop _,ih (i+1) _ (by omega) hlt (W.frame _ s' _ _ hst' (Nat.le_succ _) fun b hb o e=>?_) (by rw[sJ];exact hS2) fun s'' hm'' hS''=>?_⟩
  ·rw[hsb.2 b (fun h:b=S=>hSf (by rw[←h];exact hb))];exact e
  ·refine hR s'' (Moved.trans W.gtrans ((hm.mono hsub).then_heap (Nat.le_succ _) fun b o hb e=>?_) hm'') hS''
   rw[hsb.2 b (fun h:b=S=>hb (by rw[h];exact List.mem_cons_self))];exact e
end
theorem nM(w:World)(led:Bool):SS w led [] #[] (.fresh 0 0 led):=⟨by simp,fun e he=>by simp at he,by decide,by rfl,rfl,fun h=>absurd rfl h⟩
def mO(w:World):Bool:= !w.params.followText "set-order"
section
variable {prog:Program} {w:World} {A:Around} {E:Value→Shared→Prop} {s:Shared}
theorem vi(a:Value){Q₁:Value→Shared→Prop}
  (h:Q₁ (.ref s.heap.objs.size) {s with heap:=s.heap.push (eB #[] 0 (.fresh 0 0 (mO w)))}):
  codeAny (model prog w) A (.call (.builtin "set.__new__") ⟨[.type "set",a],[]⟩) (wants Q₁ E) s:=by
 refine codeAny_of_tree ?_
 show wpAny _ A.in1 (do checkBuiltinCall "set.__new__" ⟨[.type "set",a],[]⟩;again (.builtin "set.__new__" ⟨[.type "set",a],[]⟩)) _ _ s
 refine wpAny_bind (wpAny_of_eq (PySem.F.newCall_set_1 a) (wpAny_pure ⟨plainId_quiet PySem.F.plain_set_new _,codeAny_builtin PySem.F.entry_set_new ?_⟩))
 rw[Around.under_plainId PySem.F.plain_set_new _]
 unfold Builtin.«set.__new__» Builtin.Frozenset.newClass
 have hsub:=sub_set_self
 obtain⟨hp,g,d,tk,os⟩:=s
 dsimp only
 wp_walk
 refine wpAny_askSetting (wpAny_pure ?_)
 dsimp only
 simp only[newObj]
 refine wpAny_bind (wpAny_alloc (wpAny_pure ?_))
 exact wpAny_pure h
end
end NhSet
namespace NhSet
open PySem PyProof.Rows
namespace F
theorem vj:isSubtype (.type "str") (.type "set")=pure false:=by rw[isSubtype_type];kernel_rfl
theorem nN:isSubtype (.type "str") (.type "frozenset")=pure false:=by rw[isSubtype_type];kernel_rfl
end F
section
variable {prog:Program} {w:World} {A:Around} {E:Value→Shared→Prop} {s:Shared}
theorem xX:∀{vs:List Value} {ns:List Str},StrsAre vs ns→∀(i:Nat) (v:Value),vs[i]? =some v→∃t,v=.str (ns.getD i ⟨#[]⟩) t
 |_,_,.nil,i,v,h=>by simp at h
 |_,_,.cons n t hr,0,v,h=>by simp at h;exact⟨t,by rw[←h];rfl⟩
 |_,_,.cons n t hr,i+1,v,h=>by
  simp only[List.getElem?_cons_succ]at h
  obtain⟨t',e⟩:=xX hr i v h
  exact⟨t',by rw[e];rfl⟩
set_option maxHeartbeats 4000000 in
theorem zp{l:Addr}{items:Array Value}{ns:List Str}{Q:Value→Shared→Prop}
  (hh:A.handled=none) (hl:s.heap.IsList l items) (hi:StrsAre items.toList ns) (hb:items.size+1 < scanBound)
  (h:∀(h':Heap) (tk:Nat),StrSet w h' s.heap.objs.size (mO w) (m_ (fun i=>ns.getD i ⟨#[]⟩) items.size)→
   (∀b o,b < s.heap.objs.size→s.heap.get? b=some o→h'.get? b=some o)→Q (.ref s.heap.objs.size) {s with heap:=h',toks:=tk}):
  wpAny (model prog w) A (call (.type "set") [.ref l]) Q E s:=by
 obtain⟨c,tl,hmro⟩:=PySem.F.called_set.mro
 have hmade:=PySem.F.called_set.made
 have hsub:=PySem.F.called_set.sub
 refine wpAny_call (codeAny_of_tree ?_)
 show wpAny _ _ (callAny (.type "set") _) _ _ _
 refine wpAny_pure ⟨Code.quiet_builtin _ (by decide+kernel),codeAny_builtin PySem.F.entry_type_call ?_⟩
 rw[Around.under_plain (weight_type_call_type "set" [.ref l] []) rfl]
 have h1:=PySem.F.called_set.notType
 have h2:=PySem.F.called_set.canCreate
 have hct:=PySem.F.typeCall_set_1 (.ref l)
 repeat (any_goals (first |assumption |wp_step))
 generalize hled:mO w=led at h
 refine codeAny_mono (vi (w:=w) (.ref l) (E:=E) (Q₁:=fun obj s₁=>obj=.ref s.heap.objs.size∧s₁={s with heap:=s.heap.push {cls:=.type "set",dict:=none,data:=.set #[] 0 (.fresh 0 0 led)}}) (by rw[hled];exact⟨rfl,rfl⟩)) fun r s₁ hr=>?_
 cases r with
 |error e=>exact hr
 |ok fl=>
  cases fl with
  |ret obj=>
   obtain⟨rfl,rfl⟩:=hr
   have hS:(s.heap.push {cls:=.type "set",dict:=none,data:=.set #[] 0 (.fresh 0 0 led)}).get? s.heap.objs.size=some {cls:=.type "set",dict:=none,data:=.set #[] 0 (.fresh 0 0 led)}:=Heap.get?_push_size _ rfl
   have hT:Shared.TypeIs {s with heap:=s.heap.push {cls:=.type "set",dict:=none,data:=.set #[] 0 (.fresh 0 0 led)}} (.ref s.heap.objs.size) "set":=⟨_,hS,rfl⟩
   have hli:=PySem.F.called_set.init.lookup
   have hbi:=PySem.F.called_set.init.bind (.ref s.heap.objs.size)
   repeat (any_goals (first |assumption |wp_step))
   refine codeAny_mono (codeAny_call_builtin (R:=wants (fun r s₂=>r=.none∧∃h' tk,s₂={s with heap:=h',toks:=tk}∧
     StrSet w h' s.heap.objs.size led (m_ (fun i=>ns.getD i ⟨#[]⟩) items.size)∧
     (∀b o,b < s.heap.objs.size→s.heap.get? b=some o→h'.get? b=some o)) E) PySem.F.called_set.init.plain PySem.F.entry_set_init (check_set_init_1 hT ?_)) fun r₂ s₂ hr₂=>?_
   ·obtain⟨ol,hol,hcl,nl,hdl⟩:=hl
    obtain⟨ocls,odict,odata,oslots⟩:=ol
    simp only at hcl hdl
    subst hcl;subst hdl
    have hol':(s.heap.push {cls:=.type "set",dict:=none,data:=.set #[] 0 (.fresh 0 0 led)}).get? l=some {cls:=.type "list",dict:=odict,data:=.seq items nl,slots:=oslots}:=Heap.get?_push_of_some _ hol
    have hsls:=PySem.F.sub_list_set
    have hslf:=PySem.F.sub_list_frozenset
    have hne:(Value.type "list" == Value.type "dict")=false:=by decide
    have hl1:(s.heap.push {cls:=.type "set",dict:=none,data:=.set #[] 0 (.fresh 0 0 led)}).IsList l items:=⟨_,hol',rfl,nl,rfl⟩
    unfold Builtin.«set.__init__» noKeywords Builtin.Frozenset.updateFrom
    generalize hPI:pyIter=PI
    wp_walk
    subst hPI
    refine wpAny_pyIter_list hl1 ?_
    refine wpAny_bind (wpAny_runValue ?_)
    have hlS:l < s.heap.objs.size:=Heap.lt_size hol
    have hh3:A.in1.in1.in1.handled=none:=by simp[hh]
    have hneI:l≠(s.heap.push {cls:=.type "set",dict:=none,data:=.set #[] 0 (.fresh 0 0 led)}).objs.size:=by
     rw[Heap.size_push];exact Nat.ne_of_lt (Nat.lt_succ_of_lt hlS)
    have hSf:s.heap.objs.size∉[(s.heap.push {cls:=.type "set",dict:=none,data:=.set #[] 0 (.fresh 0 0 led)}).objs.size,l]:=by
     rw[Heap.size_push];simp only[List.mem_cons,List.mem_singleton,List.not_mem_nil,or_false,not_or]
     exact⟨Nat.ne_of_lt (Nat.lt_succ_self _),Nat.ne_of_gt hlS⟩
    have hval:∀(i:Nat) (v:Value),items[i]? =some v→∃t,v=.str ((fun i=>ns.getD i ⟨#[]⟩) i) t:=fun i v hv=>
     xX hi i v (by rw[Array.getElem?_toList];exact hv)
    refine o8 ((Walks.list hh3 _ l hneI items).toS) s.heap.objs.size
     hSf led (fun i=>ns.getD i ⟨#[]⟩) hval hb (items.size - 0) 0 _ (by omega) (Nat.zero_le _)
     ⟨⟨_,Heap.get?_push_size _ rfl,rfl,rfl⟩,(hl1.push _)⟩ ?hS0 ?hR
    case hS0=>
     have hget:((s.heap.push {cls:=.type "set",dict:=none,data:=.set #[] 0 (.fresh 0 0 led)}).push {cls:=.type "list_iterator",data:=.fields #[.ref l,.int 0 0]}).get? s.heap.objs.size
       =some {cls:=.type "set",dict:=none,data:=.set #[] 0 (.fresh 0 0 led)}:=Heap.get?_push_of_some _ hS
     exact⟨_,_,_,hget,nM w led⟩
    case hR=>
     intro s' hm hS'
     obtain⟨h',g',d',tk',os'⟩:=s'
     have eg:g'=s.gens:=hm.gens
     have ed:d'=s.drawn:=hm.drawn
     have eo:os'=s.os:=hm.os
     subst eg;subst ed;subst eo
     show wpAny _ _ _ _ _ _
     refine wpAny_pure ?_
     show wpAny _ _ (ret Value.none) _ _ _
     refine wpAny_pure ⟨rfl,h',tk',rfl,hS',fun b o hb e=>?_⟩
     have hb1:b≠s.heap.objs.size:=Nat.ne_of_lt hb
     have hb2:b≠(s.heap.push {cls:=.type "set",dict:=none,data:=.set #[] 0 (.fresh 0 0 led)}).objs.size:=by
      rw[Heap.size_push];exact Nat.ne_of_lt (Nat.lt_succ_of_lt hb)
     exact hm.heap b o (by simp only[List.mem_cons,List.mem_singleton,List.not_mem_nil,or_false,not_or];exact⟨hb1,hb2⟩) (Heap.get?_push_of_some _ (Heap.get?_push_of_some _ e))
   ·cases r₂ with
    |error e=>exact hr₂
    |ok fl₂=>
     cases fl₂ with
     |ret r=>
      obtain⟨rfl,h',tk,rfl,hS',hk'⟩:=hr₂
      repeat (any_goals (first |assumption |wp_step))
      exact h _ _ hS' hk'
     |_=>exact hr₂.elim
  |_=>exact hr.elim
def kR(x:Str)(i:Nat):Str:=⟨#[x.cps.getD i 0]⟩
set_option maxHeartbeats 4000000 in
theorem Bl{x:Str}{t:Tok}{Q:Value→Shared→Prop}
  (hh:A.handled=none) (hb:x.cps.size+1 < scanBound)
  (h:∀(h':Heap) (tk:Nat),StrSet w h' s.heap.objs.size (mO w) (m_ (kR x) x.cps.size)→
   (∀b o,b < s.heap.objs.size→s.heap.get? b=some o→h'.get? b=some o)→Q (.ref s.heap.objs.size) {s with heap:=h',toks:=tk}):
  wpAny (model prog w) A (call (.type "set") [.str x t]) Q E s:=by
 obtain⟨c,tl,hmro⟩:=PySem.F.called_set.mro
 have hmade:=PySem.F.called_set.made
 have hsub:=PySem.F.called_set.sub
 refine wpAny_call (codeAny_of_tree ?_)
 show wpAny _ _ (callAny (.type "set") _) _ _ _
 refine wpAny_pure ⟨Code.quiet_builtin _ (by decide+kernel),codeAny_builtin PySem.F.entry_type_call ?_⟩
 rw[Around.under_plain (weight_type_call_type "set" [.str x t] []) rfl]
 have h1:=PySem.F.called_set.notType
 have h2:=PySem.F.called_set.canCreate
 have hct:=PySem.F.typeCall_set_1 (.str x t)
 repeat (any_goals (first |assumption |wp_step))
 generalize hled:mO w=led at h
 refine codeAny_mono (vi (w:=w) (.str x t) (E:=E) (Q₁:=fun obj s₁=>obj=.ref s.heap.objs.size∧s₁={s with heap:=s.heap.push {cls:=.type "set",dict:=none,data:=.set #[] 0 (.fresh 0 0 led)}}) (by rw[hled];exact⟨rfl,rfl⟩)) fun r s₁ hr=>?_
 cases r with
 |error e=>exact hr
 |ok fl=>
  cases fl with
  |ret obj=>
   obtain⟨rfl,rfl⟩:=hr
   have hS:(s.heap.push {cls:=.type "set",dict:=none,data:=.set #[] 0 (.fresh 0 0 led)}).get? s.heap.objs.size=some {cls:=.type "set",dict:=none,data:=.set #[] 0 (.fresh 0 0 led)}:=Heap.get?_push_size _ rfl
   have hT:Shared.TypeIs {s with heap:=s.heap.push {cls:=.type "set",dict:=none,data:=.set #[] 0 (.fresh 0 0 led)}} (.ref s.heap.objs.size) "set":=⟨_,hS,rfl⟩
   have hli:=PySem.F.called_set.init.lookup
   have hbi:=PySem.F.called_set.init.bind (.ref s.heap.objs.size)
   repeat (any_goals (first |assumption |wp_step))
   refine codeAny_mono (codeAny_call_builtin (R:=wants (fun r s₂=>r=.none∧∃h' tk,s₂={s with heap:=h',toks:=tk}∧
     StrSet w h' s.heap.objs.size led (m_ (kR x) x.cps.size)∧
     (∀b o,b < s.heap.objs.size→s.heap.get? b=some o→h'.get? b=some o)) E) PySem.F.called_set.init.plain PySem.F.entry_set_init (check_set_init_1 hT ?_)) fun r₂ s₂ hr₂=>?_
   ·have hsls:=F.vj
    have hslf:=F.nN
    have hne:(Value.type "str" == Value.type "dict")=false:=by decide
    have hTx:Shared.TypeIs {s with heap:=s.heap.push {cls:=.type "set",dict:=none,data:=.set #[] 0 (.fresh 0 0 led)}} (.str x t) "str":=rfl
    unfold Builtin.«set.__init__» noKeywords Builtin.Frozenset.updateFrom
    generalize hPI:pyIter=PI
    wp_walk
    subst hPI
    refine wpAny_pyIter_str fun o St W hst=>?_
    refine wpAny_bind (wpAny_runValue ?_)
    have hh3:A.in1.in1.in1.handled=none:=by simp[hh]
    have hSf:s.heap.objs.size∉[(s.heap.push {cls:=.type "set",dict:=none,data:=.set #[] 0 (.fresh 0 0 led)}).objs.size]:=by
     rw[Heap.size_push];simp only[List.mem_cons,List.mem_singleton,List.not_mem_nil,or_false,not_or]
     exact Nat.ne_of_lt (Nat.lt_succ_self _)
    have hval:∀(i:Nat) (v:Value),SignAt x i v→∃t,v=.str (kR x i) t:=fun i v ⟨c,u,hc,hv⟩=>⟨u,by rw[hv];simp[kR,Array.getD_eq_getD_getElem?,hc]⟩
    refine o8 ((W _ hh3).toS) s.heap.objs.size
     hSf led (kR x) hval hb (x.cps.size - 0) 0 _ (by omega) (Nat.zero_le _) hst ?hS0 ?hR
    case hS0=>exact⟨_,_,_,Heap.get?_push_of_some _ hS,nM w led⟩
    case hR=>
     intro s' hm hS'
     obtain⟨h',g',d',tk',os'⟩:=s'
     have eg:g'=s.gens:=hm.gens
     have ed:d'=s.drawn:=hm.drawn
     have eo:os'=s.os:=hm.os
     subst eg;subst ed;subst eo
     show wpAny _ _ _ _ _ _
     refine wpAny_pure ?_
     show wpAny _ _ (ret Value.none) _ _ _
     refine wpAny_pure ⟨rfl,h',tk',rfl,hS',fun b o hb e=>?_⟩
     have hb1:b≠s.heap.objs.size:=Nat.ne_of_lt hb
     have hb2:b≠(s.heap.push {cls:=.type "set",dict:=none,data:=.set #[] 0 (.fresh 0 0 led)}).objs.size:=by
      rw[Heap.size_push];exact Nat.ne_of_lt (Nat.lt_succ_of_lt hb)
     exact hm.heap b o (by simp only[List.mem_cons,List.mem_singleton,List.not_mem_nil,or_false,not_or];exact⟨hb1,hb2⟩) (Heap.get?_push_of_some _ (Heap.get?_push_of_some _ e))
   ·cases r₂ with
    |error e=>exact hr₂
    |ok fl₂=>
     cases fl₂ with
     |ret r=>
      obtain⟨rfl,h',tk,rfl,hS',hk'⟩:=hr₂
      repeat (any_goals (first |assumption |wp_step))
      exact h _ _ hS' hk'
     |_=>exact hr₂.elim
  |_=>exact hr.elim
end
end NhSet
namespace NhSet
open PySem PyProof.Rows
theorem nh{α:Type}:∀{l:List α} {i:Nat} (h:i < l.length),(l[i]::l.eraseIdx i).Perm l
 |x::xs,0,h=>List.Perm.refl _
 |x::xs,i+1,h=>by
  have:=nh (l:=xs) (i:=i) (by simpa using h)
  simp only[List.getElem_cons_succ,List.eraseIdx_cons_succ]
  exact(List.Perm.swap x _ _).trans (this.cons x)
theorem sK{α:Type}(next:Nat→Nat):∀(fuel k:Nat) (left:List α) (out:Array α),left.length=fuel→(pickOrder.go next fuel k left out).toList.Perm (out.toList++left)
 | 0,k,left,out,h=>by
  have:left=[]:=List.length_eq_zero_iff.mp h
  subst this;simp[pickOrder.go]
 |fuel+1,k,left,out,h=>by
  unfold pickOrder.go
  have hlt:next k % left.length < left.length:=Nat.mod_lt _ (by omega)
  rw[List.getElem?_eq_getElem hlt]
  dsimp only
  refine(sK next fuel (k+1) _ _ (by rw[List.length_eraseIdx_of_lt hlt];omega)).trans ?_
  rw[Array.toList_push,List.append_assoc]
  exact(nh hlt).append_left _
theorem qG{α:Type}(next:Nat→Nat)(xs:Array α):(pickOrder next xs).toList.Perm xs.toList:=by
 have:=sK next xs.size 0 xs.toList #[] (by simp)
 simpa[pickOrder]using this
section
variable {M:Model} {A:Around} {E:Value→Shared→Prop}
theorem t9{src:Source}{n:Nat}{s:Shared}{Q:Nat→Shared→Prop}(hn:n≠0)(h:∀i d,i < n→Q i {s with drawn:=d}):wpAny M A (choose src n) Q E s:=fun Γ p hΓ=>by
 show Sem.wp M Γ (.choose src n .pure) _ _ p s
 rw[Sem.wp_choose]
 exact⟨hn,by rw[Sem.wp_pure];exact h _ _ (Nat.mod_lt _ (Nat.pos_of_ne_zero hn))⟩
theorem lB{α:Type}:∀(n:Nat) (xs:List α) (s:Shared) {Q:List α→Shared→Prop},xs.length=n→(∀ys d,ys.Perm xs→Q ys {s with drawn:=d})→wpAny M A (drawOrder n xs) Q E s
 | 0,xs,s,Q,hl,h=>by
  have:xs=[]:=List.length_eq_zero_iff.mp hl
  subst this
  exact wpAny_pure (h [] s.drawn (List.Perm.refl _))
 |n+1,[],s,Q,hl,h=>by simp at hl
 |n+1,x::xs,s,Q,hl,h=>by
  show wpAny M A (choose .order (x::xs).length >>= _) Q E s
  refine wpAny_bind (t9 (by simp) fun i d hi=>?_)
  rw[List.getElem?_eq_getElem hi]
  dsimp only
  refine wpAny_bind (lB n _ _ (by rw[List.length_eraseIdx_of_lt hi];simpa using hl) fun ys d' hp=>?_)
  exact wpAny_pure (h _ d' ((hp.cons _).trans (nh hi)))
end
namespace F
theorem qH:entryFor table "set.__iter__"=some Builtin.«frozenset.__iter__»:=
 entryFor_alias (id':="frozenset.__iter__") (by kernel_rfl) rfl (by decide+kernel) (by kernel_rfl)
theorem slot_next:Slot "set_iterator" "__next__" "set_iterator.__next__":=
 .of (owner:="set_iterator") (n:="__next__") (by rw[typeLookup_type,builtinLookup_eq_fast];kernel_rfl) (by decide+kernel) (by decide+kernel) (by decide+kernel)
  (by first |exact .inl (by decide+kernel) |exact .inr (by decide+kernel)) (by rw[isSubtype_type];kernel_rfl)
theorem wE:entryFor table "set_iterator.__next__"=some Builtin.«set_iterator.__next__»:=entryFor_of_fast (by kernel_rfl)
theorem zq(a:Value):argsOk "set_iterator.__next__" ⟨[a],[]⟩:=by unfold argsOk;kernel_rfl
theorem sL:Slot "set_iterator" "__iter__" "set_iterator.__iter__":=
 .of (owner:="set_iterator") (n:="__iter__") (by rw[typeLookup_type,builtinLookup_eq_fast];kernel_rfl) (by decide+kernel) (by decide+kernel) (by decide+kernel)
  (by first |exact .inl (by decide+kernel) |exact .inr (by decide+kernel)) (by rw[isSubtype_type];kernel_rfl)
theorem wF:entryFor table "set_iterator.__iter__"=some Builtin.«dict_keyiterator.__iter__»:=
 entryFor_alias (id':="dict_keyiterator.__iter__") (by kernel_rfl) rfl (by decide+kernel) (by kernel_rfl)
theorem zr(a:Value):argsOk "set_iterator.__iter__" ⟨[a],[]⟩:=by unfold argsOk;kernel_rfl
end F
abbrev vk(first:Value)(i:Nat)(a:Addr)(n ep:Nat):Obj:={cls:=.type "set_iterator",data:=.fields #[first,.int i 0,.ref a,.int n 0,.int ep 0]}
section
variable {prog:Program} {w:World} {A:Around} {E:Value→Shared→Prop} {s:Shared}
theorem t_{I:Addr}{first:Value}{i:Nat}{a:Addr}{n ep:Nat}{Q:Value→Shared→Prop}(ho:s.heap.get? I=some (vk first i a n ep))(h:Q (.ref I) s):wpAny (model prog w) A (pyIter (.ref I)) Q E s:=by
 have hT:s.TypeIs (.ref I) "set_iterator":=⟨_,ho,rfl⟩
 refine wpAny_pyIter_slot hT F.sL (wpAny_call_entry F.sL hT F.wF ?_ (F.zr _))
 show wpAny _ _ (ret (.ref I)) _ _ s
 exact wpAny_pure ⟨_,rfl,"set_iterator",_,hT,F.slot_next.lookup,h⟩
theorem vm{a:Addr}{es:Array (Int×Value)}{ep:Nat}{t:SetTable}{Q:Bool→Shared→Prop}(ho:s.heap.get? a=some (eB es ep t))(hf:t.fits es.size=true)
  (h:Q (!(w.params.followText "set-order")&&(!t.plain&&decide (es.size > 1))) s):wpAny (model prog w) A (setDrawn a) Q E s:=by
 unfold setDrawn setsByText
 refine wpAny_bind (wpAny_setState_of ho rfl hf ?_)
 dsimp only
 refine wpAny_bind (wpAny_bind (wpAny_askSetting (wpAny_pure ?_)))
 exact wpAny_pure h
theorem ua{I:Addr}{Q:Option Value→Shared→Prop}(hh:A.handled=none){o:Obj}(hQ:∀h',Heap.ExtBut I s.heap h'→Q none {s with heap:=h'}){h1:Heap}(k:Heap.ExtBut I s.heap h1):
  wpAny (model prog w) A.in1 (newExc (.type "StopIteration") [] >>= fun e=>raiseNew e) (fun(fin:Fin) s'=>∃r,fin=.done (.ret r)∧wpAny (model prog w) A (pure (some r)) Q E s')
   (fun e s'=>wpAny (model prog w) A (isInstance e (.type "StopIteration") >>= fun b=>if b=true then pure none else throw e) Q E s') {s with heap:=h1}:=by
 refine wpAny_bind ?_
 simp only[newExc,newTuple]
 refine wpAny_bind (wpAny_newObj_type ?_ (by size_fits))
 refine wpAny_bind (m:=firstArgMember _ _) (wpAny_of_eq (a:=Value.none) (by first |rfl |(simp only[firstArgMember];rfl)) ?_)
 refine wpAny_newObj_type ?_ (by size_fits)
 simp only[raiseNew]
 refine wpAny_bind (wpAny_handled ?_)
 rw[show A.in1.handled=none from hh]
 refine wpAny_bind (wpAny_pure (wpAny_throw ?_))
 refine wpAny_bind (wpAny_isInstance (T:="StopIteration") (b:=true) ⟨_,Heap.get?_push_size _ rfl,rfl⟩ isSubtype_stop ?_)
 exact wpAny_pure (hQ _ ((k.push _).push _))
end
end NhSet
namespace NhSet
open PySem PyProof.Rows
section
variable {prog:Program} {w:World} {A:Around} {E:Value→Shared→Prop} {s:Shared}
theorem io{I:Addr}{first:Value}{i:Nat}{a:Addr}{n ep:Nat}{Q:Option Value→Shared→Prop}(hI:s.heap.get? I=some (vk first i a n ep)){es:Array (Int×Value)}{t:SetTable}(ha:s.heap.get? a=some (eB es ep t))(hf:t.fits es.size=true)(hn:es.size=n)
  (h:wpAny (model prog w) A.in1 (if let .int slot _:=first then do
    match ←setNext a slot.toNat i ep with
    |some (x,next)=>do
     setField (.ref I) 0 (rawInt next)
     setField (.ref I) 1 (rawInt (i+1))
     ret x
    |none=>do setField (.ref I) 2 .none;raiseNew (←newExc (.type "StopIteration") [])
   else do
    let some places ←seqItems? first |unsupported "internal:set_iterator"
    match places[i]? with
    |some (.int place _)=>do
     let x ←setNextDrawn a place.toNat ep
     setField (.ref I) 1 (rawInt (i+1))
     ret x
    |some _=>unsupported "internal:set_iterator"
    |none=>do setField (.ref I) 0 (rawInt 0);setField (.ref I) 2 .none;raiseNew (←newExc (.type "StopIteration") []))
   (fun(fin:Fin) s'=>∃r,fin=.done (.ret r)∧wpAny (model prog w) A (pure (some r)) Q E s')
   (fun e s'=>wpAny (model prog w) A (isInstance e (.type "StopIteration") >>= fun b=>if b=true then pure none else throw e) Q E s') s):
  wpAny (model prog w) A (pyNext (.ref I)) Q E s:=by
 have hT':s.TypeIs (.ref I) "set_iterator":=⟨_,hI,rfl⟩
 unfold pyNext
 refine wpAny_bind (wpAny_attempt (wpAny_callSpecial?_slot (name:=Str.ofString "__next__") hT' F.slot_next (wpAny_call_entry F.slot_next hT' F.wE ?_ (F.zq _))))
 unfold Builtin.«set_iterator.__next__»
 refine wpAny_bind (m:=slotArgs _ _ _) (wpAny_pure ?_)
 refine wpAny_bind (wpAny_fieldsOf hI rfl ?_)
 dsimp only
 refine wpAny_bind (wpAny_setEntries_of ha rfl hf ?_)
 rw[if_neg (by simp[hn])]
 exact h
abbrev Em(es:Array (Int×Value))(j:Nat):Value:=(es.getD j (0,.none)).2
theorem d4{I:Addr}{o:Obj}{vs:Array Value}{k:Nat}{x:Value}{Q:Unit→Shared→Prop}(ho:s.heap.get? I=some o)(hd:o.data=.fields vs)(hk:k < vs.size)(hQ:∀h',Heap.SameBut I s.heap h'→h'.get? I=some {o with data:=.fields (vs.setIfInBounds k x)}→Q () {s with heap:=h'}):wpAny (model prog w) A (setField (.ref I) k x) Q E s:=by
 refine wpAny_setField ho hd hk (hQ _ (Heap.SameBut.update ..) ?_)
 have:=Heap.get?_update_self (Obj.mapFields fun vs=>vs.setIfInBounds k x) ho (Obj.isFreed_of_fields (Obj.data_mapFields hd _))
 rw[this]
 obtain⟨c,d,dt,sl⟩:=o
 simp only at hd
 subst hd
 rfl
theorem wG(hh:A.handled=none){I T a:Addr}{es:Array (Int×Value)}{ep:Nat}{t:SetTable}(π:List Nat)(hp:∀j∈π,j < es.size)(hl:π.length=es.size)(hf:t.fits es.size=true)(hTI:T≠I)(haI:a≠I):
  Walks prog w A I [I,T,a] [I] (π.map (Em es)).length (fun i v=>(π.map (Em es))[i]? =some v)
   (fun i h=>h.get? I=some (vk (.ref T) i a es.size ep)∧h.get? T=some {cls:=.type "tuple",data:=.seq (π.map fun(i:Nat)=>rawInt i).toArray}∧h.get? a=some (eB es ep t)) where
 sub:=fun b hb=>by simp at hb;simp[hb]
 frame:=fun _ _ _ st hk=>⟨hk I (by simp) _ st.1,hk T (by simp) _ st.2.1,hk a (by simp) _ st.2.2⟩
 self:=fun _ _ _ _ st hQ=>t_ st.1 hQ
 item:=fun i s Q E hi st hQ=>by
  obtain⟨hI,hT,ha⟩:=st
  rw[List.length_map]at hi
  refine io hI ha hf rfl ?_
  dsimp only
  refine wpAny_bind (wpAny_seqItems hT rfl ?_)
  dsimp only
  have e:(π.map fun(i:Nat)=>rawInt i).toArray[i]? =some (.int (π[i]:Nat) 0):=by
   simp[hi,rawInt]
  rw[e]
  dsimp only
  have hj:=hp π[i] (List.getElem_mem hi)
  unfold setNextDrawn
  refine wpAny_bind (wpAny_bind (wpAny_setState_of ha rfl hf ?_))
  dsimp only
  rw[if_neg (by simp)]
  have e2:es[((π[i]:Nat):Int).toNat]? =some (es[π[i]]):=by simp[hj]
  rw[e2]
  refine wpAny_pure ?_
  refine wpAny_bind (d4 hI rfl (by simp) fun h' hs' ho'=>?_)
  refine wpAny_pure ⟨_,rfl,wpAny_pure (hQ _ h' s.toks ?_ ⟨?_,?_,?_⟩ fun b o hb e=>hs'.extBut b o (fun z=>hb (by simp[z])) e)⟩
  ·simp[hi,Em,hj]
  ·rw[ho'];simp[rawInt]
  ·exact hs'.extBut T _ hTI hT
  ·exact hs'.extBut a _ haI ha
 done:=fun s Q E st hQ=>by
  obtain⟨hI,hT,ha⟩:=st
  refine io hI ha hf rfl ?_
  dsimp only
  refine wpAny_bind (wpAny_seqItems hT rfl ?_)
  dsimp only
  have e:(π.map fun(i:Nat)=>rawInt i).toArray[(π.map (Em es)).length]? =none:=by simp
  rw[e]
  dsimp only
  refine wpAny_bind (d4 hI rfl (by simp) fun h' hs' ho'=>?_)
  refine wpAny_bind (d4 (s:={s with heap:=h'}) ho' rfl (by simp) fun h2 hs2 _=>?_)
  exact ua (I:=I) (o:=eB es ep t) hh (fun h3 k=>hQ h3 s.toks fun b o hb e=>k b o (fun z=>hb (by simp[z])) e) (hs'.trans hs2).extBut
theorem nO {a:Addr} {es:Array (Int×Value)} {ep:Nat} {t:SetTable} {slot given:Nat} {Q:Option (Value×Nat)→Shared→Prop} (hb:w.params.followText "set-order"=true) (ha:s.heap.get? a=some (eB es ep t)) (hf:t.fits es.size=true)
  (h:Q (((pickOrder (w.params.setOrder a ep) es)[given]?).map fun e=>(e.2,slot)) s):wpAny (model prog w) A (setNext a slot given ep) Q E s:=by
 unfold setNext setsByText
 refine wpAny_bind (wpAny_setState_of ha rfl hf ?_)
 dsimp only
 refine wpAny_bind (wpAny_bind (wpAny_askSetting (wpAny_pure ?_)))
 rw[if_pos (show(model prog w).w.params.followText "set-order"=true from hb)]
 rw[if_neg (by simp)]
 refine wpAny_bind ?_
 unfold setWalk setsByText
 refine wpAny_bind (wpAny_setState_of ha rfl hf ?_)
 dsimp only
 refine wpAny_bind (wpAny_bind (wpAny_askSetting (wpAny_pure ?_)))
 rw[if_pos (show(model prog w).w.params.followText "set-order"=true from hb)]
 refine wpAny_bind (wpAny_askSetting (wpAny_pure ?_))
 exact wpAny_pure h
theorem o9 {a:Addr} {es:Array (Int×Value)} {ep:Nat} {t:SetTable} {slot given:Nat} {Q:Option (Value×Nat)→Shared→Prop} (hb:w.params.followText "set-order"=false) (hsz:es.size≤1) (hled:t.led=true) (ha:s.heap.get? a=some (eB es ep t)) (hf:t.fits es.size=true)
  (h:Q (match es[SetTable.below t.place slot]?,t.place[SetTable.below t.place slot]? with |some (_,x),some j=>some (x,j+1) |_,_=>none) s):wpAny (model prog w) A (setNext a slot given ep) Q E s:=by
 unfold setNext setsByText
 refine wpAny_bind (wpAny_setState_of ha rfl hf ?_)
 dsimp only
 refine wpAny_bind (wpAny_bind (wpAny_askSetting (wpAny_pure ?_)))
 rw[if_neg (show ¬((model prog w).w.params.followText "set-order"=true) by show ¬(w.params.followText "set-order"=true);rw[hb];decide)]
 have hd:(!t.plain&&decide (es.size > 1))=false:=by rw[decide_eq_false (by omega)];simp
 show wpAny _ _ (if (!t.plain&&decide (es.size > 1))=true then _ else _) _ _ _
 rw[hd,if_neg (by decide)]
 show wpAny _ _ ((if (!t.led&& !es.isEmpty)=true then unsupported "set:maker-not-led" else pure PUnit.unit) >>= _) _ _ _
 rw[hled,if_neg (by simp)]
 refine wpAny_bind (wpAny_pure ?_)
 exact wpAny_pure h
theorem zt (hh:A.handled=none) {I a:Addr} {es:Array (Int×Value)} {ep:Nat} {t:SetTable} (hb:w.params.followText "set-order"=true) (hf:t.fits es.size=true) (haI:a≠I):
  Walks prog w A I [I,a] [I] ((pickOrder (w.params.setOrder a ep) es).toList.map (·.2)).length (fun i v=>((pickOrder (w.params.setOrder a ep) es).toList.map (·.2))[i]? =some v)
   (fun i h=>h.get? I=some (vk (.int 0 0) i a es.size ep)∧h.get? a=some (eB es ep t)) where
 sub:=fun b hb=>by simp at hb;simp[hb]
 frame:=fun _ _ _ st hk=>⟨hk I (by simp) _ st.1,hk a (by simp) _ st.2⟩
 self:=fun _ _ _ _ st hQ=>t_ st.1 hQ
 item:=fun i s Q E hi st hQ=>by
  obtain⟨hI,ha⟩:=st
  have hi':i < (pickOrder (w.params.setOrder a ep) es).size:=by simpa using hi
  refine io hI ha hf rfl ?_
  dsimp only
  refine wpAny_bind (nO hb ha hf ?_)
  rw[Array.getElem?_eq_getElem hi']
  dsimp only[Option.map_some]
  refine wpAny_bind (d4 hI rfl (by simp) fun h' hs' ho'=>?_)
  refine wpAny_bind (d4 (s:={s with heap:=h'}) ho' rfl (by simp) fun h2 hs2 ho2=>?_)
  refine wpAny_pure ⟨_,rfl,wpAny_pure (hQ _ h2 s.toks ?_ ⟨?_,?_⟩ fun b o hb e=>(hs'.trans hs2).extBut b o (fun z=>hb (by simp[z])) e)⟩
  ·simp[hi']
  ·rw[ho2];simp[rawInt]
  ·exact(hs'.trans hs2).extBut a _ haI ha
 done:=fun s Q E st hQ=>by
  obtain⟨hI,ha⟩:=st
  refine io hI ha hf rfl ?_
  dsimp only
  refine wpAny_bind (nO hb ha hf ?_)
  rw[show(pickOrder (w.params.setOrder a ep) es)[((pickOrder (w.params.setOrder a ep) es).toList.map (·.2)).length]? =none by simp]
  dsimp only[Option.map_none]
  refine wpAny_bind (d4 hI rfl (by simp) fun h' hs' ho'=>?_)
  exact ua (I:=I) (o:=eB es ep t) hh (fun h3 k=>hQ h3 s.toks fun b o hb e=>k b o (fun z=>hb (by simp[z])) e) hs'.extBut
theorem qI{xs:Array Nat}(h:xs.size≤1):SetTable.below xs 0=0:=by
 obtain⟨l⟩:=xs
 match l,h with
 |[],_=>rfl
 |[p],_=>simp[SetTable.below,SetTable.below.go]
theorem wH{p:Nat}:SetTable.below #[p] (p+1)=1:=by simp[SetTable.below,SetTable.below.go]
theorem Bm (hh:A.handled=none) {I a:Addr} {es:Array (Int×Value)} {ep:Nat} {t:SetTable} (hb:w.params.followText "set-order"=false) (hsz:es.size≤1) (hled:t.led=true) (hf:t.fits es.size=true) (haI:a≠I):
  Walks prog w A I [I,a] [I] (es.toList.map (·.2)).length (fun i v=>(es.toList.map (·.2))[i]? =some v)
   (fun i h=>h.get? I=some (vk (.int (if i=0 then 0 else (t.place.getD 0 0+1:Nat)) 0) i a es.size ep)∧h.get? a=some (eB es ep t)) where
 sub:=fun b hb=>by simp at hb;simp[hb]
 frame:=fun _ _ _ st hk=>⟨hk I (by simp) _ st.1,hk a (by simp) _ st.2⟩
 self:=fun _ _ _ _ st hQ=>t_ st.1 hQ
 item:=fun i s Q E hi st hQ=>by
  obtain⟨hI,ha⟩:=st
  have hi':i < es.size:=by simpa using hi
  have hi0:i=0:=by omega
  subst hi0
  rw[if_pos rfl]at hI
  have hps:t.place.size=es.size:=by
   have:=hf;simp only[SetTable.fits,Bool.and_eq_true,beq_iff_eq]at this;exact this.1
  refine io hI ha hf rfl ?_
  dsimp only
  refine wpAny_bind (o9 hb hsz hled ha hf ?_)
  rw[show((0:Int)).toNat=0 from rfl,qI (by omega),Array.getElem?_eq_getElem hi',Array.getElem?_eq_getElem (show 0 < t.place.size by omega)]
  dsimp only
  refine wpAny_bind (d4 hI rfl (by simp) fun h' hs' ho'=>?_)
  refine wpAny_bind (d4 (s:={s with heap:=h'}) ho' rfl (by simp) fun h2 hs2 ho2=>?_)
  refine wpAny_pure ⟨_,rfl,wpAny_pure (hQ _ h2 s.toks ?_ ⟨?_,?_⟩ fun b o hb e=>(hs'.trans hs2).extBut b o (fun z=>hb (by simp[z])) e)⟩
  ·simp[hi']
  ·rw[ho2]
   have:t.place.getD 0 0=t.place[0]:=by simp[Array.getD,show 0 < t.place.size by omega]
   simp[rawInt,this]
  ·exact(hs'.trans hs2).extBut a _ haI ha
 done:=fun s Q E st hQ=>by
  obtain⟨hI,ha⟩:=st
  have hps:t.place.size=es.size:=by
   have:=hf;simp only[SetTable.fits,Bool.and_eq_true,beq_iff_eq]at this;exact this.1
  have hlen:(es.toList.map (·.2)).length=es.size:=by simp
  rw[hlen]at hI
  refine io hI ha hf rfl ?_
  dsimp only
  refine wpAny_bind (o9 hb hsz hled ha hf ?_)
  have hno:(match es[SetTable.below t.place (if es.size=0 then (0:Int)else ((t.place.getD 0 0+1:Nat):Int)).toNat]?,t.place[SetTable.below t.place (if es.size=0 then (0:Int)else ((t.place.getD 0 0+1:Nat):Int)).toNat]? with |some (_,x),some j=>some (x,j+1) |_,_=>(none:Option (Value×Nat)))=none:=by
   by_cases z:es.size=0
   ·rw[if_pos z,show((0:Int)).toNat=0 from rfl,qI (by omega),Array.getElem?_eq_none (by omega)]
   ·rw[if_neg z]
    obtain⟨⟨p⟩,hp⟩:∃q:{p:Nat // t.place=#[p]},True:=by
     generalize t.place=pl at hps
     obtain⟨l⟩:=pl
     match l,hps with
     |[],h=>simp at h;omega
     |[p],h=>exact⟨⟨p,rfl⟩,trivial⟩
     |_::_::_,h=>simp at h;omega
    rename_i hpl
    rw[hpl]
    simp only[Int.toNat_natCast]
    have:(#[p]:Array Nat).getD 0 0=p:=rfl
    rw[this,wH,Array.getElem?_eq_none (show es.size≤1 by omega)]
  rw[hno]
  dsimp only
  refine wpAny_bind (d4 hI rfl (by simp) fun h' hs' ho'=>?_)
  exact ua (I:=I) (o:=eB es ep t) hh (fun h3 k=>hQ h3 s.toks fun b o hb e=>k b o (fun z=>hb (by simp[z])) e) hs'.extBut
theorem Bo{a:Addr}{es:Array (Int×Value)}{ep:Nat}{t:SetTable}{ks:List Str}{Q:Value→Shared→Prop}(ha:s.heap.get? a=some (eB es ep t))(S:SS w (mO w) ks es t)
  (hQ:∀(s':Shared) (I:Addr) (fp:List Addr) (St:Nat→Heap→Prop) (items:List Value),(∀b o,s.heap.get? b=some o→s'.heap.get? b=some o)→s.heap.objs.size≤s'.heap.objs.size→s'.gens=s.gens→s'.os=s.os→s'.toks=s.toks→(∀b∈fp,b=a∨s.heap.objs.size≤b)→s.heap.objs.size≤I→
   (∀A':Around,A'.handled=none→Walks prog w A' I fp [I] items.length (fun i v=>items[i]? =some v) St)→St 0 s'.heap→items.Perm (es.toList.map (·.2))→Q (.ref I) s'):
  wpAny (model prog w) A (pyIter (.ref a)) Q E s:=by
 have hT:s.TypeIs (.ref a) "set":=⟨_,ha,rfl⟩
 have hlt:a < s.heap.objs.size:=Heap.lt_size ha
 refine wpAny_pyIter_slot hT PySem.F.slot_set_iter (wpAny_call_entry PySem.F.slot_set_iter hT F.qH ?_ (PySem.F.args_set_iter_1 _))
 unfold Builtin.«frozenset.__iter__» Builtin.Frozenset.slot0 slotArgs
 simp only[List.isEmpty_nil,Bool.not_true,Bool.false_eq_true,↓reduceIte,bind_assoc,List.length_nil,bne_self_eq_false]
 unfold Builtin.Frozenset.addrOf Builtin.Frozenset.sizeOf
 refine wpAny_bind (wpAny_pure ?_)
 try dsimp only
 refine wpAny_bind (wpAny_pure ?_)
 refine wpAny_bind (wpAny_bind (wpAny_setEntries_of ha rfl S.fits (wpAny_pure ?_)))
 refine wpAny_bind (vm ha S.fits ?_)
 cases hd:(!(w.params.followText "set-order")&&(!t.plain&&decide (es.size > 1)))with
 |true=>
  simp only[↓reduceIte]
  refine wpAny_bind (lB es.size (List.range es.size) s (by simp) fun π d hp=>?_)
  have hl:π.length=es.size:=by rw[hp.length_eq,List.length_range]
  have hm:∀j∈π,j < es.size:=fun j hj=>List.mem_range.mp (hp.mem_iff.mp hj)
  refine wpAny_bind (wpAny_newTuple (s:={s with drawn:=d}) ?_ (by rw[List.length_map,hl];exact fits_of_scanBound S.bound))
  have ha2:(s.heap.push {cls:=.type "tuple",data:=.seq (π.map fun(i:Nat)=>rawInt i).toArray}).get? a=some (eB es ep t):=Heap.get?_push_of_some _ ha
  refine wpAny_bind (wpAny_setEpoch_of (s:={s with drawn:=d,heap:=s.heap.push {cls:=.type "tuple",data:=.seq (π.map fun(i:Nat)=>rawInt i).toArray}}) ha2 rfl S.fits ?_)
  refine wpAny_bind (wpAny_newObj_type ?_)
  have hs1:(s.heap.push {cls:=.type "tuple",data:=.seq (π.map fun(i:Nat)=>rawInt i).toArray}).objs.size=s.heap.objs.size+1:=by rw[Heap.size_push]
  refine wpAny_pure ⟨_,rfl,"set_iterator",_,⟨_,Heap.get?_push_size _ rfl,rfl⟩,F.slot_next.lookup,?_⟩
  refine hQ _ _ _ _ (π.map (Em es)) (fun b o e=>Heap.get?_push_of_some _ (Heap.get?_push_of_some _ e)) (by rw[Heap.size_push,Heap.size_push];omega) rfl rfl rfl ?_ (by dsimp only;rw[hs1];omega)
   (fun A' hA=>wG hA (T:=s.heap.objs.size) (a:=a) (ep:=ep) (t:=t) π hm hl S.fits (by dsimp only;rw[hs1];exact Nat.ne_of_lt (Nat.lt_succ_self _)) (by dsimp only;rw[hs1];exact Nat.ne_of_lt (Nat.lt_succ_of_lt hlt)))
   ⟨Heap.get?_push_size _ rfl,Heap.get?_push_of_some _ (Heap.get?_push_size _ rfl),Heap.get?_push_of_some _ ha2⟩ ?_
  ·intro b hb
   rcases List.mem_cons.mp hb with rfl |hb
   ·right;dsimp only;rw[hs1];omega
   rcases List.mem_cons.mp hb with rfl |hb
   ·right;exact Nat.le_refl _
   ·left;exact List.mem_singleton.mp hb
  ·refine(hp.map (Em es)).trans ?_
   rw[show(List.range es.size).map (Em es)=es.toList.map (·.2)from ?_]
   refine List.ext_getElem (by simp) fun i h1 h2=>?_
   have hi:i < es.size:=by simpa using h1
   simp[Em,hi]
 |false=>
  simp only[Bool.false_eq_true,↓reduceIte]
  refine wpAny_bind (wpAny_pure ?_)
  refine wpAny_bind (wpAny_setEpoch_of ha rfl S.fits ?_)
  refine wpAny_bind (wpAny_newObj_type ?_)
  refine wpAny_pure ⟨_,rfl,"set_iterator",_,⟨_,Heap.get?_push_size _ rfl,rfl⟩,F.slot_next.lookup,?_⟩
  have hfp:∀b∈[s.heap.objs.size,a],b=a∨s.heap.objs.size≤b:=fun b hb=>by
   rcases List.mem_cons.mp hb with rfl |hb
   ·right;exact Nat.le_refl _
   ·left;exact List.mem_singleton.mp hb
  cases hb:w.params.followText "set-order" with
  |true=>
   exact hQ _ _ _ _ ((pickOrder (w.params.setOrder a ep) es).toList.map (·.2)) (fun b o e=>Heap.get?_push_of_some _ e) (by rw[Heap.size_push];omega) rfl rfl rfl hfp (Nat.le_refl _)
    (fun A' hA=>zt hA (t:=t) hb S.fits (Nat.ne_of_lt hlt)) ⟨Heap.get?_push_size _ rfl,Heap.get?_push_of_some _ ha⟩ ((qG _ es).map _)
  |false=>
   have hled:t.led=true:=by rw[S.led,mO,hb];rfl
   have hsz:es.size≤1:=by
    rw[hb]at hd
    by_cases z:es.size=0
    ·omega
    ·rw[S.plain z]at hd
     simp at hd
     omega
   exact hQ _ _ _ _ (es.toList.map (·.2)) (fun b o e=>Heap.get?_push_of_some _ e) (by rw[Heap.size_push];omega) rfl rfl rfl hfp (Nat.le_refl _)
    (fun A' hA=>Bm hA (t:=t) hb hsz hled S.fits (Nat.ne_of_lt hlt)) ⟨Heap.get?_push_size _ rfl,Heap.get?_push_of_some _ ha⟩ (List.Perm.refl _)
end
end NhSet
namespace NhSet
open PySem PyProof.Rows
namespace F
theorem Dj:typeLookup (.type "set") "__len__"=pure (some (.builtin "set.__len__")):=by rw[typeLookup_type,builtinLookup_eq_fast];kernel_rfl
end F
section
variable {prog:Program} {w:World} {A:Around} {E:Value→Shared→Prop} {s:Shared}
theorem vn{a:Addr}{es:Array (Int×Value)}{ep:Nat}{t:SetTable}{ks:List Str}{Q:List Value→Shared→Prop}(hh:A.handled=none)(ha:s.heap.get? a=some (eB es ep t))(S:SS w (mO w) ks es t)
  (hQ:∀(s':Shared) (items:List Value),(∀b o,s.heap.get? b=some o→s'.heap.get? b=some o)→s'.gens=s.gens→s'.os=s.os→s.heap.objs.size≤s'.heap.objs.size→items.Perm (es.toList.map (·.2))→Q items s'):
  wpAny (model prog w) A (collect (.ref a)) Q E s:=by
 have hlt:a < s.heap.objs.size:=Heap.lt_size ha
 unfold collect
 refine wpAny_bind (wpAny_runValue (codeAny_builtin PySem.F.entry_proto_collect ?_))
 rw[Around.under_plainId PySem.F.plain_proto_collect _]
 show wpAny _ A.in1 (newList [] >>= fun l=>again (.builtin "list.__iadd__" ⟨[l,.ref a],[]⟩)) _ _ s
 refine wpAny_bind (wpAny_newObj_type ?_)
 refine wpAny_pure ⟨plainId_quiet PySem.F.plain_list_iadd _,codeAny_builtin PySem.F.entry_list_iadd ?_⟩
 rw[Around.under_plainId PySem.F.plain_list_iadd _]
 show wpAny _ A.in1 (Builtin.List.listExtendWith (.ref s.heap.objs.size) (.ref a) (.ref s.heap.objs.size)) _ _ _
 unfold Builtin.List.listExtendWith
 have ha1:(s.heap.push {cls:=.type "list",data:=.seq ([]:List Value).toArray}).get? a=some (eB es ep t):=Heap.get?_push_of_some _ ha
 have hT1:Shared.TypeIs {s with heap:=s.heap.push {cls:=.type "list",data:=.seq ([]:List Value).toArray}} (.ref a) "set":=⟨_,ha1,rfl⟩
 refine wpAny_bind (wpAny_typeOf hT1 ?_)
 have h1:Builtin.List.listSameRef (.ref s.heap.objs.size) (.ref a)=false:=by simp[Builtin.List.listSameRef];exact Nat.ne_of_gt hlt
 have h2:(Value.type "set" == Value.type "list")=false:=by decide
 have h3:(Value.type "set" == Value.type "tuple")=false:=by decide
 simp only[h1,h2,h3,Bool.or_false,Bool.false_eq_true,if_false]
 refine wpAny_bind (Bo ha1 S fun s2 I fp St items k2 z2 g2 o2 t2 hfp hI W hst hp=>?_)
 have hT2:s2.TypeIs (.ref a) "set":=⟨_,k2 a _ ha1,rfl⟩
 refine wpAny_bind (wpAny_holding ?_)
 unfold Builtin.List.listLengthHint
 refine wpAny_bind (wpAny_specialOf hT2 F.Dj ?_)
 wp_delta
 refine wpAny_bind (wpAny_isInstance (T:="set") (b:=true) hT2 sub_set_self ?_)
 show wpAny _ A.in1 (typeOf (Value.ref a) >>= _) _ _ _
 refine wpAny_bind (wpAny_typeOf hT2 ?_)
 refine wpAny_pure ?_
 rw[if_pos (by decide)]
 refine wpAny_bind (wpAny_rule ?_)
 have hS0:s2.heap.get? s.heap.objs.size=some {cls:=.type "list",data:=.seq ([]:List Value).toArray}:=k2 _ _ (Heap.get?_push_size _ rfl)
 refine wpAny_bind ?_
 show wpAny _ A.in1 (updateSeq s.heap.objs.size (·.push .none) >>= fun _=>updateSeq s.heap.objs.size (·.pop)) _ _ _
 refine wpAny_bind (wpAny_updateSeq hS0 rfl ?_)
 have hS2:=Heap.get?_update_self (Obj.mapSeq (·.push Value.none)) hS0 rfl
 refine wpAny_updateSeq hS2 rfl ?_
 have hS3:=Heap.get?_update_self (Obj.mapSeq (·.pop)) hS2 rfl
 have oth:∀b o,b≠s.heap.objs.size→s2.heap.get? b=some o→
   ((s2.heap.update s.heap.objs.size (Obj.mapSeq (·.push Value.none))).update s.heap.objs.size (Obj.mapSeq (·.pop))).get? b=some o:=
  fun b o hb e=>(Heap.get?_update_other _ _ (Ne.symm hb)).trans ((Heap.get?_update_other _ _ (Ne.symm hb)).trans e)
 have hz1:(s.heap.push {cls:=.type "list",data:=.seq ([]:List Value).toArray}).objs.size=s.heap.objs.size+1:=by rw[Heap.size_push]
 have hnS:∀b,(s.heap.push {cls:=.type "list",data:=.seq ([]:List Value).toArray}).objs.size≤b→b≠s.heap.objs.size:=fun b hb e=>by
  rw[hz1,e]at hb;exact Nat.not_succ_le_self _ hb
 have hSf:s.heap.objs.size∉fp:=fun hm=>by
  rcases hfp _ hm with e |e
  ·exact absurd e (Nat.ne_of_gt hlt)
  ·exact hnS _ e rfl
 have hlen:items.length≤sizeLine:=by
  rw[hp.length_eq];simpa using fits_of_scanBound S.bound
 refine wpAny_pure ⟨plainId_quiet PySem.F.plain_extend_loop _,codeAny_extend_loopS (W A.in1 (by simp[hh])).toS hlen _ hSf _ items.length 0 _ _ _ rfl (Nat.zero_le _)
  ((W A.in1 (by simp[hh])).frame 0 s2.heap _ hst fun b hb o e=>oth b o (fun z=>hSf (z▸hb)) e) hS3 (ItemsOf.nil _) fun s' acc' c' hm hS' hacc=>?_⟩
 show wpAny _ A (load s.heap.objs.size >>= _) _ _ s'
 refine wpAny_bind (wpAny_load hS' ?_)
 have hacc':acc'.toList=items:=by
  refine List.ext_getElem? fun i=>?_
  rw[Array.getElem?_toList]
  by_cases hi:i < acc'.size
  ·rw[Array.getElem?_eq_getElem hi]
   exact(hacc.2 i _ (Array.getElem?_eq_getElem hi)).symm
  ·rw[Array.getElem?_eq_none (by omega),List.getElem?_eq_none (by rw[←hacc.1];omega)]
 refine wpAny_pure ?_
 rw[hacc']
 refine hQ s' items (fun b o e=>?_) (hm.gens.trans g2) (hm.os.trans o2) (Nat.le_of_lt (Heap.lt_size hS')) hp
 have hb:b < s.heap.objs.size:=Heap.lt_size e
 refine hm.heap b o (fun z=>?_) (oth b o (Nat.ne_of_lt hb) (k2 b o (Heap.get?_push_of_some _ e)))
 rcases List.mem_cons.mp z with z |z
 ·exact absurd z (Nat.ne_of_lt hb)
 ·rw[List.mem_singleton.mp z]at hb
  have hI':s.heap.objs.size+1≤I:=by rw[←hz1];exact hI
  exact absurd (Nat.lt_of_lt_of_le (Nat.lt_succ_self _) hI') (Nat.lt_asymm hb)
theorem wI{a:Addr}{ks:List Str}{Q:Value→Shared→Prop}(hh:A.handled=none)(hS:StrSet w s.heap a (mO w) ks)(h64:ks.length < 64)
  (h:∀(s':Shared) (l:Addr) (out:Array Value) (e:Nat) (ss':List Str),(∀b o,s.heap.get? b=some o→s'.heap.get? b=some o)→s'.gens=s.gens→s'.os=s.os→s.heap.objs.size≤l→s'.heap.get? l=some (seqObj "list" out e)→StrsAre out.toList ss'→ss'.Perm ks→sortedS ss'=true→Q (.ref l) s'):
  wpAny (model prog w) A (call (.builtin "sorted") [.ref a]) Q E s:=by
 obtain⟨es,ep,t,ha,S⟩:=hS
 refine Calls.call_function_entry kind_sorted plain_sorted entry_sorted (args_sorted1 _) ?_
 unfold Builtin.«sorted»
 refine wpAny_bind (m:=checkCount "sorted" 1 1 _) (wpAny_pure ?_)
 refine wpAny_bind (vn (by simp[hh]) ha S fun s1 items k1 g1 o1 hsz hp=>?_)
 have hpk:(items.map strOf).Perm ks:=(hp.map strOf).trans (by rw[List.map_map];exact S.perm)
 have hst:∀v∈items,∃x tk,v=.str x tk:=fun v hv=>by
  obtain⟨e,he,rfl⟩:=List.mem_map.mp (hp.mem_iff.mp hv)
  obtain⟨x,tk,rfl⟩:=S.elems e he
  exact⟨x,tk,rfl⟩
 have hSA:=strsAre_map items hst
 have hl64:items.length < 64:=by have:=hpk.length_eq;rw[List.length_map]at this;omega
 refine wpAny_bind (wpAny_newList ?_)
 have hoL:(s1.heap.push (seqObj "list" items.toArray 0)).get? s1.heap.objs.size=some (seqObj "list" items.toArray 0):=Heap.get?_push_size _ rfl
 refine wpAny_bind (wpAny_holding (wpAny_call_entry slot_list_sort ⟨_,hoL,rfl⟩ entry_list_sort (list_sort_treeK (s:={s1 with heap:=s1.heap.push (seqObj "list" items.toArray 0)}) strKind_oneLt hoL hSA.keysOf (fun v₁ v₂ rest e=>keyKind_strs (by rw[←e];exact hSA)) hl64 fun st' a1 a2=>⟨_,rfl,?_⟩) (args_list_sort _)))
 obtain⟨ss',b1,b2,b3⟩:=sorted_out_str hSA a1 a2
 obtain⟨e,he⟩:=sortedHeap_at (out:=(arrOf st').map (·.2)) hoL
 refine wpAny_pure ⟨_,rfl,h _ s1.heap.objs.size _ e ss' (fun b o hb=>?_) g1 o1 hsz he b1 (b2.trans hpk) b3⟩
 have hb1:=k1 b o hb
 have hlt:=Heap.lt_size hb1
 dsimp only
 rw[sortedHeap_old (Nat.ne_of_lt hlt) (by rw[size_push'];exact Nat.lt_succ_of_lt hlt),Heap.get?_push_ne _ _ _ (Nat.ne_of_lt hlt)]
 exact hb1
end
end NhSet
namespace PL
open PySem L2 Nh
def zu(w:World)(a:Addr)(ks:List Str):HO:=.ext fun h=>NhSet.StrSet w h a (NhSet.mO w) ks
theorem Bp(ns:List Str)(n:Nat)(h:n=ns.length):NhSet.m_ (fun i=>ns.getD i ⟨#[]⟩) n=kQ ns:=by
 have e:(List.range n).map (fun i=>ns.getD i ⟨#[]⟩)=ns:=by
  subst h
  refine List.ext_getElem (by simp) fun i h1 h2=>?_
  simp[h2]
 show((List.range n).map (fun i=>ns.getD i ⟨#[]⟩)).foldl NhSet.pE []=ns.foldl CA []
 rw[e]
 rfl
theorem zv(x:Str):NhSet.m_ (NhSet.kR x) x.cps.size=kQ (nK x):=by
 have e:(List.range x.cps.size).map (NhSet.kR x)=nK x:=by
  refine List.ext_getElem (by simp[nK]) fun i h1 h2=>?_
  have hi:i < x.cps.size:=by simpa using h1
  simp[nK,NhSet.kR,hi]
 show((List.range x.cps.size).map (NhSet.kR x)).foldl NhSet.pE []=(nK x).foldl CA []
 rw[e]
 rfl
section
variable {X:Cx} {e:Expr} {m1:Bool} {f:bC} {p p2 pos pos2:Pos}
def Is(K:PySem.W.Frag)(w:World):List V→Hp→VK→Prop:=fun xs H Q=>
 (∃(p:Addr) (ss:List Str),xs=[.ref p]∧SqL K H p (ss.map V.str)∧ss.length < 4000∧∀a,H a=none→Q (.ref a) (fS H a (zu w a (kQ ss))))∨
 ∃x:Str,xs=[.str x]∧(nK x).length < 4000∧∀a,H a=none→Q (.ref a) (fS H a (zu w a (kQ (nK x))))
theorem zw(hc:X.calm=true):CallR X (.type "set") (Is X.K X.w):=by
 intro pins s σ H xs us Q I r h
 rcases h with⟨p,ss,rfl,hq,hl,q⟩ |⟨x,rfl,hl,q⟩
 ·cases r with
  |cons r rr=>
   cases rr
   cases r
   obtain⟨its,rv,pl,hz⟩:=I.list hq
   have hS:=nH rv
   have hlen:its.length=ss.length:=by have:=rv.length;simpa using this.symm
   refine NhSet.zp (I.ok.hd hc) pl.isList (by simpa using hS) (by simp only[List.size_toArray,scanBound];omega) fun h' tk S k=>?_
   rw[Bp ss its.toArray.size (by simpa using hlen)]at S
   exact⟨.ref s.heap.objs.size,_,I.laid (fun b o e=>k b o (Heap.lt_size e) e) (Nat.le_refl _) (show ObjOk X.prog X.w _ _ _ (zu X.w s.heap.objs.size (kQ ss))from⟨S,S.obj,fun h1 h2 T kk=>T.at' kk⟩),rfl,q _ (I.hok.fresh (Nat.le_refl _))⟩
 ·cases r with
  |cons r rr=>
   cases rr
   obtain⟨t,rfl⟩:=r
   have hl2:x.cps.size < 4000:=by simpa[nK]using hl
   refine NhSet.Bl (I.ok.hd hc) (by simp only[scanBound];omega) fun h' tk S k=>?_
   rw[zv]at S
   exact⟨.ref s.heap.objs.size,_,I.laid (fun b o e=>k b o (Heap.lt_size e) e) (Nat.le_refl _) (show ObjOk X.prog X.w _ _ _ (zu X.w s.heap.objs.size (kQ (nK x)))from⟨S,S.obj,fun h1 h2 T kk=>T.at' kk⟩),rfl,q _ (I.hok.fresh (Nat.le_refl _))⟩
def Bq(w:World):List V→Hp→VK→Prop:=fun xs H Q=>∃(a:Addr) (ks:List Str),xs=[.ref a]∧H a=some (zu w a ks)∧ks.length < 64∧∀l,H l=none→Q (.ref l) (fS H l (.lst ((iR ks).map V.str)))
theorem ub(hc:X.calm=true):CallR X (.builtin "sorted") (Bq X.w):=by
 intro pins s σ H xs us Q I r h
 obtain⟨a,ks,rfl,ha,h64,q⟩:=h
 cases r with
 |cons r rr=>
  cases rr
  cases r
  obtain⟨S,_,_⟩:ObjOk X.prog X.w H s.heap a (zu X.w a ks):=I.hok a _ ha
  refine NhSet.wI (I.ok.hd hc) S h64 fun s' l out e ss' k g o hl he b1 b2 b3=>?_
  have:=m8 b2 b3
  subst this
  have new:ObjOk X.prog X.w (fS H l (.lst ((iR ks).map V.str))) s'.heap l (.lst ((iR ks).map V.str)):=⟨by rw[List.length_map,mB];exact i9 (by omega),out.toList,e,nI b1,he⟩
  exact⟨.ref l,_,I.call' (ch:=[]) o (Un.laid k hl (I.hok.fresh hl)) (I.hok.laid k hl new) (by rw[g];exact I.bare) (fun _ z=>nomatch z),rfl,q _ (I.hok.fresh hl)⟩
theorem kT (hc:X.calm=true) (hg:Gl X "sorted") (hm:X.mg "sorted"=none) (hg2:Gl X "set") (hm2:X.mg "set"=none) (ha:EX X e m1 f) (he:starEach [e] X.env=[(false,eval e X.env)]:=by rfl)
  (he2:starEach [.Call (.Name "set" p2) [e] [] pos2] X.env=[(false,eval (.Call (.Name "set" p2) [e] [] pos2) X.env)]:=by rfl):EX X (.Call (.Name "sorted" p) [.Call (.Name "set" p2) [e] [] pos2] [] pos) m1 (dC f):=by
 refine cR (lI (ub hc) hg hm PyProof.Rows.boot_sorted (gc (sm (zw hc) hg2 hm2 PyProof.Rows.boot_set (gc ha iY he) (by decide) (by decide) he rfl) iY he2) (by decide) (by decide) he2 rfl) fun σ H Q z=>?_
 obtain⟨B,E,xs,Xs,res,E',fr,cl,e,q⟩:=z
 obtain⟨⟨s,E1⟩,e1,e⟩:=Option.bind_eq_some_iff.mp e
 refine⟨B,E,xs,Xs,s,E1,fr,cl,e1,fun v1 H1 ⟨F,A,fr1⟩=>?_⟩
 obtain⟨A',fr2⟩:=fr1.pop
 simp only at e
 split at e
 ·rename_i ds ld
  obtain⟨ss,es,e⟩:=Option.bind_eq_some_iff.mp e
  split at e
  ·rename_i hc
   cases e
   have r:=(fr1.look0 ld).1
   cases r with
   |lst h1 h2=>
    have:=nJ h2 es
    subst this
    exact .inl ⟨_,ss,rfl,h1,hc.1,fun a ha=>⟨a,_,rfl,dZ,hc.2,fun l hl=>q _ _ ⟨_,_,(fr2.grow (kh ha _)).newl (ku _) hl⟩⟩⟩
  ·cases e
 ·rename_i x ld
  split at e
  ·rename_i hc
   cases e
   have r:=(fr1.look0 ld).1
   cases r
   exact .inr ⟨x,rfl,hc.1,fun a ha=>⟨a,_,rfl,dZ,hc.2,fun l hl=>q _ _ ⟨_,_,(fr2.grow (kh ha _)).newl (ku _) hl⟩⟩⟩
  ·cases e
 ·cases e
end
end PL
namespace PL
open PySem L2 Nh
theorem xY {X:Cx} {x:Str} {i:Int} {t:Tok} {pos:Pos} (hg:Gl X x) (hm:X.mg x=some (.int i t)) (hd:(x == ("__debug__":Str))=false:=by decide):EX X (.Name x pos) false (pC (.int i)):=by
 refine cR (xp (v:=.int i) hg hm ⟨t,rfl⟩ hd) fun σ H Q z=>?_
 obtain⟨B,E,xs,Xs,res,E',⟨F,A,fr⟩,cl,e,q⟩:=z
 cases e
 exact q _ _ ⟨F,A,fr.push ⟨rfl,_,rfl,.int _⟩⟩
theorem Dk {X:Cx} {x y:Str} {t:Tok} {pos:Pos} (hg:Gl X x) (hm:X.mg x=some (.str y t)) (hd:(x == ("__debug__":Str))=false:=by decide):EX X (.Name x pos) false (pC (.str y)):=by
 refine cR (xp (v:=.str y) hg hm ⟨t,rfl⟩ hd) fun σ H Q z=>?_
 obtain⟨B,E,xs,Xs,res,E',⟨F,A,fr⟩,cl,e,q⟩:=z
 cases e
 exact q _ _ ⟨F,A,fr.push ⟨rfl,_,rfl,.str _⟩⟩
end PL
namespace Nh
open PySem L2
theorem NailsOk.stp{r:List Pc}{p:Pc}(h:NailsOk r)(hp:p.1 < 128):NailsOk (NH.stp r p):=by
 cases r with
 |nil=>
  show NailsOk (if p.2=0 then []else [p])
  split
  ·exact h
  ·intro q hq;rw[List.mem_singleton.mp hq];exact hp
 |cons x r=>
  rw[NH.ke]
  intro q hq
  rcases List.mem_append.mp hq with h1 |h1
  ·unfold NH.Am at h1
   split at h1
   ·split at h1
    ·cases h1
    ·rw[List.mem_singleton.mp h1];exact hp
   ·split at h1
    ·rw[List.mem_singleton.mp h1];exact h x (List.mem_cons_self ..)
    ·rcases List.mem_cons.mp h1 with h2 |h2
     ·rw[h2];exact hp
     ·rw[List.mem_singleton.mp h2];exact h x (List.mem_cons_self ..)
  ·exact h q (List.mem_cons_of_mem _ h1)
theorem NailsOk.foldl:∀(c:List Pc) {r:List Pc},NailsOk r→NailsOk c→NailsOk (c.foldl NH.stp r)
 |[],_,h,_=>h
 |p::c,_,h,hc=>NailsOk.foldl c (h.stp (hc p (List.mem_cons_self ..))) fun q hq=>hc q (List.mem_cons_of_mem _ hq)
theorem NailsOk.reverse{c:List Pc}(h:NailsOk c):NailsOk c.reverse:=fun p hp=>h p (List.mem_reverse.mp hp)
theorem NailsOk.short{c:List Pc}(h:NailsOk c):NailsOk (NH.short c):=(NailsOk.foldl c (fun _ z=>by cases z) h).reverse
theorem sM:NailsOk []:=fun _ z=>by cases z
end Nh
namespace Nh
open PySem L2 PL
theorem He:∀j,j < 26→(Str.ofString "abcdefghijklmnopqrstuvwxyz").cps.toList[j]? =some (97+j):=by decide+kernel
theorem Hf(v:Int):atI (Str.ofString "abcdefghijklmnopqrstuvwxyz").cps.toList (v % 26)=some (97+(v % 26).toNat):=by
 have h0:=Int.emod_nonneg v (show(26:Int)≠0 by decide)
 have h1:=Int.emod_lt_of_pos v (show(0:Int) < 26 by decide)
 rw[FB h0]
 exact He _ (by omega)
theorem Br:(Str.ofString "abcdefghijklmnopqrstuvwxyz").length≤1000000:=by decide+kernel
theorem pX{i j:Int}(h1: -(2 ^ 64) < j)(h2:j < 2 ^ 64):gW i j=true:=by
 simp only[gW,Bool.or_eq_true,decide_eq_true_eq]
 exact .inl (.inr ⟨h1,h2⟩)
theorem kU{i j:Int}(h1: -(2 ^ 64) < i)(h2:i < 2 ^ 64):gW i j=true:=by
 simp only[gW,Bool.or_eq_true,decide_eq_true_eq]
 exact .inl (.inl ⟨h1,h2⟩)
theorem bX(i j:Int):wv (.int i) (.int j)=some (decide (i=j)):=rfl
theorem jh(i j:Str):wv (.str i) (.str j)=some (decide (i=j)):=rfl
theorem vo(i j:Bool):wv (.bool i) (.bool j)=some (decide (i=j)):=rfl
theorem qJ{c d:List Pc}(hc:NailsOk c)(hd:NailsOk d):wv (.list (c.map aC)) (.list (d.map aC))=some (decide (c=d)):=by
 have e:wv (.list (c.map aC)) (.list (d.map aC))=(if SeqAt.shaped (ny c)&&SeqAt.shaped (ny d)then some (PyData.eqv (ny c) (ny d))else none):=rfl
 rw[e,oV hc,oV hd,AI]
 rfl
theorem nP{c:List Pc}(hc:NailsOk c):wv (.list (c.map aC)) (.list [])=some (decide (c=[])):=qJ hc sM
theorem sN(c:List Pc):c.reverse.foldl NH.stp []=NH.qg c:=by
 unfold NH.qg
 rw[List.foldl_reverse]
theorem pY(a b:Nat):((⟨#[a]⟩:Str)=⟨#[b]⟩)=(a=b):=propext ⟨fun h=>by
 injection h with h
 simpa using congrArg Array.toList h,fun h=>by rw[h]⟩
end Nh
namespace L2
open PySem PySem.Spec PyProof.Rows
def xZ(K:PySem.W.Frag)(h:Heap):Prop:=∀b q,pv K b=some q→h.get? b=some (PySem.W.tabObj #[])∧(∃c,PySem.W.CodeHd h c b)∧K.lookup b=none
def fQ(K:PySem.W.Frag)(a:Addr)(so:Option HO):Hp:=fun b=>match pv K b with
 |some q=>some (.tbl q)
 |none=>if b=a then so else none
theorem wJ{K:PySem.W.Frag}{a b:Addr}{so:Option HO}{q:Str}(e:pv K b=some q):fQ K a so b=some (.tbl q):=by unfold fQ;rw[e]
theorem zz{K:PySem.W.Frag}{a:Addr}{so:Option HO}(e:pv K a=none):fQ K a so a=so:=by unfold fQ;rw[e];exact if_pos rfl
theorem iS{K:PySem.W.Frag}{a b:Addr}{so:Option HO}{u:HO}(e:fQ K a so b=some u):(∃q,pv K b=some q∧u=.tbl q)∨(b=a∧so=some u):=by
 unfold fQ at e
 split at e
 ·rename_i q h;cases e;exact .inl ⟨q,h,rfl⟩
 ·by_cases hb:b=a
  ·rw[if_pos hb]at e;exact .inr ⟨hb,e⟩
  ·rw[if_neg hb]at e;cases e
section
variable {P:Program} {w:World} {K:PySem.W.Frag} {mg mb:Str→Option Value} {CX:Cw} {k:Nat} {fa a:Addr} {fd:FuncData} {x:Str} {sp:Sp} {s₁:Shared} {vs:List Value} {ns:List Int}
theorem Dl (KX:K.In s₁.heap) (hns:s₁.heap.Ns mainGlobals mg) (hb:s₁.heap.Ns builtinsNs mb) (hbb:∀x:Str,x≠"__name__"→mb x=bootBuiltins x) (hlim:s₁.heap.NoLimit) (hg:s₁.gens=#[]) (hbm:∃bm ob,mg "__builtins__"=some (.ref bm)∧bm≠builtinsNs∧s₁.heap.get? bm=some ob∧ob.cls=.type "module"∧ob.dict=some builtinsNs∧ob.data=.plain) (hT:xZ K s₁.heap)
  (ha:s₁.heap.get? a=some {cls:=.type "list",data:=.seq vs.toArray}) (hi:IntsAre vs ns) (hl:ns.length≤sizeLine) (hr:Room k callerA)
  (F:∀base:Heap,K.In base→base.Ns mainGlobals mg→FnOk P w K mg base CX k fa fd [x] sp) (hbind:∀(s:Shared) (u:Value),BindsTo s fd ⟨[u],[]⟩ [(x,u)])
  (hsp:∀H:Hp,SqL K H a (ns.map V.int)→sp [.ref a] H (fun v _=>v=.bl true) fun _ _ _=>False)
  (hCX:∀H e s',CX [] H s₁ (fun _ _ _=>False) e s'→False):
  codeAny (model P w) callerA (.call (.ref fa) ⟨[.ref a],[]⟩) (fun r s'=>r=.ok (.ret (.bool true))∧OldK s₁.heap s'.heap∧s'.os=s₁.os∧AllBare s'.gens) s₁:=by
 have rv:=j_ hi
 have lenV:=hi.length
 have tabA:pv K a=none:=by
  cases q:pv K a with
  |none=>rfl
  |some z=>
   have e:=(hT a z q).1
   rw[ha]at e
   cases e
 have main:∀so:Option HO,(so=none∨(so=some (.frz {cls:=.type "list",data:=.seq vs.toArray} (.lst (ns.map V.int)))∧K.lookup a=none))→SqL K (fQ K a so) a (ns.map V.int)→
   codeAny (model P w) callerA (.call (.ref fa) ⟨[.ref a],[]⟩) (fun r s'=>r=.ok (.ret (.bool true))∧OldK s₁.heap s'.heap∧s'.os=s₁.os∧AllBare s'.gens) s₁:=by
  intro so hso hS
  have hok:HOk P w (fQ K a so) s₁.heap:=fun b u e=>by
   rcases iS e with⟨q,e1,rfl⟩ |⟨rfl,e1⟩
   ·exact ObjOk.tbl0 (hT b q e1).1
   ·rcases hso with z |⟨z,_⟩
    ·rw[z]at e1;cases e1
    ·rw[z]at e1;cases e1
     exact⟨ha,by rw[List.length_map];exact hl,vs,_,rv,ha⟩
  have free:∀{b:Addr} {o:Obj} {es:Array DictEntry} {ep:Nat},s₁.heap.get? b=some o→o.data=.dict es ep→fQ K a so b=none:=fun {b o es ep} e d=>by
   cases q:fQ K a so b with
   |none=>rfl
   |some u=>
    rcases iS q with⟨z,e1,_⟩ |⟨rfl,_⟩
    ·rw[(hT b z e1).1]at e;cases e;cases d
    ·rw[ha]at e;cases e;cases d
  have nsK:∀{b:Addr} {m:Str→Option Value},s₁.heap.Ns b m→(uO s₁.heap (fQ K a so)).Ns b m:=fun {b m} ⟨o,es,ep,e,d,r⟩=>⟨o,es,ep,qd e (free e d),d,r⟩
  have kin:K.In (uO s₁.heap (fQ K a so)):=fun b o e=>qd (KX b o e) (by
   cases q:fQ K a so b with
   |none=>rfl
   |some u=>
    rcases iS q with⟨z,e1,_⟩ |⟨rfl,e1⟩
    ·rw[(hT b z e1).2.2]at e;cases e
    ·rcases hso with z |⟨_,z⟩
     ·rw[z]at e1;cases e1
     ·rw[z]at e;cases e)
  have bmK:∃bm ob,mg "__builtins__"=some (.ref bm)∧bm≠builtinsNs∧(uO s₁.heap (fQ K a so)).get? bm=some ob∧ob.cls=.type "module"∧ob.dict=some builtinsNs∧ob.data=.plain:=by
   obtain⟨bm,ob,c1,c2,c3,c4,c5⟩:=hbm
   refine⟨bm,ob,c1,c2,qd c3 ?_,c4,c5⟩
   cases q:fQ K a so bm with
   |none=>rfl
   |some u=>
    rcases iS q with⟨z,e1,_⟩ |⟨rfl,_⟩
    ·rw[(hT bm z e1).1]at c3;cases c3;cases c4
    ·rw[ha]at c3
     cases c3
     injection c4 with c6
     exact absurd c6 (by decide)
  have e0:Env0 P w K mg (uO s₁.heap (fQ K a so)) callerA [] s₁ (fQ K a so):=
   ⟨rfl,⟨kin,nsK hns,⟨mb,nsK hb,hbb⟩,let ⟨mc,h1,h2⟩:=hlim;⟨mc,nsK h1,h2⟩,bmK⟩,fun b o e=>CC e,Nat.le_of_eq (yJ _ _),trivial,fun b hb=>absurd (show b∈([]:List Addr)from hb) (by simp),hok,.of_eq hg,fun b q e=>wJ e⟩
  refine codeAny_mono ((F _ kin (nsK hns)).run callerA [] s₁ _ ⟨[.ref a],[]⟩ [.ref a] [.ref a] _ _ hr e0 (hbind s₁ (.ref a)) (.cons rfl .nil) (hsp _ hS)) fun r s' h=>?_
  cases r with
  |error e=>exact(hCX _ e s' h).elim
  |ok fl=>
   cases fl with
   |next=>exact False.elim h
   |brk=>exact False.elim h
   |cont=>exact False.elim h
   |ret u=>
    obtain⟨v,H',os,bare,un,hok',r',q⟩:=h
    have q':v=.bl true:=q
    subst q'
    obtain rfl:u=Value.bool true:=r'
    have nofs:∀b,b∉Al ([]:List Env):=fun b z=>absurd (show b∈([]:List Addr)from z) (by simp)
    have step:∀b o,s₁.heap.get? b=some o→asItWas s₁.heap s'.heap b o∧∃o',s'.heap.get? b=some o':=fun b o e=>by
     cases q:fQ K a so b with
     |none=>exact⟨.inl (un.keep b o e q (nofs b) (by simp)),_,un.keep b o e q (nofs b) (by simp)⟩
     |some u=>
      rcases iS q with⟨z,e1,rfl⟩ |⟨rfl,e1⟩
      ·obtain⟨t1,⟨c,t2⟩,_⟩:=hT b z e1
       obtain⟨ps,p1,_⟩:=hok' b _ (un.tbls b z q)
       rw[t1]at e
       cases e
       exact⟨.inr (.inl ⟨(t2.tab t1).isCodeTable,rfl,#[],ps,rfl,by simpa using p1⟩),_,p1⟩
      ·rcases hso with z |⟨z,_⟩
       ·rw[z]at e1;cases e1
       ·rw[z]at e1;cases e1
        have z2:=un.frzs b _ _ q
        obtain⟨e2,_⟩:=hok' b _ z2
        rw[ha]at e;cases e
        exact⟨.inl e2,_,e2⟩
    exact⟨rfl,⟨fun b o e=>(step b o e).1,fun b o e=>(step b o e).2⟩,os,bare⟩
 cases hk:K.lookup a with
 |some o=>
  have e:=KX a o hk
  rw[ha]at e
  cases e
  exact main none (.inl rfl) (.inr ⟨_,vs.toArray,_,hk,rfl,rfl,rfl,by rw[List.size_toArray,lenV];exact hl,by simpa using rv⟩)
 |none=>exact main _ (.inr ⟨rfl,hk⟩) (.inl (.inr ⟨_,zz tabA⟩))
end
theorem Bs{l:PySem.W.OpenLaw}{n k:Nat}{q:Program}{loose:List Str}{XP:(Str→Option Value)→Heap→Prop}{YP:World→Heap→Prop}{d:DefRec}{K:Params→PySem.W.Frag}{CX:World→Cw}{sp:World→Sp}{x:Str}
  (hn:l.most=some n) (hn2:n≤sizeLine) (hdf:d.params.defaults=[]) (hr:Room k callerA)
  (hY:∀(w:World) (h:Heap),YP w h→(K w.params).In h∧xZ (K w.params) h)
  (F:∀(w:World) (mg:Str→Option Value) (fa:Addr) (h:Heap),(K w.params).In h→h.Ns mainGlobals mg→mg d.name=some (.ref fa)→
   ∃fd:FuncData,(∀(s:Shared) (u:Value),BindsTo s fd ⟨[u],[]⟩ [(x,u)])∧
    ∀base:Heap,(K w.params).In base→base.Ns mainGlobals mg→FnOk l.prog w (K w.params) mg base (CX w) k fa fd [x] (sp w))
  (hsp:∀(w:World) (H:Hp) (a:Addr) (ns:List Int),ns.length≤n→SqL (K w.params) H a (ns.map V.int)→sp w [.ref a] H (fun v _=>v=.bl true) fun _ _ _=>False)
  (hCX:∀(w:World) (H:Hp) (s:Shared) (e:Value) (s':Shared),CX w [] H s (fun _ _ _=>False) e s'→False):
  PySem.W.WalkO q loose XP YP l.row.toRowW d [] (fun f vs=>PySem.call f vs):=by
 refine Att.uX hn hdf fun w s₀ s₁ mg mb fa o pm cd doc a vs ns G Y ho hd hcd hmg hobj hints hlen hg=>?_
 obtain⟨KX,KT⟩:=hY w _ Y
 obtain⟨fd,hb,hF⟩:=F w mg fa _ KX G.T.g hmg
 exact Dl KX G.T.g G.T.b G.T.builtins G.T.nolimit hg G.T.bmain KT hobj hints (Nat.le_trans hlen hn2) hr hF hb (fun H hS=>hsp w H a ns hlen hS) fun H e s'=>hCX w H s₁ e s'
end L2
namespace NH
variable {α:Type} [DecidableEq α]
theorem sO{a:List (α×Int)}(h:Red a):Red (aR a):=by
 have:=lK h
 unfold aR
 generalize a.reverse=b at this
 induction b with
 |nil=>trivial
 |cons p b ih=>
  refine Red.cons (by have:=this.head;simpa using this) (fun q hq=>?_) (ih this.tail)
  cases b with
  |nil=>cases hq
  |cons r b=>
   simp only[List.map_cons,List.head?_cons,Option.mem_def,Option.some.injEq]at hq
   subst hq
   exact this.next r (by simp)
end NH
namespace Nh
open PySem L2 PL
theorem Bt{α:Type}{l a m b:List α}{i j:Int}(h:l=a++m++b)(hi:i=a.length)(hj:j=a.length+m.length):ov l (some i) (some j)=m:=by
 subst h hi
 unfold ov
 rw[hj,show((a.length:Int)+m.length)=((a.length+m.length:Nat):Int) by omega,HT.tH,HT.tH]
 simp
end Nh
namespace NH
section
variable {α:Type} [DecidableEq α]
def d5(P:α→Bool)(c:List (α×Int)):List (α×Int):=c.filter fun p=>P p.1
theorem Bu(P:α→Bool)(r:List (α×Int))(h:Red r)(p:α×Int):short (d5 P (stp r p))=if P p.1 then stp (short (d5 P r)) p else short (d5 P r):=by
 cases r with
 |nil=>
  by_cases k:p.2=0
  ·obtain⟨n,a⟩:=p
   simp only at k
   subst k
   simp[stp,d5,short,stk]
  ·by_cases hp:P p.1=true <;> simp[stp,d5,short,stk,k,hp]
 |cons x r=>
  rw[ke]
  by_cases e:x.1=p.1
  ·have hx:d5 P (x::r)=if P p.1 then x::d5 P r else d5 P r:=by
    unfold d5
    rw[List.filter_cons,e]
   by_cases hp:P p.1=true
   ·rw[hx,if_pos hp,if_pos hp,ig]
    have s:=xy (kf (d5 P r)) p.1 x.2 p.2
    have ex:(p.1,x.2)=x:=by rw[←e]
    rw[ex]at s
    rw[s]
    unfold Am
    rw[if_pos e]
    by_cases z:x.2+p.2=0
    ·rw[if_pos z,z,qh (kf _)]
     rfl
    ·rw[if_neg z]
     show short (d5 P ((p.1,x.2+p.2)::r))=_
     unfold d5
     rw[List.filter_cons,if_pos hp,ig]
   ·rw[hx,if_neg hp,if_neg hp]
    unfold Am
    rw[if_pos e]
    by_cases z:x.2+p.2=0
    ·rw[if_pos z];rfl
    ·rw[if_neg z]
     show short (d5 P ((p.1,x.2+p.2)::r))=_
     unfold d5
     rw[List.filter_cons,if_neg hp]
  ·unfold Am
   rw[if_neg e]
   by_cases k:p.2=0
   ·rw[if_pos k]
    by_cases hp:P p.1=true
    ·rw[if_pos hp]
     obtain⟨n,a⟩:=p
     simp only at k
     subst k
     rw[qh (kf _)]
     rfl
    ·rw[if_neg hp];rfl
   ·rw[if_neg k]
    show short (d5 P (p::x::r))=_
    by_cases hp:P p.1=true
    ·rw[if_pos hp,←ig]
     unfold d5
     rw[List.filter_cons,if_pos hp]
    ·rw[if_neg hp]
     unfold d5
     rw[List.filter_cons,if_neg hp]
theorem ni(P:α→Bool):∀c:List (α×Int),short (d5 P (short c))=short (d5 P c)
 |[]=>rfl
 |p::c=>by
  rw[ig,Bu P _ (kf c),ni P c]
  by_cases hp:P p.1=true
  ·rw[if_pos hp,←ig]
   unfold d5
   rw[List.filter_cons,if_pos hp]
  ·rw[if_neg hp]
   unfold d5
   rw[List.filter_cons,if_neg hp]
theorem Bv(P:α→Bool){c d:List (α×Int)}(h:short c=short d):short (d5 P c)=short (d5 P d):=by rw[←ni P c,h,ni]
theorem zA(P Q:α→Bool)(c:List (α×Int)):d5 P (d5 Q c)=d5 (fun n=>P n&&Q n) c:=by
 unfold d5
 rw[List.filter_filter]
theorem qK(P Q:α→Bool){c:List (α×Int)}(h:short (d5 Q c)=[]):short (d5 (fun n=>P n&&Q n) c)=[]:=by
 rw[←zA,Bv P (h.trans (by rfl:([]:List (α×Int))=short []))]
 rfl
theorem o_(P:α→Bool)(c d:List (α×Int)):d5 P (c++d)=d5 P c++d5 P d:=List.filter_append ..
end
end NH
namespace NH
variable {α:Type} [DecidableEq α]
end NH
namespace Nh
open PySem L2 PL
def CordOk(c:List Pc):Prop:=∀p∈c,p.1 < 128∧p.2.natAbs < 2 ^ 100
theorem CordOk.n{c:List Pc}(h:CordOk c):NailsOk c:=fun p hp=>(h p hp).1
end Nh
namespace NH
def fv(w:List Nat):Nat→Nat
 | 0=>0
 |n+1=>fv w n+if 97+n∈w then 2 ^ n else 0
theorem sP(w:List Nat):∀n,fv w n < 2 ^ n
 | 0=>by simp[fv]
 |n+1=>by
  have:=sP w n
  rw[fv,Nat.pow_succ]
  split <;> omega
theorem ip(w:List Nat):∀n i,(fv w n).testBit i=(decide (i < n)&&decide (97+i∈w))
 | 0,i=>by simp[fv]
 |n+1,i=>by
  have ih:=ip w n i
  have lt:=sP w n
  rw[fv]
  by_cases h:97+n∈w
  ·rw[if_pos h,Nat.add_comm]
   by_cases e:i=n
   ·subst e
    rw[Nat.testBit_two_pow_add_eq,ih]
    simp[h]
   ·by_cases l:i < n
    ·rw[Nat.testBit_two_pow_add_gt l,ih]
     simp[l,show i < n+1 by omega]
    ·have big:2 ^ n+fv w n < 2 ^ i:=by
      have:2 ^ (n+1)≤2 ^ i:=Nat.pow_le_pow_right (by decide) (by omega)
      rw[Nat.pow_succ]at this
      omega
     rw[Nat.testBit_lt_two_pow big]
     simp[show ¬i < n+1 by omega]
  ·rw[if_neg h,Nat.add_zero,ih]
   by_cases e:i=n
   ·subst e;simp[h]
   ·by_cases l:i < n
    ·simp[l,show i < n+1 by omega]
    ·simp[l,show ¬i < n+1 by omega]
def cy(w:List Nat):Nat:=fv w 26
def qL(w:List Nat):Prop:=∀a∈w,97≤a∧a < 97+26
theorem zB{a b:List Nat}(ha:qL a):cy a &&& cy b=cy a↔∀x∈a,x∈b:=by
 unfold cy
 constructor
 ·intro h x hx
  have l:=ha x hx
  have:=congrArg (fun n=>n.testBit (x - 97)) h
  simp only[Nat.testBit_and,ip,show 97+(x - 97)=x by omega,show x - 97 < 26 by omega,hx]at this
  simpa using this
 ·intro h
  refine Nat.eq_of_testBit_eq fun i=>?_
  rw[Nat.testBit_and,ip,ip]
  by_cases m:97+i∈a
  ·simp[m,h _ m]
  ·simp[m]
theorem zC{a b:List Nat}(ha:qL a):cy a &&& cy b=0↔∀x∈a,x∉b:=by
 unfold cy
 constructor
 ·intro h x hx hb
  have l:=ha x hx
  have:=congrArg (fun n=>n.testBit (x - 97)) h
  simp only[Nat.testBit_and,ip,show 97+(x - 97)=x by omega,show x - 97 < 26 by omega,hx,hb]at this
  simp at this
 ·intro h
  refine Nat.eq_of_testBit_eq fun i=>?_
  rw[Nat.testBit_and,ip,ip,Nat.zero_testBit]
  by_cases m:97+i∈a
  ·simp[m,h _ m]
  ·simp[m]
end NH
namespace NhLS
set_option autoImplicit false
open PySem PyProof.Rows
def Dm:Bool→Keyed→Array Keyed→Nat→Nat→Nat→StateT SortSt Sem (Option Nat):=sortPriv% PySem.Builtin.gallop
def Bw:Array Keyed→Array Keyed→StateT SortSt Sem (Array Keyed):=sortPriv% PySem.Builtin.mergeLo
def Bx:Array Keyed→Array Keyed→StateT SortSt Sem (Array Keyed):=sortPriv% PySem.Builtin.mergeHi
def Do:Keyed:=(Value.none,Value.none)
def at'(a:Array Keyed)(i:Nat):Keyed:=a.getD i Do
theorem Hg{a:Array Keyed}{i:Nat}(h:i < a.size):a[i]? =some (at' a i):=by simp[at',Array.getD,h]
structure Cmp (prog:Program) (w:World) (A:Around) (s:Shared) (κ:SortKind) (O:KeyOrd) (key:Keyed→O.α) (dom:Keyed→Prop):Prop where
 ask:∀(E:Value→Shared→Prop) (x y:Keyed) (Q:Bool→Shared→Prop),dom x→dom y→Q (O.blt (key x) (key y)) s→wpAny (model prog w) A (keyLt' κ x.1 y.1) Q E s
section
variable {prog:Program} {w:World} {A:Around} {E:Value→Shared→Prop} {s:Shared} {κ:SortKind} {O:KeyOrd} {key:Keyed→O.α} {dom:Keyed→Prop} {st:SortSt}
theorem By(C:Cmp prog w A s κ O key dom){x y:Keyed}{Q:Option Bool→SortSt→Prop}(hk:kindOf st=κ)(dx:dom x)(dy:dom y)(h:Q (some (O.blt (key x) (key y))) st):wpS (model prog w) A E s (lt' x y) Q st:=by
 rw[lt'_eq]
 refine wpS_bind (wpS_get ?_)
 rw[hk]
 refine wpS_bind (wpS_lift (wpAny_attempt (C.ask _ _ _ _ dx dy ⟨rfl,?_⟩)))
 exact wpS_pure h
theorem jJ{arr:Array Keyed}{i:Nat}{Q:Keyed→SortSt→Prop}(hi:i < arr.size)(h:Q (at' arr i) st):wpS (model prog w) A E s (elem' arr i) Q st:=by
 rw[elem'_eq,Hg hi]
 exact wpS_pure h
def jV(O:KeyOrd)(key:Keyed→O.α)(left:Bool)(k:Keyed)(arr:Array Keyed)(base i:Nat):Bool:=if left then O.blt (key (at' arr (base+i))) (key k)else !O.blt (key k) (key (at' arr (base+i)))
theorem kw(C:Cmp prog w A s κ O key dom){left:Bool}{k:Keyed}{arr:Array Keyed}{base n hint:Nat}{Q:Option Nat→SortSt→Prop}(hk:kindOf st=κ)(hh:hint < n)(hb:base+n≤arr.size)(dk:dom k)(da:∀i,i < arr.size→dom (at' arr i))
  (mono:∀i j,i < j→j < n→jV O key left k arr base j=true→jV O key left k arr base i=true)
  (h:∀m,m≤n→(∀i,i < m→jV O key left k arr base i=true)→(∀i,m≤i→i < n→jV O key left k arr base i=false)→Q (some m) st):wpS (model prog w) A E s (Dm left k arr base n hint) Q st:=by
 have bey:∀{i:Nat} {Q':Option Bool→SortSt→Prop},i < n→Q' (some (jV O key left k arr base i)) st→wpS (model prog w) A E s (elem' arr (base+i) >>= fun x=>if left=true then lt' x k else (lt' k x >>= fun r=>pure (r.map (!·)))) Q' st:=by
  intro i Q' hi hq
  refine wpS_bind (jJ (by lia) ?_)
  have dx:=da (base+i) (by lia)
  cases left with
  |true=>exact By C hk dx dk hq
  |false=>exact wpS_bind (By C hk dk dx (wpS_pure hq))
 refine wpS_bind (bey hh ?_)
 have up:∀i j,i≤j→j < n→jV O key left k arr base j=true→jV O key left k arr base i=true:=fun i j hij hj e=>by
  by_cases z:i=j
  ·rw[z];exact e
  ·exact mono i j (by exact Nat.lt_of_le_of_ne ‹_› ‹_›) hj e
 have dn:∀i j,i≤j→j < n→jV O key left k arr base i=false→jV O key left k arr base j=false:=fun i j hij hj e=>by
  cases z:jV O key left k arr base j with
  |false=>rfl
  |true=>rw[up i j hij hj z]at e;cases e
 have fin:∀{body:Nat→Option (Option Nat)×Nat×Nat→StateT SortSt Sem (ForInStep (Option (Option Nat)×Nat×Nat))} {cont:Option (Option Nat)×Nat×Nat→StateT SortSt Sem (Option Nat)},
   (∀lo,Q (some lo) st→wpS (model prog w) A E s (cont (none,lo,lo)) Q st)→
   (∀x lo hi (R:ForInStep (Option (Option Nat)×Nat×Nat)→SortSt→Prop),lo≥hi→R (.done (none,lo,hi)) st→wpS (model prog w) A E s (body x (none,lo,hi)) R st)→
   (∀x lo hi (R:ForInStep (Option (Option Nat)×Nat×Nat)→SortSt→Prop),lo < hi→hi≤n→R (.yield (if jV O key left k arr base (lo+(hi - lo) / 2)=true then (none,lo+(hi - lo) / 2+1,hi)else (none,lo,lo+(hi - lo) / 2))) st→wpS (model prog w) A E s (body x (none,lo,hi)) R st)→
   ∀lo hi,lo≤hi→hi≤n→(∀i,i < lo→jV O key left k arr base i=true)→(∀i,hi≤i→i < n→jV O key left k arr base i=false)→
   wpS (model prog w) A E s (forIn [0:n] (none,lo,hi) body >>= cont) Q st:=by
  intro body cont b3 b1 b2 lo hi f1 f2 f3 f4
  refine wpS_bind (wpS_mono (wpS_forRange (I:=fun x c st'=>st'=st∧∃lo hi,c=(none,lo,hi)∧lo≤hi∧hi≤n∧hi+x≤n+lo∧(∀i,i < lo→jV O key left k arr base i=true)∧(∀i,hi≤i→i < n→jV O key left k arr base i=false))
   (Q:=fun c st'=>st'=st∧∃lo,c=(none,lo,lo)∧lo≤n∧(∀i,i < lo→jV O key left k arr base i=true)∧(∀i,lo≤i→i < n→jV O key left k arr base i=false)) ?s1 ?s2 ⟨rfl,lo,hi,rfl,f1,f2,by exact Nat.le_add_right_of_le ‹_›,f3,f4⟩) ?s3)
  case s2=>
   rintro c st' ⟨rfl,l,o,rfl,h1,h2,h3,h4,h5⟩
   have:l=o:=by lia
   subst this
   exact⟨rfl,l,rfl,h2,h4,h5⟩
  case s3=>
   rintro c st' ⟨rfl,l,rfl,h2,h4,h5⟩
   exact b3 l (h l h2 h4 h5)
  case s1=>
   rintro x c st' - hx ⟨rfl,l,o,rfl,h1,h2,h3,h4,h5⟩
   by_cases z:l≥o
   ·have:l=o:=by exact Nat.le_antisymm ‹_› ‹_›
    subst this
    exact b1 x l l _ z ⟨rfl,l,rfl,h2,h4,h5⟩
   ·refine b2 x l o _ (by exact Nat.lt_of_not_le ‹_›) h2 ?_
    cases e:jV O key left k arr base (l+(o - l) / 2)with
    |true=>exact⟨rfl,_,_,rfl,by lia,by assumption,by lia,fun i hi=>up i _ (by exact Nat.le_of_lt_succ ‹_›) (by lia) e,h5⟩
    |false=>exact⟨rfl,_,_,rfl,by exact Nat.le_add_right _ _,by lia,by lia,h4,fun i hi hn=>dn _ i hi hn e⟩
 cases eh:jV O key left k arr base hint with
 |true=>
  dsimp only
  rw[if_pos rfl]
  refine wpS_bind (wpS_mono (wpS_forRange (I:=fun x c st'=>st'=st∧∃l o,c=(none,l,o)∧l < o∧x < o∧hint+l < n∧jV O key left k arr base (hint+l)=true)
   (Q:=fun c st'=>st'=st∧∃l o,c=(none,l,o)∧l < o∧hint+l < n∧jV O key left k arr base (hint+l)=true∧(n - hint≤o∨jV O key left k arr base (hint+o)=false)) ?s1 ?s2 ⟨rfl,0,1,rfl,by exact Nat.lt_succ_self _,by exact Nat.lt_succ_self _,by assumption,eh⟩) ?s3)
  case s2=>
   rintro c st' ⟨rfl,l,o,rfl,h1,h2,h3,h4⟩
   exact⟨rfl,l,o,rfl,h1,h3,h4,.inl (by lia)⟩
  case s1=>
   rintro x c st' - hx ⟨rfl,l,o,rfl,h1,h2,h3,h4⟩
   dsimp only
   by_cases z:o≥n - hint
   ·rw[if_pos z]
    exact wpS_pure ⟨rfl,l,o,rfl,h1,h3,h4,.inl z⟩
   ·rw[if_neg z]
    refine wpS_bind (bey (by lia) ?_)
    cases e:jV O key left k arr base (hint+o)with
    |true=>exact wpS_pure ⟨rfl,o,2*o+1,rfl,by lia,by lia,by lia,e⟩
    |false=>exact wpS_pure ⟨rfl,l,o,rfl,h1,h3,h4,.inr e⟩
  case s3=>
   rintro c st' ⟨rfl,l,o,rfl,h1,h3,h4,h5⟩
   dsimp only
   have f1:hint+l+1≤hint+min o (n - hint):=by lia
   have f2:hint+min o (n - hint)≤n:=by lia
   have f3:∀i,i < hint+l+1→jV O key left k arr base i=true:=fun i hi=>up i _ (by exact Nat.le_of_lt_succ ‹_›) h3 h4
   have f4:∀i,hint+min o (n - hint)≤i→i < n→jV O key left k arr base i=false:=fun i hi hn=>by
    rcases h5 with h5 |h5
    ·lia
    ·exact dn (hint+o) i (by lia) hn h5
   revert f1 f2 f3 f4
   generalize hint+l+1=lo
   generalize hint+min o (n - hint)=hi
   refine fin (fun lo hq=>wpS_pure hq) (fun x lo hi R hz hR=>?_) (fun x lo hi R hz hn hR=>?_) lo hi
   ·dsimp only
    rw[if_pos hz]
    exact wpS_pure hR
   ·dsimp only
    rw[if_neg (by exact Nat.not_le.mpr ‹_›)]
    refine wpS_bind (bey (by lia) ?_)
    cases e:jV O key left k arr base (lo+(hi - lo) / 2)with
    |true=>rw[e]at hR;exact wpS_pure hR
    |false=>rw[e]at hR;exact wpS_pure hR
 |false=>
  dsimp only
  rw[if_neg (by simp)]
  refine wpS_bind (wpS_mono (wpS_forRange (I:=fun x c st'=>st'=st∧∃l o,c=(none,l,o)∧l < o∧x < o∧l≤hint∧jV O key left k arr base (hint - l)=false)
   (Q:=fun c st'=>st'=st∧∃l o,c=(none,l,o)∧l < o∧l≤hint∧jV O key left k arr base (hint - l)=false∧(hint+1≤o∨jV O key left k arr base (hint - o)=true)) ?s1 ?s2 ⟨rfl,0,1,rfl,by exact Nat.lt_succ_self _,by exact Nat.lt_succ_self _,by exact Nat.zero_le _,eh⟩) ?s3)
  case s2=>
   rintro c st' ⟨rfl,l,o,rfl,h1,h2,h3,h4⟩
   exact⟨rfl,l,o,rfl,h1,h3,h4,.inl (by lia)⟩
  case s1=>
   rintro x c st' - hx ⟨rfl,l,o,rfl,h1,h2,h3,h4⟩
   dsimp only
   by_cases z:o≥hint+1
   ·rw[if_pos z]
    exact wpS_pure ⟨rfl,l,o,rfl,h1,h3,h4,.inl z⟩
   ·rw[if_neg z]
    refine wpS_bind (bey (by exact Nat.lt_of_le_of_lt (Nat.sub_le _ _) ‹_›) ?_)
    cases e:jV O key left k arr base (hint - o)with
    |false=>exact wpS_pure ⟨rfl,o,2*o+1,rfl,by lia,by lia,by exact Nat.le_of_not_lt ‹_›,e⟩
    |true=>exact wpS_pure ⟨rfl,l,o,rfl,h1,h3,h4,.inr e⟩
  case s3=>
   rintro c st' ⟨rfl,l,o,rfl,h1,h3,h4,h5⟩
   dsimp only
   have f1:hint+1 - min o (hint+1)≤hint - l:=by omega
   have f2:hint - l≤n:=by lia
   have f3:∀i,i < hint+1 - min o (hint+1)→jV O key left k arr base i=true:=fun i hi=>by
    rcases h5 with h5 |h5
    ·lia
    ·exact up i (hint - o) (by lia) (by exact Nat.lt_of_le_of_lt (Nat.sub_le _ _) ‹_›) h5
   have f4:∀i,hint - l≤i→i < n→jV O key left k arr base i=false:=fun i hi hn=>dn _ i hi hn h4
   revert f1 f2 f3 f4
   generalize hint+1 - min o (hint+1)=lo
   generalize hint - l=hi
   refine fin (fun lo hq=>wpS_pure hq) (fun x lo hi R hz hR=>?_) (fun x lo hi R hz hn hR=>?_) lo hi
   ·dsimp only
    rw[if_pos hz]
    exact wpS_pure hR
   ·dsimp only
    rw[if_neg (by exact Nat.not_le.mpr ‹_›)]
    refine wpS_bind (bey (by lia) ?_)
    cases e:jV O key left k arr base (lo+(hi - lo) / 2)with
    |true=>rw[e]at hR;exact wpS_pure hR
    |false=>rw[e]at hR;exact wpS_pure hR
end
end NhLS
namespace NhLS
set_option autoImplicit false
open PySem PyProof.Rows
def Le(O:KeyOrd)(key:Keyed→O.α)(x y:Keyed):Prop:=O.blt (key y) (key x)=false
structure G (le:Keyed→Keyed→Prop) (T out ra rb:List Keyed):Prop where
 perm:(out++(ra++rb)).Perm T
 pa:(out++ra).Pairwise le
 pb:(out++rb).Pairwise le
def j8(le:Keyed→Keyed→Prop)(T l:List Keyed):Prop:=l.Perm T∧l.Pairwise le
section
variable {le:Keyed→Keyed→Prop} {T out ra rb p:List Keyed}
theorem G.takeA(g:G le T out (p++ra) rb)(h:∀x∈p,∀y∈rb,le x y):G le T (out++p) ra rb where
 perm:=by have:=g.perm;simpa[List.append_assoc]using this
 pa:=by have:=g.pa;simpa[List.append_assoc]using this
 pb:=by
  have h1:=g.pa
  have h2:=g.pb
  simp only[List.pairwise_append,List.mem_append]at h1 h2 ⊢
  refine⟨⟨h1.1,h1.2.1.1,fun x hx y hy=>h1.2.2 x hx y (.inl hy)⟩,h2.2.1,fun x hx y hy=>?_⟩
  rcases hx with hx |hx
  ·exact h2.2.2 x hx y hy
  ·exact h x hx y hy
theorem G.takeB(g:G le T out ra (p++rb))(h:∀x∈p,∀y∈ra,le x y):G le T (out++p) ra rb where
 perm:=by
  refine List.Perm.trans ?_ g.perm
  rw[List.append_assoc]
  refine List.Perm.append_left _ ?_
  rw[←List.append_assoc,←List.append_assoc]
  exact List.Perm.append_right _ List.perm_append_comm
 pb:=by have:=g.pb;simpa[List.append_assoc]using this
 pa:=by
  have h1:=g.pa
  have h2:=g.pb
  simp only[List.pairwise_append,List.mem_append]at h1 h2 ⊢
  refine⟨⟨h2.1,h2.2.1.1,fun x hx y hy=>h2.2.2 x hx y (.inl hy)⟩,h1.2.1,fun x hx y hy=>?_⟩
  rcases hx with hx |hx
  ·exact h1.2.2 x hx y hy
  ·exact h x hx y hy
theorem G.endA(g:G le T out ra []):j8 le T (out++ra):=⟨by have:=g.perm;simpa using this,g.pa⟩
theorem G.endB(g:G le T out [] rb):j8 le T (out++rb):=⟨by have:=g.perm;simpa using this,g.pb⟩
end
section
variable {O:KeyOrd} {key:Keyed→O.α} {a b:Array Keyed} {T:List Keyed} {out:Array Keyed} {i j ia ib k:Nat} {x y z:Keyed}
theorem Le.refl(x:Keyed):Le O key x x:=O.irrefl _
theorem Le.trans(h1:Le O key x y)(h2:Le O key y z):Le O key x z:=KeyOrd.kle_trans (O:=O) (a:=key x) (b:=key y) (c:=key z) h1 h2
theorem Le.of(h:O.blt (key x) (key y)=true):Le O key x y:=KeyOrd.klt_asymm (O:=O) h
theorem kz(h:i < a.toList.length):a.toList[i]=at' a i:=by
 have h':i < a.size:=by simpa using h
 simp[at',Array.getD,h']
theorem uc(h:y∈a.toList.drop i):∃j,i≤j∧j < a.size∧y=at' a j:=by
 obtain⟨j,hj,e⟩:=List.mem_iff_getElem.mp h
 rw[List.length_drop,Array.length_toList]at hj
 refine⟨i+j,by exact Nat.le_add_right _ _,by exact Nat.add_lt_of_lt_sub' ‹_›,?_⟩
 rw[List.getElem_drop]at e
 rw[←e,kz]
theorem nj(h:i < a.size):at' a i∈a.toList:=by
 rw[←kz (by simpa using h)]
 exact List.getElem_mem _
theorem sQ(pa:a.toList.Pairwise (Le O key))(h:i≤j)(hj:j < a.size):Le O key (at' a i) (at' a j):=by
 by_cases e:i=j
 ·rw[e];exact Le.refl _
 ·have:=List.pairwise_iff_getElem.mp pa i j (by simp;exact Nat.lt_of_le_of_lt ‹_› ‹_›) (by simpa using hj) (by exact Nat.lt_of_le_of_ne ‹_› ‹_›)
  rw[kz,kz]at this
  exact this
theorem vp(pa:a.toList.Pairwise (Le O key))(h:y∈a.toList.drop i):Le O key (at' a i) y:=by
 obtain⟨j,h1,h2,rfl⟩:=uc h
 exact sQ pa h1 h2
theorem x_(h:i < a.size):a.toList.drop i=[at' a i]++a.toList.drop (i+1):=by
 rw[List.drop_eq_getElem_cons (by simpa using h),kz]
 rfl
theorem ya(k:Nat):a.toList.drop i=(a.extract i (i+k)).toList++a.toList.drop (i+k):=by
 rw[Array.toList_extract,List.extract_eq_take_drop,Nat.add_sub_cancel_left,←List.drop_drop,List.take_append_drop]
theorem oB:(a.extract i).toList=a.toList.drop i:=by
 rw[Array.toList_extract,List.extract_eq_take_drop]
 exact List.take_of_length_le (by simp)
theorem ud(h:a.size≤i):a.toList.drop i=[]:=List.drop_eq_nil_of_le (by simpa using h)
theorem Bz(h:x∈(a.extract i (i+k)).toList):∃j,j < k∧i+j < a.size∧x=at' a (i+j):=by
 rw[Array.toList_extract,List.extract_eq_take_drop,Nat.add_sub_cancel_left]at h
 obtain⟨j,hj,e⟩:=List.mem_iff_getElem.mp h
 rw[List.length_take,List.length_drop,Array.length_toList]at hj
 refine⟨j,by lia,by lia,?_⟩
 rw[List.getElem_take,List.getElem_drop]at e
 rw[←e,kz]
theorem G.pushA(g:G (Le O key) T out.toList (a.toList.drop ia) (b.toList.drop ib))(h:ia < a.size)(hl:∀y∈b.toList.drop ib,Le O key (at' a ia) y):G (Le O key) T (out.push (at' a ia)).toList (a.toList.drop (ia+1)) (b.toList.drop ib):=by
 rw[x_ h]at g
 rw[Array.toList_push]
 exact g.takeA fun x hx y hy=>by rw[List.mem_singleton.mp hx];exact hl y hy
theorem G.pushB(g:G (Le O key) T out.toList (a.toList.drop ia) (b.toList.drop ib))(h:ib < b.size)(hl:∀y∈a.toList.drop ia,Le O key (at' b ib) y):G (Le O key) T (out.push (at' b ib)).toList (a.toList.drop ia) (b.toList.drop (ib+1)):=by
 rw[x_ h]at g
 rw[Array.toList_push]
 exact g.takeB fun x hx y hy=>by rw[List.mem_singleton.mp hx];exact hl y hy
theorem G.blkA(g:G (Le O key) T out.toList (a.toList.drop ia) (b.toList.drop ib))(k:Nat)(hl:∀j,j < k→ia+j < a.size→∀y∈b.toList.drop ib,Le O key (at' a (ia+j)) y):G (Le O key) T (out++a.extract ia (ia+k)).toList (a.toList.drop (ia+k)) (b.toList.drop ib):=by
 rw[ya k]at g
 rw[Array.toList_append]
 exact g.takeA fun x hx y hy=>by obtain⟨j,h1,h2,rfl⟩:=Bz hx;exact hl j h1 h2 y hy
theorem G.blkB(g:G (Le O key) T out.toList (a.toList.drop ia) (b.toList.drop ib))(k:Nat)(hl:∀j,j < k→ib+j < b.size→∀y∈a.toList.drop ia,Le O key (at' b (ib+j)) y):G (Le O key) T (out++b.extract ib (ib+k)).toList (a.toList.drop ia) (b.toList.drop (ib+k)):=by
 rw[ya (a:=b) k]at g
 rw[Array.toList_append]
 exact g.takeB fun x hx y hy=>by obtain⟨j,h1,h2,rfl⟩:=Bz hx;exact hl j h1 h2 y hy
theorem G.doneB(g:G (Le O key) T out.toList (a.toList.drop ia) (b.toList.drop ib))(h:b.size≤ib):j8 (Le O key) T (out++a.extract ia++b.extract ib).toList:=by
 rw[Array.toList_append,Array.toList_append,oB,oB,ud h,List.append_nil]
 rw[ud h]at g
 exact g.endA
theorem G.doneA(g:G (Le O key) T out.toList (a.toList.drop ia) (b.toList.drop ib))(h:a.size≤ia):j8 (Le O key) T (out++a.extract ia++b.extract ib).toList:=by
 rw[Array.toList_append,Array.toList_append,oB,oB,ud h,List.append_nil]
 rw[ud h]at g
 exact g.endB
theorem G.lastA(g:G (Le O key) T out.toList (a.toList.drop ia) (b.toList.drop ib))(h:ia+1=a.size)(h1:∀y∈b.toList,Le O key y (at' a (a.size - 1))):j8 (Le O key) T (out++b.extract ib++a.extract ia).toList:=by
 rw[Array.toList_append,Array.toList_append,oB,oB]
 have g':G (Le O key) T out.toList (a.toList.drop ia) (b.toList.drop ib++[]):=by rw[List.append_nil];exact g
 refine(g'.takeB fun x hx y hy=>?_).endA
 obtain⟨j,q1,q2,rfl⟩:=uc hy
 rw[show j=a.size - 1 by lia]
 exact h1 x (List.mem_of_mem_drop hx)
end
def SS(st st':SortSt):Prop:=∃g,st'=SortSt.mk' (kindOf st) (arrOf st) (pendingOf st) g (failedOf st)
theorem SS.refl(st:SortSt):SS st st:=⟨gallopOf st,rfl⟩
theorem SS.kind{st st':SortSt}(h:SS st st'):kindOf st'=kindOf st:=by obtain⟨g,rfl⟩:=h;rfl
section
variable {prog:Program} {w:World} {A:Around} {E:Value→Shared→Prop} {s:Shared} {κ:SortKind} {O:KeyOrd} {key:Keyed→O.α} {dom:Keyed→Prop} {st:SortSt}
def Hh:Nat→StateT SortSt Sem Unit:=sortPriv% PySem.Builtin.setMinGallop
theorem ue{st':SortSt}{g:Nat}{Q:Unit→SortSt→Prop}(hs:SS st st')(h:∀st2,SS st st2→Q () st2):wpS (model prog w) A E s (Hh g) Q st':=
 wpS_modify (h _ (by obtain⟨g',rfl⟩:=hs;exact⟨g,rfl⟩))
theorem bM{α:Type}{c:Prop}[Decidable c]{x y:StateT SortSt Sem α}{Q:α→SortSt→Prop}(hc:c)(h:wpS (model prog w) A E s x Q st):wpS (model prog w) A E s (if c then x else y) Q st:=by rw[if_pos hc];exact h
theorem bG{α:Type}{c:Prop}[Decidable c]{x y:StateT SortSt Sem α}{Q:α→SortSt→Prop}(hc:¬c)(h:wpS (model prog w) A E s y Q st):wpS (model prog w) A E s (if c then x else y) Q st:=by rw[if_neg hc];exact h
theorem FJ{α:Type}{m:StateT SortSt Sem α}{Q:α→SortSt→Prop}(h:∀R,R=Q→wpS (model prog w) A E s m R st):wpS (model prog w) A E s m Q st:=h Q rfl
theorem Hi{α:Type}{c:Prop}[Decidable c](f:Nat→StateT SortSt Sem α){x y:Nat}{Q:α→SortSt→Prop}(h:∀m,wpS (model prog w) A E s (f m) Q st):wpS (model prog w) A E s (if c then f x else f y) Q st:=by
 split <;> exact h _
theorem zD(C:Cmp prog w A s κ O key dom){a b:Array Keyed}{Q:Array Keyed→SortSt→Prop}(hk:kindOf st=κ)(da:∀x∈a.toList,dom x)(db:∀x∈b.toList,dom x)(ha:0 < a.size)(hb:0 < b.size)
  (pa:a.toList.Pairwise (Le O key)) (pb:b.toList.Pairwise (Le O key)) (h0:O.blt (key (at' b 0)) (key (at' a 0))=true) (h1:∀y∈b.toList,Le O key y (at' a (a.size - 1)))
  (h:∀r st',SS st st'→j8 (Le O key) (a.toList++b.toList) r.toList→Q r st'):wpS (model prog w) A E s (Bw a b) Q st:=by
 refine wpS_bind (wpS_lift (wpAny_rule ⟨rfl,?_⟩))
 refine wpS_bind (jJ hb ?_)
 obtain⟨T,hT⟩:∃T,T=a.toList++b.toList:=⟨_,rfl⟩
 rw[←hT]at h
 have g0:G (Le O key) T (#[at' b 0]:Array Keyed).toList (a.toList.drop 0) (b.toList.drop 1):=by
  have q:G (Le O key) T (#[]:Array Keyed).toList (a.toList.drop 0) (b.toList.drop 0):=⟨by simp[hT],by simpa using pa,by simpa using pb⟩
  exact q.pushB hb fun y hy=>(Le.of h0).trans (vp pa hy)
 have dA:∀i,i < a.size→dom (at' a i):=fun i hi=>da _ (nj hi)
 have dB:∀i,i < b.size→dom (at' b i):=fun i hi=>db _ (nj hi)
 extract_lets o0 i0 i1
 by_cases e1:(1 == b.size)=true
 ·refine bM e1 ?_
  exact wpS_pure (h _ st (SS.refl _) (g0.doneB (by simp at e1;exact Nat.le_of_eq (Eq.symm ‹_›))))
 refine bG e1 ?_
 by_cases e2:(0+1 == a.size)=true
 ·refine bM e2 ?_
  exact wpS_pure (h _ st (SS.refl _) (g0.lastA (by simpa using e2) h1))
 refine bG e2 ?_
 refine wpS_bind (wpS_get ?_)
 refine wpS_bind (wpS_mono (wpS_forRange (I:=fun x c st'=>SS st st'∧∃out ia ib mg,c=(none,out,ia,ib,mg)∧ia+1 < a.size∧ib < b.size∧x < ia+ib∧G (Le O key) T out.toList (a.toList.drop ia) (b.toList.drop ib))
  (Q:=fun c st'=>SS st st'∧∃r o,c=(some r,o)∧j8 (Le O key) T r.toList) ?s1 ?s2 ⟨SS.refl _,_,0,1,_,rfl,by simp at e2;exact Nat.lt_of_le_of_ne ‹_› ‹_›,by simp at e1;exact Nat.lt_of_le_of_ne ‹_› ‹_›,by exact Nat.lt_succ_self _,g0⟩) ?s3)
 case s3=>
  rintro c st' ⟨hs,r,o,rfl,hg⟩
  exact wpS_pure (h r st' hs hg)
 case s2=>
  rintro c st' ⟨hs,out,ia,ib,mg,rfl,q1,q2,q3,g⟩
  lia
 case s1=>
  rintro x c st1 - hx ⟨hs,out,ia,ib,mg,rfl,q1,q2,q3,g⟩
  refine wpS_bind (wpS_mono (wpS_forRange (I:=fun y c st'=>SS st st'∧∃out ia ib ac bc,c=(none,out,ia,ib,ac,bc)∧ia+1 < a.size∧ib < b.size∧x < ia+ib∧(y=0∨x+1 < ia+ib)∧G (Le O key) T out.toList (a.toList.drop ia) (b.toList.drop ib))
   (Q:=fun c st'=>SS st st'∧((∃r o,c=(some r,o)∧j8 (Le O key) T r.toList)∨∃out ia ib ac bc,c=(none,out,ia,ib,ac,bc)∧ia+1 < a.size∧ib < b.size∧x+1 < ia+ib∧G (Le O key) T out.toList (a.toList.drop ia) (b.toList.drop ib))) ?t1 ?t2 ⟨hs,out,ia,ib,0,0,rfl,q1,q2,q3,.inl rfl,g⟩) ?t3)
  case t2=>
   rintro c st' ⟨hs,out,ia,ib,ac,bc,rfl,q1,q2,q3,q4,g⟩
   exact⟨hs,.inr ⟨out,ia,ib,ac,bc,rfl,q1,q2,by lia,g⟩⟩
  case t1=>
   rintro y c st2 - hy ⟨hs,out,ia,ib,ac,bc,rfl,q1,q2,q3,q4,g⟩
   have q0:ia < a.size:=by exact Nat.lt_of_succ_lt ‹_›
   refine wpS_bind (jJ q2 ?_)
   refine wpS_bind (jJ q0 ?_)
   refine wpS_bind (By C (hs.kind.trans hk) (dB _ q2) (dA _ q0) ?_)
   cases e:O.blt (key (at' b ib)) (key (at' a ia))with
   |true=>
    refine wpS_bind (jJ q2 ?_)
    have g':=g.pushB q2 (fun y hy=>(Le.of e).trans (vp pa hy))
    by_cases z:(ib+1 == b.size)=true
    ·exact bM z (wpS_pure ⟨hs,.inl ⟨_,_,rfl,g'.doneB (by simp at z;exact Nat.le_of_eq (Eq.symm ‹_›))⟩⟩)
    ·refine bG z ?_
     have z':ib+1 < b.size:=by simp at z;exact Nat.lt_of_le_of_ne ‹_› ‹_›
     dsimp only
     split
     ·exact wpS_pure ⟨hs,.inr ⟨_,_,_,_,_,rfl,q1,z',by exact Nat.succ_lt_succ ‹_›,g'⟩⟩
     ·exact wpS_pure ⟨hs,_,_,_,_,_,rfl,q1,z',by exact Nat.lt_succ_of_lt ‹_›,.inr (by exact Nat.succ_lt_succ ‹_›),g'⟩
   |false=>
    refine wpS_bind (jJ q0 ?_)
    have g':=g.pushA (by assumption) (fun y hy=>Le.trans e (vp pb hy))
    by_cases z:(ia+1+1 == a.size)=true
    ·exact bM z (wpS_pure ⟨hs,.inl ⟨_,_,rfl,g'.lastA (by simpa using z) h1⟩⟩)
    ·refine bG z ?_
     have z':ia+1+1 < a.size:=by simp at z;exact Nat.lt_of_le_of_ne ‹_› ‹_›
     dsimp only
     split
     ·exact wpS_pure ⟨hs,.inr ⟨_,_,_,_,_,rfl,z',q2,by lia,g'⟩⟩
     ·exact wpS_pure ⟨hs,_,_,_,_,_,rfl,z',q2,by lia,.inr (by lia),g'⟩
  case t3=>
   rintro c st2 ⟨hs,⟨r,o,rfl,hg⟩ |⟨out,ia,ib,ac,bc,rfl,q1,q2,q3,g⟩⟩
   ·exact wpS_pure ⟨hs,r,_,rfl,hg⟩
   ·refine wpS_bind (wpS_lift (wpAny_rule ⟨rfl,?_⟩))
    refine wpS_bind (wpS_mono (wpS_forRange (I:=fun y c st'=>SS st st'∧∃out ia ib mg ac bc,c=(none,out,ia,ib,mg,ac,bc)∧ia+1 < a.size∧ib < b.size∧x+1 < ia+ib∧G (Le O key) T out.toList (a.toList.drop ia) (b.toList.drop ib))
     (Q:=fun c st'=>SS st st'∧((∃r o,c=(some r,o)∧j8 (Le O key) T r.toList)∨∃out ia ib mg ac bc,c=(none,out,ia,ib,mg,ac,bc)∧ia+1 < a.size∧ib < b.size∧x+1 < ia+ib∧G (Le O key) T out.toList (a.toList.drop ia) (b.toList.drop ib))) ?u1 ?u2 ⟨hs,out,ia,ib,_,ac,bc,rfl,q1,q2,q3,g⟩) ?u3)
    case u2=>
     rintro c st' ⟨hs,out,ia,ib,mg,ac,bc,rfl,q1,q2,q3,g⟩
     exact⟨hs,.inr ⟨out,ia,ib,mg,ac,bc,rfl,q1,q2,by assumption,g⟩⟩
    case u3=>
     rintro c st3 ⟨hs,⟨r,o,rfl,hg⟩ |⟨out,ia,ib,mg,ac,bc,rfl,q1,q2,q3,g⟩⟩
     ·exact wpS_pure ⟨hs,r,_,rfl,hg⟩
     ·exact wpS_bind (ue hs fun st4 h4=>wpS_pure ⟨h4,out,ia,ib,_,rfl,q1,q2,q3,g⟩)
    case u1=>
     rintro y c st3 - hy ⟨hs,out,ia,ib,mg,ac,bc,rfl,q1,q2,q3,g⟩
     refine FJ fun R hR=>?_
     have Rd:∀r o st',SS st st'→j8 (Le O key) T r.toList→R (.done (some r,o)) st':=fun r o st' a1 a2=>by rw[hR];exact⟨a1,.inl ⟨r,o,rfl,a2⟩⟩
     have Rn:∀out ia ib mg ac bc st',SS st st'→ia+1 < a.size→ib < b.size→x+1 < ia+ib→G (Le O key) T out.toList (a.toList.drop ia) (b.toList.drop ib)→R (.done (none,out,ia,ib,mg,ac,bc)) st':=
      fun out ia ib mg ac bc st' a1 a2 a3 a4 a5=>by rw[hR];exact⟨a1,.inr ⟨_,_,_,_,_,_,rfl,a2,a3,a4,a5⟩⟩
     have Ry:∀out ia ib mg ac bc st',SS st st'→ia+1 < a.size→ib < b.size→x+1 < ia+ib→G (Le O key) T out.toList (a.toList.drop ia) (b.toList.drop ib)→R (.yield (none,out,ia,ib,mg,ac,bc)) st':=
      fun out ia ib mg ac bc st' a1 a2 a3 a4 a5=>by rw[hR];exact⟨a1,_,_,_,_,_,_,rfl,a2,a3,a4,a5⟩
     clear hR
     extract_lets
     rename Unit→Nat→_=>jp
     refine Hi (jp ()) fun mg'=>?_
     refine wpS_bind (ue hs fun st4 h4=>?_)
     refine wpS_bind (jJ q2 ?_)
     refine wpS_bind (kw C (base:=ia) (n:=a.size - ia) (hint:=0) (h4.kind.trans hk) (by exact Nat.sub_pos_of_lt (Nat.lt_of_succ_lt ‹_›)) (by exact Nat.le_of_eq (Nat.add_sub_of_le (Nat.le_of_lt (Nat.lt_of_succ_lt ‹_›)))) (dB _ q2) dA ?m1 fun k hk1 hk2 hk3=>?_)
     case m1=>
      intro i j hij hj e
      simp only[jV,Bool.false_eq_true,if_false,Bool.not_eq_true']at e ⊢
      exact(sQ pa (by lia) (by exact Nat.add_lt_of_lt_sub' ‹_›):Le O key (at' a (ia+i)) (at' a (ia+j))).trans e
     simp only[jV,Bool.false_eq_true,if_false,Bool.not_eq_true',Bool.not_eq_false']at hk2 hk3
     dsimp -zeta only
     extract_lets
     rename Unit→Array Keyed→Nat→_=>jp1
     have J1:∀(out:Array Keyed) (ia:Nat),ia+1 < a.size→x+1 < ia+ib→G (Le O key) T out.toList (a.toList.drop ia) (b.toList.drop ib)→(∀y∈a.toList.drop ia,Le O key (at' b ib) y)→wpS (model prog w) A E s (jp1 () out ia) R st4:=by
      intro out ia q1 q3 g hl
      have q0:ia < a.size:=by exact Nat.lt_of_succ_lt ‹_›
      refine wpS_bind (jJ q2 ?_)
      have g':=g.pushB q2 hl
      by_cases z:(ib+1 == b.size)=true
      ·exact bM z (wpS_pure (Rd _ _ _ h4 (g'.doneB (by simp at z;exact Nat.le_of_eq (Eq.symm ‹_›)))))
      refine bG z ?_
      have z':ib+1 < b.size:=by simp at z;exact Nat.lt_of_le_of_ne ‹_› ‹_›
      refine wpS_bind (jJ q0 ?_)
      refine wpS_bind (kw C (base:=ib+1) (n:=b.size - (ib+1)) (hint:=0) (h4.kind.trans hk) (by exact Nat.sub_pos_of_lt ‹_›) (by exact Nat.le_of_eq (Nat.add_sub_of_le ‹_›)) (dA _ q0) dB ?m2 fun k' hk1' hk2' hk3'=>?_)
      case m2=>
       intro i j hij hj e
       simp only[jV,if_true]at e ⊢
       exact KeyOrd.klt_of_kle_of_klt (O:=O) (sQ pb (by lia) (by exact Nat.add_lt_of_lt_sub' ‹_›):Le O key (at' b (ib+1+i)) (at' b (ib+1+j))) e
      simp only[jV,if_true]at hk2' hk3'
      dsimp -zeta only
      extract_lets
      rename Unit→Array Keyed→Nat→_=>jp2
      have J2:∀(out:Array Keyed) (ib':Nat),ib' < b.size→x+1 < ia+ib'→G (Le O key) T out.toList (a.toList.drop ia) (b.toList.drop ib')→(∀y∈b.toList.drop ib',Le O key (at' a ia) y)→wpS (model prog w) A E s (jp2 () out ib') R st4:=by
       intro out ib' p2 p3 g hl
       refine wpS_bind (jJ q0 ?_)
       have g':=g.pushA q0 hl
       by_cases z:(ia+1+1 == a.size)=true
       ·exact bM z (wpS_pure (Rd _ _ _ h4 (g'.lastA (by simpa using z) h1)))
       refine bG z ?_
       have z':ia+1+1 < a.size:=by simp at z;exact Nat.lt_of_le_of_ne ‹_› ‹_›
       by_cases z2:(decide (k < 7)&&decide (k' < 7))=true
       ·exact bM z2 (wpS_pure (Rn _ _ _ _ _ _ _ h4 z' p2 (by lia) g'))
       ·exact bG z2 (wpS_pure (Ry _ _ _ _ _ _ _ h4 z' p2 (by lia) g'))
      clear_value jp2
      have tl:∀y∈b.toList.drop (ib+1+k'),Le O key (at' a ia) y:=fun y hy=>by
       obtain⟨j,r1,r2,rfl⟩:=uc hy
       have:=hk3' (j - (ib+1)) (by exact Nat.le_sub_of_add_le' ‹_›) (by exact Nat.sub_lt_sub_right (Nat.le_trans (Nat.le_add_right _ _) ‹_›) ‹_›)
       rwa [show ib+1+(j - (ib+1))=j by exact Nat.add_sub_of_le (Nat.le_trans (Nat.le_add_right _ _) ‹_›)]at this
      by_cases z2:k' > 0
      ·refine bM z2 ?_
       have g2:=g'.blkB k' fun j j1 j2 y hy=>(Le.of (hk2' j j1)).trans (vp pa hy)
       by_cases z3:(ib+1+k' == b.size)=true
       ·exact bM z3 (wpS_pure (Rd _ _ _ h4 (g2.doneB (by simp at z3;exact Nat.le_of_eq (Eq.symm ‹_›)))))
       ·exact bG z3 (J2 _ (ib+1+k') (by simp at z3;lia) (by lia) g2 tl)
      ·have k0:k'=0:=by exact Nat.eq_zero_of_not_pos ‹_›
       subst k0
       exact bG z2 (J2 _ (ib+1) z' (by exact Nat.lt_succ_of_lt ‹_›) g' tl)
     clear_value jp1
     have tl:∀y∈a.toList.drop (ia+k),Le O key (at' b ib) y:=fun y hy=>by
      obtain⟨j,r1,r2,rfl⟩:=uc hy
      have:=hk3 (j - ia) (by exact Nat.le_sub_of_add_le' ‹_›) (by exact Nat.sub_lt_sub_right (Nat.le_trans (Nat.le_add_right _ _) ‹_›) ‹_›)
      rw[show ia+(j - ia)=j by exact Nat.add_sub_of_le (Nat.le_trans (Nat.le_add_right _ _) ‹_›)]at this
      exact Le.of this
     by_cases z2:k > 0
     ·refine bM z2 ?_
      have g2:=g.blkA k fun j j1 j2 y hy=>Le.trans (hk2 j j1) (vp pb hy)
      by_cases z3:(ia+k+1 == a.size)=true
      ·exact bM z3 (wpS_pure (Rd _ _ _ h4 (g2.lastA (by simpa using z3) h1)))
      refine bG z3 ?_
      by_cases z4:(ia+k == a.size)=true
      ·exact bM z4 (wpS_pure (Rd _ _ _ h4 (g2.doneA (by simp at z4;exact Nat.le_of_eq (Eq.symm ‹_›)))))
      ·exact bG z4 (J1 _ (ia+k) (by simp at z3 z4;lia) (by lia) g2 tl)
     ·have k0:k=0:=by exact Nat.eq_zero_of_not_pos ‹_›
      subst k0
      exact bG z2 (J1 _ ia q1 q3 g tl)
end
end NhLS
namespace NhLS
set_option autoImplicit false
open PySem PyProof.Rows
structure H (le:Keyed→Keyed→Prop) (T ra rb out:List Keyed):Prop where
 perm:(ra++rb++out).Perm T
 pa:(ra++out).Pairwise le
 pb:(rb++out).Pairwise le
section
variable {le:Keyed→Keyed→Prop} {T out ra rb p:List Keyed}
theorem H.takeA(g:H le T (ra++p) rb out)(h:∀x∈p,∀y∈rb,le y x):H le T ra rb (p++out) where
 perm:=by
  refine List.Perm.trans ?_ g.perm
  rw[←List.append_assoc]
  refine List.Perm.append_right _ ?_
  rw[List.append_assoc,List.append_assoc]
  exact List.Perm.append_left _ List.perm_append_comm
 pa:=by have:=g.pa;simpa[List.append_assoc]using this
 pb:=by
  have h1:=g.pa
  have h2:=g.pb
  simp only[List.pairwise_append,List.mem_append]at h1 h2 ⊢
  refine⟨h2.1,⟨h1.1.2.1,h1.2.1,fun x hx y hy=>h1.2.2 x (.inr hx) y hy⟩,fun x hx y hy=>?_⟩
  rcases hy with hy |hy
  ·exact h y hy x hx
  ·exact h2.2.2 x hx y hy
theorem H.takeB(g:H le T ra (rb++p) out)(h:∀x∈p,∀y∈ra,le y x):H le T ra rb (p++out) where
 perm:=by have:=g.perm;simpa[List.append_assoc]using this
 pb:=by have:=g.pb;simpa[List.append_assoc]using this
 pa:=by
  have h1:=g.pa
  have h2:=g.pb
  simp only[List.pairwise_append,List.mem_append]at h1 h2 ⊢
  refine⟨h1.1,⟨h2.1.2.1,h2.2.1,fun x hx y hy=>h2.2.2 x (.inr hx) y hy⟩,fun x hx y hy=>?_⟩
  rcases hy with hy |hy
  ·exact h y hy x hx
  ·exact h1.2.2 x hx y hy
theorem H.endA(g:H le T ra [] out):j8 le T (ra++out):=⟨by have:=g.perm;simpa using this,g.pa⟩
theorem H.endB(g:H le T [] rb out):j8 le T (rb++out):=⟨by have:=g.perm;simpa using this,g.pb⟩
end
section
variable {O:KeyOrd} {key:Keyed→O.α} {a b:Array Keyed} {T:List Keyed} {out:Array Keyed} {i j na nb k:Nat} {x y z:Keyed}
theorem uf(h:y∈a.toList.take i):∃j,j < i∧j < a.size∧y=at' a j:=by
 obtain⟨j,hj,e⟩:=List.mem_iff_getElem.mp h
 rw[List.length_take,Array.length_toList]at hj
 refine⟨j,by lia,by lia,?_⟩
 rw[List.getElem_take]at e
 rw[←e,kz]
theorem yb(pa:a.toList.Pairwise (Le O key))(hi:i < a.size)(h:y∈a.toList.take (i+1)):Le O key y (at' a i):=by
 obtain⟨j,h1,h2,rfl⟩:=uf h
 exact sQ pa (by exact Nat.le_of_lt_succ ‹_›) hi
theorem yc(h:i < a.size):a.toList.take (i+1)=a.toList.take i++[at' a i]:=by
 rw[List.take_succ_eq_append_getElem (by simpa using h),kz]
theorem ug(h:i≤j):a.toList.take j=a.toList.take i++(a.extract i j).toList:=by
 rw[Array.toList_extract,List.extract_eq_take_drop,←List.take_add]
 congr 1
 lia
theorem oC:(a.extract 0 i).toList=a.toList.take i:=by
 rw[Array.toList_extract,List.extract_eq_take_drop]
 rfl
theorem uh(h:x∈(a.extract i j).toList):∃k,i≤k∧k < j∧k < a.size∧x=at' a k:=by
 rw[Array.toList_extract,List.extract_eq_take_drop]at h
 obtain⟨k,hk,e⟩:=List.mem_iff_getElem.mp h
 rw[List.length_take,List.length_drop,Array.length_toList]at hk
 refine⟨i+k,by exact Nat.le_add_right _ _,by lia,by lia,?_⟩
 rw[List.getElem_take,List.getElem_drop]at e
 rw[←e,kz]
theorem H.pushA(g:H (Le O key) T (a.toList.take (na+1)) (b.toList.take nb) out.toList.reverse)(h:na < a.size)(hl:∀y∈b.toList.take nb,Le O key y (at' a na)):H (Le O key) T (a.toList.take na) (b.toList.take nb) (out.push (at' a na)).toList.reverse:=by
 rw[yc h]at g
 rw[Array.toList_push,List.reverse_append]
 exact g.takeA fun x hx y hy=>by rw[List.mem_singleton.mp hx];exact hl y hy
theorem H.pushB(g:H (Le O key) T (a.toList.take na) (b.toList.take (nb+1)) out.toList.reverse)(h:nb < b.size)(hl:∀y∈a.toList.take na,Le O key y (at' b nb)):H (Le O key) T (a.toList.take na) (b.toList.take nb) (out.push (at' b nb)).toList.reverse:=by
 rw[yc h]at g
 rw[Array.toList_push,List.reverse_append]
 exact g.takeB fun x hx y hy=>by rw[List.mem_singleton.mp hx];exact hl y hy
theorem H.blkA(g:H (Le O key) T (a.toList.take na) (b.toList.take nb) out.toList.reverse)(h:i≤na)(hl:∀j,i≤j→j < na→j < a.size→∀y∈b.toList.take nb,Le O key y (at' a j)):H (Le O key) T (a.toList.take i) (b.toList.take nb) (out++(a.extract i na).reverse).toList.reverse:=by
 rw[ug h]at g
 rw[Array.toList_append,List.reverse_append,Array.toList_reverse,List.reverse_reverse]
 exact g.takeA fun x hx y hy=>by obtain⟨j,h1,h2,h3,rfl⟩:=uh hx;exact hl j h1 h2 h3 y hy
theorem H.blkB(g:H (Le O key) T (a.toList.take na) (b.toList.take nb) out.toList.reverse)(h:i≤nb)(hl:∀j,i≤j→j < nb→j < b.size→∀y∈a.toList.take na,Le O key y (at' b j)):H (Le O key) T (a.toList.take na) (b.toList.take i) (out++(b.extract i nb).reverse).toList.reverse:=by
 rw[ug (a:=b) h]at g
 rw[Array.toList_append,List.reverse_append,Array.toList_reverse,List.reverse_reverse]
 exact g.takeB fun x hx y hy=>by obtain⟨j,h1,h2,h3,rfl⟩:=uh hx;exact hl j h1 h2 h3 y hy
theorem H.doneA(g:H (Le O key) T (a.toList.take na) (b.toList.take nb) out.toList.reverse)(h:na=0):j8 (Le O key) T (a.extract 0 na++b.extract 0 nb++out.reverse).toList:=by
 subst h
 rw[Array.toList_append,Array.toList_append,oC,oC,Array.toList_reverse]
 exact g.endB
theorem H.doneB(g:H (Le O key) T (a.toList.take na) (b.toList.take nb) out.toList.reverse)(h:nb=0):j8 (Le O key) T (a.extract 0 na++b.extract 0 nb++out.reverse).toList:=by
 subst h
 rw[Array.toList_append,Array.toList_append,oC,oC,Array.toList_reverse,List.take_zero,List.append_nil]
 exact g.endA
theorem H.firstB(g:H (Le O key) T (a.toList.take na) (b.toList.take nb) out.toList.reverse)(h:nb=1)(h1:∀y∈a.toList,Le O key (at' b 0) y):j8 (Le O key) T (b.extract 0 nb++a.extract 0 na++out.reverse).toList:=by
 rw[Array.toList_append,Array.toList_append,oC,oC,Array.toList_reverse,List.append_assoc]
 have g':H (Le O key) T ([]++a.toList.take na) (b.toList.take nb) out.toList.reverse:=g
 refine(g'.takeA fun x hx y hy=>?_).endB
 obtain⟨j,q1,q2,rfl⟩:=uf hy
 rw[show j=0 by lia]
 exact h1 x (List.mem_of_mem_take hx)
end
section
variable {prog:Program} {w:World} {A:Around} {E:Value→Shared→Prop} {s:Shared} {κ:SortKind} {O:KeyOrd} {key:Keyed→O.α} {dom:Keyed→Prop} {st:SortSt}
theorem j9{α:Type}{c:Prop}[Decidable c]{x y:StateT SortSt Sem α}{Q:α→SortSt→Prop}(h1:c→wpS (model prog w) A E s x Q st)(h2:¬c→wpS (model prog w) A E s y Q st):wpS (model prog w) A E s (if c then x else y) Q st:=by
 split
 ·rename_i z;exact h1 z
 ·rename_i z;exact h2 z
theorem zE(C:Cmp prog w A s κ O key dom){a b:Array Keyed}{Q:Array Keyed→SortSt→Prop}(hk:kindOf st=κ)(da:∀x∈a.toList,dom x)(db:∀x∈b.toList,dom x)(ha:0 < a.size)(hb:0 < b.size)
  (pa:a.toList.Pairwise (Le O key)) (pb:b.toList.Pairwise (Le O key)) (h0:∀y∈b.toList,Le O key y (at' a (a.size - 1))) (h1:∀y∈a.toList,Le O key (at' b 0) y)
  (h:∀r st',SS st st'→j8 (Le O key) (a.toList++b.toList) r.toList→Q r st'):wpS (model prog w) A E s (Bx a b) Q st:=by
 refine wpS_bind (wpS_lift (wpAny_rule ⟨rfl,?_⟩))
 have ha':a.size - 1 < a.size:=by exact Nat.sub_lt ‹_› Nat.one_pos
 refine wpS_bind (jJ ha' ?_)
 obtain⟨T,hT⟩:∃T,T=a.toList++b.toList:=⟨_,rfl⟩
 rw[←hT]at h
 have g0:H (Le O key) T (a.toList.take (a.size - 1)) (b.toList.take b.size) (#[at' a (a.size - 1)]:Array Keyed).toList.reverse:=by
  have q:H (Le O key) T (a.toList.take (a.size - 1+1)) (b.toList.take b.size) (#[]:Array Keyed).toList.reverse:=by
   have e1:a.toList.take (a.size - 1+1)=a.toList:=List.take_of_length_le (by simp;lia)
   have e2:b.toList.take b.size=b.toList:=List.take_of_length_le (by simp)
   rw[e1,e2]
   exact⟨by simp[hT],by simpa using pa,by simpa using pb⟩
  exact q.pushA ha' fun y hy=>h0 y (List.mem_of_mem_take hy)
 have dA:∀i,i < a.size→dom (at' a i):=fun i hi=>da _ (nj hi)
 have dB:∀i,i < b.size→dom (at' b i):=fun i hi=>db _ (nj hi)
 by_cases e1:(a.size - 1 == 0)=true
 ·refine bM e1 ?_
  exact wpS_pure (h _ st (SS.refl _) (g0.doneA (by simpa using e1)))
 refine bG e1 ?_
 by_cases e2:(b.size == 1)=true
 ·refine bM e2 ?_
  exact wpS_pure (h _ st (SS.refl _) (g0.firstB (by simpa using e2) h1))
 refine bG e2 ?_
 refine wpS_bind (wpS_get ?_)
 refine wpS_bind (wpS_mono (wpS_forRange (I:=fun x c st'=>SS st st'∧∃na nb out mg,c=(none,na,nb,out,mg)∧na≤a.size∧1≤na∧nb≤b.size∧2≤nb∧na+nb+x < a.size+b.size∧H (Le O key) T (a.toList.take na) (b.toList.take nb) out.toList.reverse)
  (Q:=fun c st'=>SS st st'∧∃r o,c=(some r,o)∧j8 (Le O key) T r.toList) ?s1 ?s2 ⟨SS.refl _,a.size - 1,b.size,_,_,rfl,by exact Nat.sub_le _ _,by simp at e1;exact Nat.pos_of_ne_zero ‹_›,by exact Nat.le_refl _,by simp at e2;lia,by lia,g0⟩) ?s3)
 case s3=>
  rintro c st' ⟨hs,r,o,rfl,hg⟩
  exact wpS_pure (h r st' hs hg)
 case s2=>
  rintro c st' ⟨hs,na,nb,out,mg,rfl,p1,q1,p2,q2,q3,g⟩
  lia
 case s1=>
  rintro x c st1 - hx ⟨hs,na,nb,out,mg,rfl,p1,q1,p2,q2,q3,g⟩
  refine wpS_bind (wpS_mono (wpS_forRange (I:=fun y c st'=>SS st st'∧∃na nb out ac bc,c=(none,na,nb,out,ac,bc)∧na≤a.size∧1≤na∧nb≤b.size∧2≤nb∧na+nb+x < a.size+b.size∧(y=0∨na+nb+(x+1) < a.size+b.size)∧H (Le O key) T (a.toList.take na) (b.toList.take nb) out.toList.reverse)
   (Q:=fun c st'=>SS st st'∧((∃r o,c=(some r,o)∧j8 (Le O key) T r.toList)∨∃na nb out ac bc,c=(none,na,nb,out,ac,bc)∧na≤a.size∧1≤na∧nb≤b.size∧2≤nb∧na+nb+(x+1) < a.size+b.size∧H (Le O key) T (a.toList.take na) (b.toList.take nb) out.toList.reverse)) ?t1 ?t2 ⟨hs,na,nb,out,0,0,rfl,p1,q1,p2,q2,q3,.inl rfl,g⟩) ?t3)
  case t2=>
   rintro c st' ⟨hs,na,nb,out,ac,bc,rfl,p1,q1,p2,q2,q3,q4,g⟩
   exact⟨hs,.inr ⟨na,nb,out,ac,bc,rfl,p1,q1,p2,q2,by lia,g⟩⟩
  case t1=>
   rintro y c st2 - hy ⟨hs,na,nb,out,ac,bc,rfl,p1,q1,p2,q2,q3,q4,g⟩
   obtain⟨na,rfl⟩:∃n,na=n+1:=⟨na - 1,by exact(Nat.sub_add_cancel ‹_›).symm⟩
   obtain⟨nb,rfl⟩:∃n,nb=n+1:=⟨nb - 1,by lia⟩
   have p1':na < a.size:=by assumption
   have p2':nb < b.size:=by assumption
   refine wpS_bind (jJ p2' ?_)
   refine wpS_bind (jJ p1' ?_)
   refine wpS_bind (By C (hs.kind.trans hk) (dB _ p2') (dA _ p1') ?_)
   simp only[Nat.add_sub_cancel]
   cases e:O.blt (key (at' b nb)) (key (at' a na))with
   |true=>
    refine wpS_bind (jJ p1' ?_)
    have g':=g.pushA p1' (fun y hy=>(yb pb p2' hy).trans (Le.of e))
    by_cases z:(na == 0)=true
    ·exact bM z (wpS_pure ⟨hs,.inl ⟨_,_,rfl,g'.doneA (by simpa using z)⟩⟩)
    ·refine bG z ?_
     have z':1≤na:=by simp at z;exact Nat.pos_of_ne_zero ‹_›
     split
     ·exact wpS_pure ⟨hs,.inr ⟨na,nb+1,_,_,_,rfl,by exact Nat.le_of_lt ‹_›,z',p2,q2,by lia,g'⟩⟩
     ·exact wpS_pure ⟨hs,na,nb+1,_,_,_,rfl,by exact Nat.le_of_lt ‹_›,z',p2,q2,by lia,.inr (by lia),g'⟩
   |false=>
    refine wpS_bind (jJ p2' ?_)
    have g':=g.pushB p2' (fun y hy=>(yb pa p1' hy).trans e)
    by_cases z:(nb == 1)=true
    ·exact bM z (wpS_pure ⟨hs,.inl ⟨_,_,rfl,g'.firstB (by simpa using z) h1⟩⟩)
    ·refine bG z ?_
     have z':2≤nb:=by simp at z;lia
     split
     ·exact wpS_pure ⟨hs,.inr ⟨na+1,nb,_,_,_,rfl,p1,q1,by exact Nat.le_of_lt ‹_›,z',by lia,g'⟩⟩
     ·exact wpS_pure ⟨hs,na+1,nb,_,_,_,rfl,p1,q1,by exact Nat.le_of_lt ‹_›,z',by lia,.inr (by lia),g'⟩
  case t3=>
   rintro c st2 ⟨hs,⟨r,o,rfl,hg⟩ |⟨na,nb,out,ac,bc,rfl,p1,q1,p2,q2,q3,g⟩⟩
   ·exact wpS_pure ⟨hs,r,_,rfl,hg⟩
   ·refine wpS_bind (wpS_lift (wpAny_rule ⟨rfl,?_⟩))
    refine wpS_bind (wpS_mono (wpS_forRange (I:=fun y c st'=>SS st st'∧∃na nb out mg ac bc,c=(none,na,nb,out,mg,ac,bc)∧na≤a.size∧1≤na∧nb≤b.size∧2≤nb∧na+nb+(x+1) < a.size+b.size∧H (Le O key) T (a.toList.take na) (b.toList.take nb) out.toList.reverse)
     (Q:=fun c st'=>SS st st'∧((∃r o,c=(some r,o)∧j8 (Le O key) T r.toList)∨∃na nb out mg ac bc,c=(none,na,nb,out,mg,ac,bc)∧na≤a.size∧1≤na∧nb≤b.size∧2≤nb∧na+nb+(x+1) < a.size+b.size∧H (Le O key) T (a.toList.take na) (b.toList.take nb) out.toList.reverse)) ?u1 ?u2 ⟨hs,na,nb,out,_,ac,bc,rfl,p1,q1,p2,q2,q3,g⟩) ?u3)
    case u2=>
     rintro c st' ⟨hs,na,nb,out,mg,ac,bc,rfl,p1,q1,p2,q2,q3,g⟩
     exact⟨hs,.inr ⟨na,nb,out,mg,ac,bc,rfl,p1,q1,p2,q2,by assumption,g⟩⟩
    case u3=>
     rintro c st3 ⟨hs,⟨r,o,rfl,hg⟩ |⟨na,nb,out,mg,ac,bc,rfl,p1,q1,p2,q2,q3,g⟩⟩
     ·exact wpS_pure ⟨hs,r,_,rfl,hg⟩
     ·exact wpS_bind (ue hs fun st4 h4=>wpS_pure ⟨h4,na,nb,out,_,rfl,p1,q1,p2,q2,q3,g⟩)
    case u1=>
     rintro y c st3 - hy ⟨hs,na,nb,out,mg,ac,bc,rfl,p1,q1,p2,q2,q3,g⟩
     refine FJ fun R hR=>?_
     have Rd:∀r o st',SS st st'→j8 (Le O key) T r.toList→R (.done (some r,o)) st':=fun r o st' a1 a2=>by rw[hR];exact⟨a1,.inl ⟨r,o,rfl,a2⟩⟩
     have Rn:∀na nb out mg ac bc st',SS st st'→na≤a.size→1≤na→nb≤b.size→2≤nb→na+nb+(x+1) < a.size+b.size→H (Le O key) T (a.toList.take na) (b.toList.take nb) out.toList.reverse→R (.done (none,na,nb,out,mg,ac,bc)) st':=
      fun na nb out mg ac bc st' a1 a2 a3 a4 a5 a6 a7=>by rw[hR];exact⟨a1,.inr ⟨_,_,_,_,_,_,rfl,a2,a3,a4,a5,a6,a7⟩⟩
     have Ry:∀na nb out mg ac bc st',SS st st'→na≤a.size→1≤na→nb≤b.size→2≤nb→na+nb+(x+1) < a.size+b.size→H (Le O key) T (a.toList.take na) (b.toList.take nb) out.toList.reverse→R (.yield (none,na,nb,out,mg,ac,bc)) st':=
      fun na nb out mg ac bc st' a1 a2 a3 a4 a5 a6 a7=>by rw[hR];exact⟨a1,_,_,_,_,_,_,rfl,a2,a3,a4,a5,a6,a7⟩
     clear hR
     obtain⟨nb,rfl⟩:∃n,nb=n+1:=⟨nb - 1,by lia⟩
     have p2':nb < b.size:=by assumption
     have q2':1≤nb:=by exact Nat.le_of_lt_succ ‹_›
     extract_lets
     rename Unit→Nat→_=>jp
     refine Hi (jp ()) fun mg'=>?_
     refine wpS_bind (ue hs fun st4 h4=>?_)
     refine wpS_bind (jJ p2' ?_)
     refine wpS_bind (kw C (k:=at' b nb) (base:=0) (n:=na) (hint:=na - 1) (h4.kind.trans hk) (by exact Nat.sub_lt ‹_› Nat.one_pos) (by lia) (dB _ p2') dA ?m1 fun k hk1 hk2 hk3=>?_)
     case m1=>
      intro i j hij hj e
      simp only[jV,Bool.false_eq_true,if_false,Bool.not_eq_true',Nat.zero_add]at e ⊢
      exact(sQ pa (by exact Nat.le_of_lt ‹_›) (by exact Nat.lt_of_lt_of_le ‹_› ‹_›):Le O key (at' a i) (at' a j)).trans e
     simp only[jV,Bool.false_eq_true,if_false,Bool.not_eq_true',Bool.not_eq_false',Nat.zero_add]at hk2 hk3
     dsimp -zeta only
     extract_lets
     rename Unit→Nat→Array Keyed→_=>jp1
     have J1:∀(na:Nat) (out:Array Keyed),na≤a.size→1≤na→na+(nb+1)+(x+1) < a.size+b.size→H (Le O key) T (a.toList.take na) (b.toList.take (nb+1)) out.toList.reverse→(∀y∈a.toList.take na,Le O key y (at' b nb))→wpS (model prog w) A E s (jp1 () na out) R st4:=by
      intro na out p1 q1 q3 g hl
      obtain⟨na,rfl⟩:∃n,na=n+1:=⟨na - 1,by exact(Nat.sub_add_cancel ‹_›).symm⟩
      have p1':na < a.size:=by assumption
      refine wpS_bind (jJ p2' ?_)
      have g':=g.pushB p2' hl
      by_cases z:(nb == 1)=true
      ·exact bM z (wpS_pure (Rd _ _ _ h4 (g'.firstB (by simpa using z) h1)))
      refine bG z ?_
      have z':2≤nb:=by simp at z;lia
      refine wpS_bind (jJ p1' ?_)
      refine wpS_bind (kw C (k:=at' a na) (base:=0) (n:=nb) (hint:=nb - 1) (h4.kind.trans hk) (by exact Nat.sub_lt ‹_› Nat.one_pos) (by lia) (dA _ p1') dB ?m2 fun k' hk1' hk2' hk3'=>?_)
      case m2=>
       intro i j hij hj e
       simp only[jV,if_true,Nat.zero_add]at e ⊢
       exact KeyOrd.klt_of_kle_of_klt (O:=O) (sQ pb (by exact Nat.le_of_lt ‹_›) (by lia):Le O key (at' b i) (at' b j)) e
      simp only[jV,if_true,Nat.zero_add]at hk2' hk3'
      dsimp -zeta only
      extract_lets
      rename Unit→Nat→Array Keyed→_=>jp2
      have J2:∀(nb':Nat) (out:Array Keyed),nb'≤b.size→2≤nb'→na+1+nb'+(x+1) < a.size+b.size→H (Le O key) T (a.toList.take (na+1)) (b.toList.take nb') out.toList.reverse→(∀y∈b.toList.take nb',Le O key y (at' a na))→wpS (model prog w) A E s (jp2 () nb' out) R st4:=by
       intro nb' out r1 r2 r3 g hl
       refine wpS_bind (jJ p1' ?_)
       have g':=g.pushA p1' hl
       by_cases z:(na == 0)=true
       ·exact bM z (wpS_pure (Rd _ _ _ h4 (g'.doneA (by simpa using z))))
       refine bG z ?_
       have z':1≤na:=by simp at z;exact Nat.pos_of_ne_zero ‹_›
       refine j9 (fun _=>?_) (fun _=>?_)
       ·exact wpS_pure (Rn _ _ _ _ _ _ _ h4 (by exact Nat.le_of_lt ‹_›) z' r1 r2 (by lia) g')
       ·exact wpS_pure (Ry _ _ _ _ _ _ _ h4 (by exact Nat.le_of_lt ‹_›) z' r1 r2 (by lia) g')
      clear_value jp2
      have tl:∀y∈b.toList.take k',Le O key y (at' a na):=fun y hy=>by
       obtain⟨j,r1,r2,rfl⟩:=uf hy
       exact Le.of (hk2' j r1)
      by_cases z2:nb - k' > 0
      ·refine bM z2 ?_
       have g2:=g'.blkB hk1' fun j j1 j2 j3 y hy=>(yb pa p1' hy).trans (hk3' j j1 j2)
       by_cases z3:(k' == 1)=true
       ·exact bM z3 (wpS_pure (Rd _ _ _ h4 (g2.firstB (by simpa using z3) h1)))
       refine bG z3 ?_
       by_cases z4:(k' == 0)=true
       ·exact bM z4 (wpS_pure (Rd _ _ _ h4 (g2.doneB (by simpa using z4))))
       ·exact bG z4 (J2 k' _ (by lia) (by simp at z3 z4;lia) (by lia) g2 tl)
      ·have k0:k'=nb:=by exact Nat.le_antisymm ‹_› (Nat.sub_eq_zero_iff_le.mp (Nat.eq_zero_of_not_pos ‹_›))
       subst k0
       exact bG z2 (J2 k' _ (by exact Nat.le_of_lt ‹_›) z' (by lia) g' tl)
     clear_value jp1
     have tl:∀y∈a.toList.take k,Le O key y (at' b nb):=fun y hy=>by
      obtain⟨j,r1,r2,rfl⟩:=uf hy
      exact hk2 j r1
     by_cases z2:na - k > 0
     ·refine bM z2 ?_
      have g2:=g.blkA hk1 fun j j1 j2 j3 y hy=>(yb pb p2' hy).trans (Le.of (hk3 j j1 j2))
      by_cases z3:(k == 0)=true
      ·exact bM z3 (wpS_pure (Rd _ _ _ h4 (g2.doneA (by simpa using z3))))
      ·exact bG z3 (J1 k _ (by exact Nat.le_trans ‹_› ‹_›) (by simp at z3;exact Nat.pos_of_ne_zero ‹_›) (by lia) g2 tl)
     ·have k0:k=na:=by exact Nat.le_antisymm ‹_› (Nat.sub_eq_zero_iff_le.mp (Nat.eq_zero_of_not_pos ‹_›))
      subst k0
      exact bG z2 (J1 k _ p1 q1 q3 g tl)
end
end NhLS
namespace NhLS
set_option autoImplicit false
open PySem PyProof.Rows
def So(O:KeyOrd)(key:Keyed→O.α)(a:Array Keyed)(lo hi:Nat):Prop:=∀i j,lo≤i→i < j→j < hi→Le O key (at' a i) (at' a j)
section
variable {O:KeyOrd} {key:Keyed→O.α} {a b:Array Keyed} {i j lo hi p:Nat} {x y z:Keyed}
theorem So.le(h:So O key a lo hi)(h1:lo≤i)(h2:i≤j)(h3:j < hi):Le O key (at' a i) (at' a j):=by
 by_cases e:i=j
 ·rw[e];exact Le.refl _
 ·exact h i j h1 (by exact Nat.lt_of_le_of_ne ‹_› ‹_›) h3
theorem So.ext(h:So O key a lo hi)(q:∀j,lo≤j→j < hi→at' b j=at' a j):So O key b lo hi:=fun i j h1 h2 h3=>by
 rw[q i (by assumption) (by lia),q j (by lia) h3]
 exact h i j h1 h2 h3
theorem vq(h1:i+j < hi)(h2:hi≤a.size):at' (a.extract i hi) j=at' a (i+j):=by
 simp[at',Array.getD,show j < min hi a.size - i by lia,show i+j < a.size by exact Nat.lt_of_lt_of_le ‹_› ‹_›]
theorem En(h1:lo≤hi)(h2:hi≤a.size):(a.extract lo hi).size=hi - lo:=by
 rw[Array.size_extract]
 lia
theorem Eo(h:So O key a lo hi)(h2:hi≤a.size):(a.extract lo hi).toList.Pairwise (Le O key):=by
 rw[List.pairwise_iff_getElem]
 intro i j hi' hj hij
 rw[Array.length_toList,Array.size_extract]at hi' hj
 rw[kz,kz,vq (by lia) h2,vq (by lia) h2]
 exact h _ _ (by exact Nat.le_add_right _ _) (by exact Nat.add_lt_add_left ‹_› _) (by lia)
theorem FK(h:i < a.size)(j:Nat):at' (a.setIfInBounds i x) j=if i=j then x else at' a j:=by
 unfold at'
 rw[Array.getD_eq_getD_getElem?,Array.getD_eq_getD_getElem?,Array.getElem?_setIfInBounds]
 by_cases e:i=j
 ·subst e;simp[h]
 ·simp[e]
def wr(a:Array Keyed)(p:Nat)(M:List (Keyed×Nat)):Array Keyed:=M.foldl (fun a q=>a.setIfInBounds (p+q.2) q.1) a
theorem yd(p:Nat):∀(M:List (Keyed×Nat)) (a:Array Keyed),(wr a p M).size=a.size
 |[],a=>rfl
 |q::M,a=>(yd p M _).trans (Array.size_setIfInBounds ..)
theorem BA(p:Nat):∀(M:List Keyed) (n:Nat) (a:Array Keyed),p+n+M.length≤a.size→∀j,at' (wr a p (M.zipIdx n)) j=if p+n≤j∧j < p+n+M.length then M.getD (j - (p+n)) Do else at' a j
 |[],n,a,h,j=>by
  rw[if_neg (by simp)]
  rfl
 |x::M,n,a,h,j=>by
  rw[List.length_cons]at h
  show at' (wr (a.setIfInBounds (p+n) x) p (M.zipIdx (n+1))) j=_
  rw[BA p M (n+1) _ (by rw[Array.size_setIfInBounds];lia),FK (by lia),List.length_cons]
  by_cases e:p+n=j
  ·subst e
   rw[if_neg (by lia),if_pos rfl,if_pos (by lia),Nat.sub_self]
   rfl
  ·by_cases q:p+(n+1)≤j∧j < p+(n+1)+M.length
   ·rw[if_pos q,if_pos (by lia),show j - (p+n)=(j - (p+(n+1)))+1 by lia]
    rfl
   ·rw[if_neg q,if_neg e,if_neg (by lia)]
theorem Dp(M:List Keyed)(a:Array Keyed)(h:p+M.length≤a.size):(wr a p M.zipIdx).toList=a.toList.take p++M++a.toList.drop (p+M.length):=by
 have hs:=yd p M.zipIdx a
 refine List.ext_getElem (by simp[hs];lia) fun i h1 h2=>?_
 rw[kz,show M.zipIdx=M.zipIdx 0 from rfl,BA p M 0 a (by assumption)]
 have h1':i < a.size:=by simpa[hs]using h1
 by_cases c1:i < p
 ·rw[if_neg (by lia),List.getElem_append_left (by simp;lia),List.getElem_append_left (by simp;lia),List.getElem_take,kz]
 ·by_cases c2:i < p+M.length
  ·rw[if_pos (by lia),List.getElem_append_left (by simp;lia),List.getElem_append_right (by simp;lia)]
   have e:i - (a.toList.take p).length=i - (p+0):=by simp;lia
   simp only[e]
   simp[show i - p < M.length by lia]
  ·rw[if_neg (by exact fun h=>‹¬_› h.2),List.getElem_append_right (by simp;lia),List.getElem_drop,kz]
   congr 1
   simp
   lia
end
section
variable {prog:Program} {w:World} {A:Around} {E:Value→Shared→Prop} {s:Shared} {κ:SortKind} {O:KeyOrd} {key:Keyed→O.α} {dom:Keyed→Prop}
theorem Dq{st st':SortSt}{Q:PUnit→SortSt→Prop}(h:Q ⟨⟩ st'):wpS (model prog w) A E s (set st':StateT SortSt Sem PUnit) Q st:=by
 unfold wpS;rw[StateT.run_set];exact wpAny_pure ⟨rfl,h⟩
theorem zF(C:Cmp prog w A s κ O key dom){a:Array Keyed}{pd:Array (Nat×Nat×Nat)}{g i sa na pw nb pw':Nat}{Q:Bool→SortSt→Prop}(da:∀i,i < a.size→dom (at' a i))(hp1:pd[i]? =some (sa,na,pw))(hp2:pd[i+1]? =some (sa+na,nb,pw'))
  (h1:1≤na) (h2:1≤nb) (hz:sa+na+nb≤a.size) (s1:So O key a sa (sa+na)) (s2:So O key a (sa+na) (sa+na+nb))
  (h:∀b g',b.toList.Perm a.toList→(∀j,j < sa∨sa+na+nb≤j→at' b j=at' a j)→So O key b sa (sa+na+nb)→Q true (SortSt.mk' κ b ((pd.setIfInBounds i (sa,na+nb,pw)).eraseIdxIfInBounds (i+1)) g' none)):
  wpS (model prog w) A E s (mergeAt' i) Q (SortSt.mk' κ a pd g none):=by
 refine wpS_bind (wpS_get ?_)
 simp only[hp1,hp2]
 refine wpS_bind (Dq ?_)
 have b1:sa+na < a.size:=by lia
 refine wpS_bind (jJ b1 ?_)
 refine wpS_bind (kw C (k:=at' a (sa+na)) (arr:=a) (base:=sa) (n:=na) (hint:=0) rfl (by assumption) (by exact Nat.le_of_lt ‹_›) (da _ b1) da ?m1 fun k hk1 hk2 hk3=>?_)
 case m1=>
  intro i j hij hj e
  simp only[jV,Bool.false_eq_true,if_false,Bool.not_eq_true']at e ⊢
  exact(s1.le (by exact Nat.le_add_right _ _) (by lia) (by exact Nat.add_lt_add_left ‹_› _):Le O key (at' a (sa+i)) (at' a (sa+j))).trans e
 simp only[jV,Bool.false_eq_true,if_false,Bool.not_eq_true',Bool.not_eq_false']at hk2 hk3
 have lo:∀i,sa≤i→i < sa+k→∀j,sa+na≤j→j < sa+na+nb→Le O key (at' a i) (at' a j):=fun i r1 r2 j r3 r4=>by
  have:=hk2 (i - sa) (by exact Nat.sub_lt_left_of_lt_add ‹_› ‹_›)
  rw[show sa+(i - sa)=i by exact Nat.add_sub_of_le ‹_›]at this
  exact Le.trans this (s2.le (by(solve_by_elim (maxDepth:=3) only[*,Nat.le_trans,Nat.lt_of_lt_of_le,Nat.lt_of_le_of_lt,Nat.le_of_lt,Nat.add_le_add_left,Nat.add_lt_add_left,Nat.le_add_right,Nat.lt_of_succ_lt])) r3 r4)
 by_cases z:(na - k == 0)=true
 ·refine bM z (wpS_pure (h a g (List.Perm.refl _) (fun _ _=>rfl) fun i j r1 r2 r3=>?_))
  have z':k=na:=by simp at z;lia
  by_cases c:j < sa+na
  ·exact s1 i j r1 r2 c
  ·by_cases c':i < sa+na
   ·exact lo i r1 (by lia) j (by exact Nat.le_of_not_lt ‹_›) r3
   ·exact s2 i j (by exact Nat.le_of_not_lt ‹_›) r2 r3
 refine bG z ?_
 have z':k < na:=by simp at z;lia
 have b2:sa+na - 1 < a.size:=by exact Nat.lt_of_le_of_lt (Nat.sub_le _ _) ‹_›
 rw[show sa+k+(na - k) - 1=sa+na - 1 by lia]
 refine wpS_bind (jJ b2 ?_)
 refine wpS_bind (kw C (k:=at' a (sa+na - 1)) (arr:=a) (base:=sa+na) (n:=nb) (hint:=nb - 1) rfl (by exact Nat.sub_lt ‹_› Nat.one_pos) (by assumption) (da _ b2) da ?m2 fun m hm1 hm2 hm3=>?_)
 case m2=>
  intro i j hij hj e
  simp only[jV,if_true]at e ⊢
  exact KeyOrd.klt_of_kle_of_klt (O:=O) (s2.le (by exact Nat.le_add_right _ _) (by lia) (by exact Nat.add_lt_add_left ‹_› _):Le O key (at' a (sa+na+i)) (at' a (sa+na+j))) e
 simp only[jV,if_true]at hm2 hm3
 have up:∀j,sa+na+m≤j→j < sa+na+nb→∀i,sa≤i→i < sa+na→Le O key (at' a i) (at' a j):=fun j r3 r4 i r1 r2=>by
  have:=hm3 (j - (sa+na)) (by exact Nat.le_sub_of_add_le' ‹_›) (by lia)
  rw[show sa+na+(j - (sa+na))=j by exact Nat.add_sub_of_le (Nat.le_trans (Nat.le_add_right _ _) ‹_›)]at this
  exact(s1.le r1 (by lia) (by lia):Le O key (at' a i) (at' a (sa+na - 1))).trans this
 by_cases y:(m == 0)=true
 ·refine bM y (wpS_pure (h a g (List.Perm.refl _) (fun _ _=>rfl) fun i j r1 r2 r3=>?_))
  have y':m=0:=by simpa using y
  by_cases c:j < sa+na
  ·exact s1 i j r1 r2 c
  ·by_cases c':i < sa+na
   ·exact up j (by lia) r3 i r1 c'
   ·exact s2 i j (by exact Nat.le_of_not_lt ‹_›) r2 r3
 refine bG y ?_
 have y':0 < m:=by simp at y;exact Nat.pos_of_ne_zero ‹_›
 have zx:(a.extract (sa+k) (sa+na)).size=na - k:=by rw[En (by exact Nat.add_le_add_left ‹_› _) (by exact Nat.le_of_lt ‹_›)];lia
 have zy:(a.extract (sa+na) (sa+na+m)).size=m:=by rw[En (by exact Nat.le_add_right _ _) (by lia)];lia
 have mx:∀x∈(a.extract (sa+k) (sa+na)).toList,∃t,sa+k≤t∧t < sa+na∧x=at' a t:=fun x hx=>by
  obtain⟨t,t1,t2,t3,t4⟩:=uh hx
  exact⟨t,t1,t2,t4⟩
 have my:∀x∈(a.extract (sa+na) (sa+na+m)).toList,∃t,sa+na≤t∧t < sa+na+m∧x=at' a t:=fun x hx=>by
  obtain⟨t,t1,t2,t3,t4⟩:=uh hx
  exact⟨t,t1,t2,t4⟩
 have dx:∀x∈(a.extract (sa+k) (sa+na)).toList,dom x:=fun x hx=>by obtain⟨t,t1,t2,rfl⟩:=mx x hx;exact da _ (by lia)
 have dy:∀x∈(a.extract (sa+na) (sa+na+m)).toList,dom x:=fun x hx=>by obtain⟨t,t1,t2,rfl⟩:=my x hx;exact da _ (by lia)
 have px:=Eo (hi:=sa+na) (lo:=sa+k) (a:=a) (fun i j r1 r2 r3=>s1 i j (by exact Nat.le_trans (Nat.le_add_right _ _) ‹_›) r2 r3) (by exact Nat.le_of_lt ‹_›)
 have py:=Eo (hi:=sa+na+m) (lo:=sa+na) (a:=a) (fun i j r1 r2 r3=>s2 i j (by assumption) r2 (by lia)) (by lia)
 have fx:at' (a.extract (sa+k) (sa+na)) 0=at' a (sa+k):=vq (by exact Nat.add_lt_add_left ‹_› _) (by exact Nat.le_of_lt ‹_›)
 have lx:at' (a.extract (sa+k) (sa+na)) ((a.extract (sa+k) (sa+na)).size - 1)=at' a (sa+na - 1):=by
  rw[zx,vq (by lia) (by exact Nat.le_of_lt ‹_›)]
  congr 1
  lia
 have fy:at' (a.extract (sa+na) (sa+na+m)) 0=at' a (sa+na):=vq (by exact Nat.add_lt_add_left ‹_› _) (by lia)
 have h0:O.blt (key (at' a (sa+na))) (key (at' a (sa+k)))=true:=hk3 k (by exact Nat.le_refl _) z'
 have yl:∀y∈(a.extract (sa+na) (sa+na+m)).toList,Le O key y (at' a (sa+na - 1)):=fun y hy=>by
  obtain⟨t,t1,t2,rfl⟩:=my y hy
  have:=hm2 (t - (sa+na)) (by exact Nat.sub_lt_left_of_lt_add ‹_› ‹_›)
  rw[show sa+na+(t - (sa+na))=t by exact Nat.add_sub_of_le ‹_›]at this
  exact Le.of this
 have xf:∀y∈(a.extract (sa+k) (sa+na)).toList,Le O key (at' a (sa+na)) y:=fun y hy=>by
  obtain⟨t,t1,t2,rfl⟩:=mx y hy
  exact(Le.of h0).trans (s1.le (by exact Nat.le_add_right _ _) t1 t2)
 have fin:∀(r:Array Keyed) (g':Nat),j8 (Le O key) ((a.extract (sa+k) (sa+na)).toList++(a.extract (sa+na) (sa+na+m)).toList) r.toList→
   Q true (SortSt.mk' κ (wr a (sa+k) r.toList.zipIdx) ((pd.setIfInBounds i (sa,na+nb,pw)).eraseIdxIfInBounds (i+1)) g' none):=by
  intro r g' ⟨gp,gs⟩
  have rl:r.toList.length=na - k+m:=by rw[gp.length_eq,List.length_append,Array.length_toList,Array.length_toList,zx,zy]
  have at1:=BA (sa+k) r.toList 0 a (by lia)
  have rm:∀x∈r.toList,∃t,sa+k≤t∧t < sa+na+m∧x=at' a t:=fun x hx=>by
   rcases List.mem_append.mp (gp.mem_iff.mp hx)with hx |hx
   ·obtain⟨t,t1,t2,e⟩:=mx x hx
    exact⟨t,t1,by exact Nat.lt_add_right _ ‹_›,e⟩
   ·obtain⟨t,t1,t2,e⟩:=my x hx
    exact⟨t,by lia,t2,e⟩
  have rg:∀n,n < r.toList.length→r.toList.getD n Do=at' r n:=fun n hn=>by
   have hn':n < r.size:=by simpa using hn
   rw[←kz hn]
   simp[hn']
  have rt:∀n,n < r.toList.length→∃t,sa+k≤t∧t < sa+na+m∧at' r n=at' a t:=fun n hn=>rm _ (by rw[←kz hn];exact List.getElem_mem _)
  refine h _ g' ?_ (fun j hj=>?_) fun i j r1 r2 r3=>?_
  ·rw[Dp _ _ (by lia)]
   have ea:a.toList=a.toList.take (sa+k)++((a.extract (sa+k) (sa+na)).toList++(a.extract (sa+na) (sa+na+m)).toList)++a.toList.drop (sa+k+r.toList.length):=by
    rw[←List.append_assoc,←ug (by exact Nat.add_le_add_left ‹_› _),←ug (by exact Nat.le_add_right _ _),rl,show sa+k+(na - k+m)=sa+na+m by lia,List.take_append_drop]
   refine List.Perm.trans ?_ (List.Perm.of_eq ea.symm)
   exact List.Perm.append_right _ (List.Perm.append_left _ gp)
  ·show at' (wr a (sa+k) (r.toList.zipIdx 0)) j=_
   rw[at1,if_neg (by lia)]
  ·show Le O key (at' (wr a (sa+k) (r.toList.zipIdx 0)) i) (at' (wr a (sa+k) (r.toList.zipIdx 0)) j)
   rw[at1,at1]
   by_cases ci:i < sa+k
   ·rw[if_neg (by lia)]
    by_cases cj:j < sa+na+m
    ·by_cases cj':j < sa+k
     ·rw[if_neg (by lia)]
      exact s1 i j r1 r2 (by lia)
     ·rw[if_pos (by lia),rg _ (by lia)]
      obtain⟨t,t1,t2,e⟩:=rt (j - (sa+k+0)) (by lia)
      rw[e]
      by_cases ct:t < sa+na
      ·exact s1 i t r1 (by exact Nat.lt_of_lt_of_le ‹_› ‹_›) ct
      ·exact lo i r1 ci t (by exact Nat.le_of_not_lt ‹_›) (by lia)
    ·rw[if_neg (by lia)]
     exact lo i r1 ci j (by lia) r3
   ·by_cases ci':i < sa+na+m
    ·rw[if_pos (by lia),rg _ (by lia)]
     by_cases cj:j < sa+na+m
     ·rw[if_pos (by lia),rg _ (by lia)]
      have:=List.pairwise_iff_getElem.mp gs (i - (sa+k+0)) (j - (sa+k+0)) (by lia) (by lia) (by lia)
      rw[kz,kz]at this
      exact this
     ·rw[if_neg (by lia)]
      obtain⟨t,t1,t2,e⟩:=rt (i - (sa+k+0)) (by lia)
      rw[e]
      by_cases ct:t < sa+na
      ·exact up j (by exact Nat.le_of_not_lt ‹_›) r3 t (by exact Nat.le_trans (Nat.le_add_right _ _) ‹_›) ct
      ·exact s2 t j (by exact Nat.le_of_not_lt ‹_›) (by lia) r3
    ·rw[if_neg (by lia),if_neg (by lia)]
     exact s2 i j (by lia) r2 r3
 refine j9 (fun _=>?_) (fun _=>?_)
 ·refine wpS_bind (zD C rfl dx dy (by lia) (by lia) px py (by rw[fx,fy];exact h0) (by rw[lx];exact yl) fun r st' hs hg=>?_)
  obtain⟨g',rfl⟩:=hs
  exact wpS_bind (wpS_modify (wpS_bind (wpS_get (wpS_pure (fin r g' hg)))))
 ·refine wpS_bind (zE C rfl dx dy (by lia) (by lia) px py (by rw[lx];exact yl) (by rw[fy];exact xf) fun r st' hs hg=>?_)
  obtain⟨g',rfl⟩:=hs
  exact wpS_bind (wpS_modify (wpS_bind (wpS_get (wpS_pure (fin r g' hg)))))
end
end NhLS
namespace NhLS
set_option autoImplicit false
open PySem PyProof.Rows
structure Sx (a b:Array Keyed) (lo hi:Nat):Prop where
 perm:b.toList.Perm a.toList
 out:∀j,j < lo∨hi≤j→at' b j=at' a j
def Dn(O:KeyOrd)(key:Keyed→O.α)(a:Array Keyed)(lo hi:Nat):Prop:=∀i j,lo≤i→i < j→j < hi→Le O key (at' a j) (at' a i)
def Eqs(O:KeyOrd)(key:Keyed→O.α)(a:Array Keyed)(e q:Nat):Prop:=∀i,e - (q+1)≤i→i < e→Le O key (at' a i) (at' a (e - 1))∧Le O key (at' a (e - 1)) (at' a i)
section
variable {O:KeyOrd} {key:Keyed→O.α} {a b c:Array Keyed} {i j k lo hi n q:Nat}
theorem Sx.refl:Sx a a lo hi:=⟨List.Perm.refl _,fun _ _=>rfl⟩
theorem Sx.trans(h1:Sx a b lo hi)(h2:Sx b c lo hi):Sx a c lo hi:=⟨h2.perm.trans h1.perm,fun j hj=>(h2.out j hj).trans (h1.out j hj)⟩
theorem Sx.size(h:Sx a b lo hi):b.size=a.size:=by have:=h.perm.length_eq;simpa using this
theorem Sx.dom{dom:Keyed→Prop}(h:Sx a b lo hi)(da:∀x∈a.toList,dom x):∀x∈b.toList,dom x:=fun x hx=>da x (h.perm.mem_iff.mp hx)
theorem Dr(a:Array Keyed)(i:Nat):at' a i=(a[i]?).getD Do:=Array.getD_eq_getD_getElem? ..
theorem kW(hj:j≤a.size)(k:Nat):at' (mirror a i j ((j - i) / 2)) k=if i≤k∧k < j then at' a (i+j - 1 - k)else at' a k:=by
 rw[Dr,getElem?_mirror_all hj]
 split <;> rw[Dr]
theorem wK(hk:k < a.size)(hd:n≤k)(i:Nat):at' (bubble a k n) i=if i=k - n then at' a k else if k - n < i∧i≤k then at' a (i - 1)else at' a i:=by
 rw[Dr,getElem?_bubble hk n hd]
 repeat' split
 all_goals rw[Dr]
theorem Sx.rev(h1:lo≤i)(h2:j≤hi)(h3:j≤a.size):Sx a (mirror a i j ((j - i) / 2)) lo hi:=
 ⟨Array.perm_iff_toList_perm.mp (mirror_perm _ _ _ _),fun k hk=>by rw[kW h3,if_neg (by lia)]⟩
theorem Sx.bub(h1:k < a.size)(h0:n≤k)(h2:lo≤k - n)(h3:k < hi):Sx a (bubble a k n) lo hi:=
 ⟨Array.perm_iff_toList_perm.mp (bubble_perm _ _ _),fun j hj=>by rw[wK h1 h0,if_neg (by lia),if_neg (by lia)]⟩
theorem So.step(h:So O key a lo hi)(hl:lo < hi)(e:Le O key (at' a (hi - 1)) (at' a hi)):So O key a lo (hi+1):=fun i j h1 h2 h3=>by
 by_cases c:j < hi
 ·exact h i j h1 h2 c
 ·rw[show j=hi by lia]
  exact(h.le h1 (by lia) (by lia):Le O key (at' a i) (at' a (hi - 1))).trans e
theorem Dn.le(h:Dn O key a lo hi)(h1:lo≤i)(h2:i≤j)(h3:j < hi):Le O key (at' a j) (at' a i):=by
 by_cases e:i=j
 ·rw[e];exact Le.refl _
 ·exact h i j h1 (by exact Nat.lt_of_le_of_ne ‹_› ‹_›) h3
theorem Dn.step(h:Dn O key a lo hi)(hl:lo < hi)(e:Le O key (at' a hi) (at' a (hi - 1))):Dn O key a lo (hi+1):=fun i j h1 h2 h3=>by
 by_cases c:j < hi
 ·exact h i j h1 h2 c
 ·rw[show j=hi by lia]
  exact Le.trans e (h.le h1 (by lia) (by lia))
theorem Dn.rev(h:Dn O key a lo hi)(e:Eqs O key a hi q)(hz:hi≤a.size)(hq:lo+(q+1)≤hi):Dn O key (mirror a (hi - (q+1)) hi ((hi - (hi - (q+1))) / 2)) lo hi:=fun i j h1 h2 h3=>by
 rw[kW hz,kW hz]
 by_cases c:hi - (q+1)≤i
 ·rw[if_pos (by lia),if_pos (by lia)]
  exact(e _ (by lia) (by lia)).1.trans (e _ (by lia) (by lia)).2
 ·rw[if_neg (show ¬(hi - (q+1)≤i∧i < hi) by exact fun h=>‹¬_› h.1)]
  by_cases c':hi - (q+1)≤j
  ·rw[if_pos (by exact⟨‹_›,‹_›⟩)]
   exact h _ _ h1 (by lia) (by lia)
  ·rw[if_neg (by exact fun h=>‹¬_› h.1)]
   exact h _ _ h1 h2 h3
theorem Dn.flip(h:Dn O key a lo hi)(hz:hi≤a.size):So O key (mirror a lo hi ((hi - lo) / 2)) lo hi:=fun i j h1 h2 h3=>by
 rw[kW hz,kW hz,if_pos (by lia),if_pos (by lia)]
 exact h _ _ (by lia) (by lia) (by lia)
theorem Eqs.one:Eqs O key a (hi+1) 0:=fun i h1 h2=>by
 rw[show i=hi by lia]
 exact⟨Le.refl _,Le.refl _⟩
end
section
variable {prog:Program} {w:World} {A:Around} {E:Value→Shared→Prop} {s:Shared} {κ:SortKind} {O:KeyOrd} {key:Keyed→O.α} {dom:Keyed→Prop} {a:Array Keyed} {pd:Array (Nat×Nat×Nat)} {g:Nat}
theorem oD(C:Cmp prog w A s κ O key dom){i j:Nat}{Q:Option Bool→SortSt→Prop}(da:∀x∈a.toList,dom x)(hi:i < a.size)(hj:j < a.size)(h:Q (some (O.blt (key (at' a i)) (key (at' a j)))) (SortSt.mk' κ a pd g none)):wpS (model prog w) A E s (ltAt' i j) Q (SortSt.mk' κ a pd g none):=
 wpS_bind (wpS_get (wpS_bind (jJ hi (wpS_bind (jJ hj (By C rfl (da _ (nj hi)) (da _ (nj hj)) h))))))
theorem ye{i j:Nat}{Q:Unit→SortSt→Prop}(h:Q () (SortSt.mk' κ (mirror a i j ((j - i) / 2)) pd g none)):wpS (model prog w) A E s (reverseSlice' i j) Q (SortSt.mk' κ a pd g none):=wpS_modify h
theorem FL{k l:Nat}{Q:Unit→SortSt→Prop}(h:Q () (SortSt.mk' κ (bubble a k (k - l)) pd g none)):wpS (model prog w) A E s (moveDown' k l) Q (SortSt.mk' κ a pd g none):=wpS_modify h
theorem Ep{lo n0 nrem:Nat}{β:Type}{body:Nat→Option β×Nat→StateT SortSt Sem (ForInStep (Option β×Nat))}{Q:Option β×Nat→SortSt→Prop}(h1:1≤n0)(h2:n0≤nrem)(hs:So O key a lo (lo+n0))
  (hb:∀x n (R:ForInStep (Option β×Nat)→SortSt→Prop),1≤n→n < nrem→R (if O.blt (key (at' a (lo+n))) (key (at' a (lo+n - 1)))=true then .done (none,n)else .yield (none,n+1)) (SortSt.mk' κ a pd g none)→wpS (model prog w) A E s (body x (none,n)) R (SortSt.mk' κ a pd g none))
  (h:∀n,n0≤n→n≤nrem→So O key a lo (lo+n)→(n < nrem→O.blt (key (at' a (lo+n))) (key (at' a (lo+n - 1)))=true)→Q (none,n) (SortSt.mk' κ a pd g none)):
  wpS (model prog w) A E s (forIn [n0:nrem] (none,n0) body) Q (SortSt.mk' κ a pd g none):=by
 refine wpS_forRange (I:=fun x c st'=>st'=SortSt.mk' κ a pd g none∧c=(none,x)∧n0≤x∧So O key a lo (lo+x)) ?_ ?_ ⟨rfl,rfl,Nat.le_refl _,hs⟩
 ·rintro x c st' q1 q2 ⟨rfl,rfl,q3,q4⟩
  refine hb x x _ (by exact Nat.lt_of_lt_of_le ‹_› ‹_›) q2 ?_
  cases e:O.blt (key (at' a (lo+x))) (key (at' a (lo+x - 1)))with
  |true=>exact h x q3 (by exact Nat.le_of_lt ‹_›) q4 fun _=>e
  |false=>exact⟨rfl,rfl,by(solve_by_elim (maxDepth:=3) only[*,Nat.le_trans,Nat.lt_of_lt_of_le,Nat.lt_of_le_of_lt,Nat.le_of_lt]),q4.step (by lia) e⟩
 ·rintro c st' ⟨rfl,rfl,q3,q4⟩
  rw[show max n0 nrem=nrem by exact Nat.max_eq_right ‹_›]at q4 ⊢
  exact h nrem h2 (Nat.le_refl _) q4 fun z=>absurd z (Nat.lt_irrefl _)
theorem uk(C:Cmp prog w A s κ O key dom){lo n ok:Nat}{Q:Bool→SortSt→Prop}(da:∀x∈a.toList,dom x)(h1:1≤ok)(h2:ok≤n)(hz:lo+n≤a.size)(hs:So O key a lo (lo+ok))
  (h:∀b,Sx a b lo (lo+n)→So O key b lo (lo+n)→Q true (SortSt.mk' κ b pd g none)):wpS (model prog w) A E s (binarySort' lo n ok) Q (SortSt.mk' κ a pd g none):=by
 refine wpS_bind (wpS_mono (wpS_forRange (I:=fun k c st'=>c=(none,())∧∃b,st'=SortSt.mk' κ b pd g none∧Sx a b lo (lo+n)∧So O key b lo (lo+k)) (Q:=fun c st'=>c=(none,())∧∃b,st'=SortSt.mk' κ b pd g none∧Sx a b lo (lo+n)∧So O key b lo (lo+n)) ?s1 ?s2 ⟨rfl,a,rfl,.refl,by rw[show max ok 1=ok by exact Nat.max_eq_left ‹_›];exact hs⟩) ?s3)
 case s3=>
  rintro c st' ⟨rfl,b,rfl,sb,ss⟩
  exact wpS_pure (h b sb ss)
 case s2=>
  rintro c st' ⟨rfl,b,rfl,sb,ss⟩
  rw[show max (max ok 1) n=n by lia]at ss
  exact⟨rfl,b,rfl,sb,ss⟩
 case s1=>
  rintro k c st' k1 k2 ⟨rfl,b,rfl,sb,ss⟩
  have bz:=sb.size
  have ik:lo+k < b.size:=by lia
  refine wpS_bind (wpS_mono (wpS_forRange (I:=fun x c st'=>st'=SortSt.mk' κ b pd g none∧∃l r,c=(none,l,r)∧l≤r∧r≤k∧r+x≤k+l∧(∀i,i < l→Le O key (at' b (lo+i)) (at' b (lo+k)))∧(∀i,r≤i→i < k→Le O key (at' b (lo+k)) (at' b (lo+i))))
   (Q:=fun c st'=>st'=SortSt.mk' κ b pd g none∧∃l,c=(none,l,l)∧l≤k∧(∀i,i < l→Le O key (at' b (lo+i)) (at' b (lo+k)))∧(∀i,l≤i→i < k→Le O key (at' b (lo+k)) (at' b (lo+i)))) ?t1 ?t2 ⟨rfl,0,k,rfl,by exact Nat.zero_le _,by exact Nat.le_refl _,by(solve_by_elim (maxDepth:=3) only[*,Nat.le_trans,Nat.lt_of_lt_of_le,Nat.lt_of_le_of_lt,Nat.le_of_lt,Nat.add_le_add_left,Nat.add_lt_add_left,Nat.le_add_right,Nat.lt_of_succ_lt]),fun i hi=>by lia,fun i h1 h2=>by lia⟩) ?t3)
  case t2=>
   rintro c st' ⟨rfl,l,r,rfl,p1,p2,p3,p4,p5⟩
   have:l=r:=by lia
   subst this
   exact⟨rfl,l,rfl,p2,p4,p5⟩
  case t1=>
   rintro x c st' - x2 ⟨rfl,l,r,rfl,p1,p2,p3,p4,p5⟩
   dsimp only
   refine j9 (fun z=>?_) (fun z=>?_)
   ·have:l=r:=by exact Nat.le_antisymm ‹_› ‹_›
    subst this
    exact wpS_pure ⟨rfl,l,rfl,p2,p4,p5⟩
   ·have im:lo+(l+r) / 2 < b.size:=by lia
    refine wpS_bind (oD C (sb.dom da) ik im ?_)
    cases e:O.blt (key (at' b (lo+k))) (key (at' b (lo+(l+r) / 2)))with
    |true=>exact wpS_pure ⟨rfl,l,(l+r) / 2,rfl,by lia,by lia,by lia,p4,fun i r1 r2=>(Le.of e).trans (ss.le (by exact Nat.le_add_right _ _) (by exact Nat.add_le_add_left ‹_› _) (by exact Nat.add_lt_add_left ‹_› _))⟩
    |false=>exact wpS_pure ⟨rfl,(l+r) / 2+1,r,rfl,by lia,by assumption,by lia,fun i r1=>(ss.le (by exact Nat.le_add_right _ _) (by lia) (by lia):Le O key (at' b (lo+i)) (at' b (lo+(l+r) / 2))).trans e,p5⟩
  case t3=>
   rintro c st' ⟨rfl,l,rfl,p2,p4,p5⟩
   refine wpS_bind (FL (wpS_pure ⟨rfl,_,rfl,sb.trans (Sx.bub (k:=lo+k) (n:=lo+k - (lo+l)) ik (by exact Nat.sub_le _ _) (by lia) (by exact Nat.add_lt_add_left ‹_› _)),fun i j r1 r2 r3=>?_⟩))
   have q4:∀i,lo≤i→i < lo+l→Le O key (at' b i) (at' b (lo+k)):=fun i u1 u2=>by have:=p4 (i - lo) (by exact Nat.sub_lt_left_of_lt_add ‹_› ‹_›);rwa [show lo+(i - lo)=i by exact Nat.add_sub_of_le ‹_›]at this
   have q5:∀i,lo+l≤i→i < lo+k→Le O key (at' b (lo+k)) (at' b i):=fun i u1 u2=>by have:=p5 (i - lo) (by exact Nat.le_sub_of_add_le' ‹_›) (by lia);rwa [show lo+(i - lo)=i by exact Nat.add_sub_of_le (Nat.le_trans (Nat.le_add_right _ _) ‹_›)]at this
   show Le O key (at' (bubble b (lo+k) (lo+k - (lo+l))) i) (at' (bubble b (lo+k) (lo+k - (lo+l))) j)
   rw[wK ik (by exact Nat.sub_le _ _),wK ik (by exact Nat.sub_le _ _),show lo+k - (lo+k - (lo+l))=lo+l by lia]
   repeat' split
   all_goals first
    |(exfalso;lia)
    |exact q4 _ (by assumption) (by(first |exact Nat.lt_of_lt_of_eq ‹_› ‹_› |lia))
    |exact q5 _ (by(first |exact Nat.add_le_add_left ‹_› _ |lia)) (by lia)
    |exact ss _ _ (by(first |assumption |lia)) (by(first |assumption |lia)) (by lia)
theorem wL(C:Cmp prog w A s κ O key dom){lo nrem:Nat}{Q:Option Nat→SortSt→Prop}(da:∀x∈a.toList,dom x)(h1:1≤nrem)(hz:lo+nrem≤a.size)
  (h:∀m b,1≤m→m≤nrem→Sx a b lo (lo+nrem)→So O key b lo (lo+m)→Q (some m) (SortSt.mk' κ b pd g none)):wpS (model prog w) A E s (countRun' lo nrem) Q (SortSt.mk' κ a pd g none):=by
 refine wpS_bind (Ep (O:=O) (key:=key) (a:=a) (lo:=lo) (n0:=1) (nrem:=nrem) (Nat.le_refl _) h1 (fun i j r1 r2 r3=>by lia) (fun x n R n1 n2 hR=>?_) fun n q1 q2 q3 q4=>?_)
 ·refine wpS_bind (oD C da (show lo+n < a.size by lia) (show lo+n - 1 < a.size by lia) ?_)
  cases e:O.blt (key (at' a (lo+n))) (key (at' a (lo+n - 1)))with
  |true=>rw[e]at hR;exact wpS_pure hR
  |false=>rw[e]at hR;exact wpS_pure hR
 dsimp -zeta only
 by_cases z:(n == nrem)=true
 ·exact bM z (wpS_pure (h n a q1 q2 .refl q3))
 refine bG z ?_
 have z':n < nrem:=by simp at z;exact Nat.lt_of_le_of_ne ‹_› ‹_›
 have sn:=q4 z'
 extract_lets
 rename Unit→_=>jp
 have J:∀b,Sx a b lo (lo+nrem)→Dn O key b lo (lo+n+1)→wpS (model prog w) A E s (jp ()) Q (SortSt.mk' κ b pd g none):=by
  intro b sb db
  refine wpS_bind (wpS_lift (wpAny_rule ⟨rfl,?_⟩))
  refine wpS_bind (wpS_mono (wpS_forRange (I:=fun x c st'=>∃b q,st'=SortSt.mk' κ b pd g none∧Sx a b lo (lo+nrem)∧c=(none,x,q)∧q+1≤x∧n+1≤x∧Dn O key b lo (lo+x)∧Eqs O key b (lo+x) q)
   (Q:=fun c st'=>∃b m q,st'=SortSt.mk' κ b pd g none∧Sx a b lo (lo+nrem)∧c=(none,m,q)∧q+1≤m∧m≤nrem∧Dn O key b lo (lo+m)∧Eqs O key b (lo+m) q) ?s1 ?s2 ⟨b,0,rfl,sb,rfl,by exact Nat.lt_succ_of_lt ‹_›,by exact Nat.lt_succ_self _,db,Eqs.one⟩) ?s3)
  case s2=>
   rintro c st' ⟨b,q,rfl,sb,rfl,p1,p2,p3,p4⟩
   rw[show max (n+1) nrem=nrem by exact Nat.max_eq_right ‹_›]at *
   exact⟨b,nrem,q,rfl,sb,rfl,p1,Nat.le_refl _,p3,p4⟩
  case s1=>
   rintro x c st' x1 x2 ⟨b,q,rfl,sb,rfl,p1,p2,p3,p4⟩
   have bz:=sb.size
   have i1:lo+x < b.size:=by lia
   have i2:lo+x - 1 < b.size:=by exact Nat.lt_of_le_of_lt (Nat.sub_le _ _) ‹_›
   refine wpS_bind (oD C (sb.dom da) i1 i2 ?_)
   cases e:O.blt (key (at' b (lo+x))) (key (at' b (lo+x - 1)))with
   |true=>
    dsimp only
    rw[if_pos rfl]
    refine j9 (fun z=>?_) (fun z=>?_)
    ·refine wpS_bind (ye (wpS_pure ⟨_,0,rfl,sb.trans (Sx.rev (by lia) (by lia) (by exact Nat.le_of_lt ‹_›)),rfl,by exact Nat.le_add_left _ _,by exact Nat.lt_succ_of_lt ‹_›,?_,Eqs.one⟩))
     refine(p3.rev p4 (by exact Nat.le_of_lt ‹_›) (by exact Nat.add_lt_add_left ‹_› _)).step (by lia) ?_
     rw[kW (by exact Nat.le_of_lt ‹_›),kW (by exact Nat.le_of_lt ‹_›),if_neg (by lia),if_pos (by lia)]
     exact(Le.of e).trans (p4 _ (by lia) (by lia)).2
    ·exact wpS_pure ⟨b,0,rfl,sb,rfl,by exact Nat.le_add_left _ _,by exact Nat.lt_succ_of_lt ‹_›,p3.step (by lia) (Le.of e),Eqs.one⟩
   |false=>
    dsimp only
    rw[if_neg (by simp)]
    refine wpS_bind (oD C (sb.dom da) i2 i1 ?_)
    cases e':O.blt (key (at' b (lo+x - 1))) (key (at' b (lo+x)))with
    |true=>exact wpS_pure ⟨b,x,q,rfl,sb,rfl,p1,by exact Nat.le_of_lt ‹_›,p3,p4⟩
    |false=>
     refine wpS_pure ⟨b,q+1,rfl,sb,rfl,by exact Nat.succ_lt_succ ‹_›,by exact Nat.lt_succ_of_lt ‹_›,p3.step (by lia) e',fun i r1 r2=>?_⟩
     show Le O key (at' b i) (at' b (lo+x))∧Le O key (at' b (lo+x)) (at' b i)
     by_cases c:i=lo+x
     ·rw[c];exact⟨Le.refl _,Le.refl _⟩
     ·obtain⟨u1,u2⟩:=p4 i (by lia) (by lia)
      exact⟨u1.trans e,Le.trans e' u2⟩
  case s3=>
   rintro c st' ⟨b,m,q,rfl,sb,rfl,p1,p2,p3,p4⟩
   have bz:=sb.size
   dsimp -zeta only
   extract_lets
   rename Unit→_=>jp2
   have J2:∀b,Sx a b lo (lo+nrem)→Dn O key b lo (lo+m)→wpS (model prog w) A E s (jp2 ()) Q (SortSt.mk' κ b pd g none):=by
    intro b sb db
    have bz:=sb.size
    refine wpS_bind (ye ?_)
    have sc:=sb.trans (Sx.rev (a:=b) (i:=lo) (j:=lo+m) (Nat.le_refl lo) (show lo+m≤lo+nrem by exact Nat.add_le_add_left ‹_› _) (by lia))
    have cz:=sc.size
    have ss:=db.flip (by lia)
    revert sc cz ss
    generalize mirror b lo (lo+m) ((lo+m - lo) / 2)=c
    intro sc cz ss
    refine wpS_bind (Ep (O:=O) (key:=key) (a:=c) (lo:=lo) (n0:=m) (nrem:=nrem) (by exact Nat.le_trans (Nat.le_add_left _ _) ‹_›) p2 ss (fun x n R n1 n2 hR=>?_) fun n q1 q2 q3 q4=>?_)
    ·refine wpS_bind (oD C (sc.dom da) (show lo+n < c.size by lia) (show lo+n - 1 < c.size by lia) ?_)
     cases e:O.blt (key (at' c (lo+n))) (key (at' c (lo+n - 1)))with
     |true=>rw[e]at hR;exact wpS_pure hR
     |false=>rw[e]at hR;exact wpS_pure hR
    ·exact wpS_pure (h n c (by lia) q2 sc q3)
   clear_value jp2
   refine j9 (fun z=>?_) (fun z=>?_)
   ·exact wpS_bind (ye (J2 _ (sb.trans (Sx.rev (a:=b) (i:=lo+m - (q+1)) (j:=lo+m) (by lia) (by exact Nat.add_le_add_left ‹_› _) (by lia))) (Dn.rev (hi:=lo+m) (q:=q) p3 p4 (by lia) (by exact Nat.add_lt_add_left ‹_› _))))
   ·exact J2 b sb p3
 clear_value jp
 refine j9 (fun c=>?_) (fun c=>?_)
 ·refine wpS_bind (oD C da (show lo < a.size by lia) (show lo+n - 1 < a.size by lia) ?_)
  cases e:O.blt (key (at' a lo)) (key (at' a (lo+n - 1)))with
  |true=>exact wpS_pure (h n a q1 q2 .refl q3)
  |false=>
   refine wpS_bind (ye (J _ (Sx.rev (Nat.le_refl _) (by exact Nat.add_le_add_left ‹_› _) (by lia)) fun i j r1 r2 r3=>?_))
   have all:∀x y,lo≤x→x < lo+n→lo≤y→y < lo+n→Le O key (at' a x) (at' a y):=fun x y x1 x2 y1 y2=>
    ((q3.le x1 (by lia) (by lia):Le O key (at' a x) (at' a (lo+n - 1))).trans e).trans (q3.le (Nat.le_refl _) y1 y2)
   rw[kW (by lia),kW (by lia),if_pos (show lo≤i∧i < lo+n by lia)]
   by_cases c':j < lo+n
   ·rw[if_pos (by lia)]
    exact all _ _ (by lia) (by lia) (by lia) (by lia)
   ·rw[if_neg (by exact fun h=>‹¬_› h.2),show j=lo+n by lia]
    exact(Le.of sn).trans (all _ _ (by lia) (by lia) (by lia) (by lia))
 ·refine J a .refl fun i j r1 r2 r3=>?_
  rw[show i=lo+n - 1 by lia,show j=lo+n by lia]
  exact Le.of sn
end
end NhLS
namespace NhLS
set_option autoImplicit false
open PySem PyProof.Rows
def Ch(O:KeyOrd)(key:Keyed→O.α)(a:Array Keyed):List (Nat×Nat×Nat)→Nat→Nat→Prop
 |[],p,e=>p=e
 |t::l,p,e=>t.1=p∧1≤t.2.1∧So O key a p (p+t.2.1)∧Ch O key a l (p+t.2.1) e
section
variable {O:KeyOrd} {key:Keyed→O.α} {a b:Array Keyed}
theorem Ch.app:∀{l l':List (Nat×Nat×Nat)} {p e:Nat},Ch O key a (l++l') p e→∃m,Ch O key a l p m∧Ch O key a l' m e
 |[],_,p,e,h=>⟨p,rfl,h⟩
 |t::l,_,p,e,h=>by
  obtain⟨m,h1,h2⟩:=Ch.app h.2.2.2
  exact⟨m,⟨h.1,h.2.1,h.2.2.1,h1⟩,h2⟩
theorem Ch.join:∀{l l':List (Nat×Nat×Nat)} {p m e:Nat},Ch O key a l p m→Ch O key a l' m e→Ch O key a (l++l') p e
 |[],_,p,m,e,h1,h2=>by rw[show p=m from h1];exact h2
 |t::l,_,p,m,e,h1,h2=>⟨h1.1,h1.2.1,h1.2.2.1,Ch.join h1.2.2.2 h2⟩
theorem Ch.le:∀{l:List (Nat×Nat×Nat)} {p e:Nat},Ch O key a l p e→p+l.length≤e
 |[],p,e,h=>by rw[show p=e from h];exact Nat.le_refl _
 |t::l,p,e,h=>by
  have:=Ch.le h.2.2.2
  have:=h.2.1
  rw[List.length_cons]
  lia
theorem Ch.ext:∀{l:List (Nat×Nat×Nat)} {p e:Nat},Ch O key a l p e→(∀j,p≤j→j < e→at' b j=at' a j)→Ch O key b l p e
 |[],p,e,h,_=>h
 |t::l,p,e,h,q=>by
  have:=Ch.le h.2.2.2
  exact⟨h.1,h.2.1,h.2.2.1.ext fun j h1 h2=>q j h1 (by lia),Ch.ext h.2.2.2 fun j h1 h2=>q j (by exact Nat.le_trans (Nat.le_add_right _ _) ‹_›) h2⟩
theorem Ch.map:∀{l l':List (Nat×Nat×Nat)} {p e:Nat},Ch O key a l p e→l'.map (fun t=>(t.1,t.2.1))=l.map (fun t=>(t.1,t.2.1))→Ch O key a l' p e
 |[],l',p,e,h,q=>by
  cases l' with
  |nil=>exact h
  |cons _ _=>simp at q
 |t::l,l',p,e,h,q=>by
  cases l' with
  |nil=>simp at q
  |cons t' l'=>
   simp only[List.map_cons,List.cons.injEq,Prod.mk.injEq]at q
   refine⟨q.1.1.trans h.1,by rw[q.1.2];exact h.2.1,by rw[q.1.2];exact h.2.2.1,?_⟩
   rw[q.1.2]
   exact Ch.map h.2.2.2 q.2
theorem Ds(f:Nat×Nat×Nat→Nat×Nat×Nat)(hf:∀t,(f t).1=t.1∧(f t).2.1=t.2.1)(l:List (Nat×Nat×Nat))(k:Nat):(l.modify k f).map (fun t=>(t.1,t.2.1))=l.map (fun t=>(t.1,t.2.1)):=by
 refine List.ext_getElem? fun j=>?_
 rw[List.getElem?_map,List.getElem?_map,List.getElem?_modify]
 cases l[j]? with
 |none=>rfl
 |some t=>
  by_cases e:k=j
  ·simp[e,hf t]
  ·simp[e]
theorem Ch.one{p n w:Nat}(h:So O key a p (p+n))(h1:1≤n):Ch O key a [(p,n,w)] p (p+n):=⟨rfl,h1,h,rfl⟩
end
section
variable {prog:Program} {w:World} {A:Around} {E:Value→Shared→Prop} {s:Shared} {κ:SortKind} {O:KeyOrd} {key:Keyed→O.α} {dom:Keyed→Prop} {a:Array Keyed} {pd:Array (Nat×Nat×Nat)} {g:Nat}
theorem sR(C:Cmp prog w A s κ O key dom){i lo:Nat}{Q:Bool→SortSt→Prop}(da:∀x∈a.toList,dom x)(hi:i+1 < pd.size)(hz:lo≤a.size)(hc:Ch O key a pd.toList 0 lo)
  (h:∀b pd' g',b.toList.Perm a.toList→(∀j,lo≤j→at' b j=at' a j)→Ch O key b pd'.toList 0 lo→pd'.size+1=pd.size→Q true (SortSt.mk' κ b pd' g' none)):wpS (model prog w) A E s (mergeAt' i) Q (SortSt.mk' κ a pd g none):=by
 have el:pd.toList=pd.toList.take i++(pd[i]::pd[i+1]::pd.toList.drop (i+2)):=by
  conv=>lhs;rw[←List.take_append_drop i pd.toList]
  congr 1
  rw[List.drop_eq_getElem_cons (by simp;exact Nat.lt_of_succ_lt ‹_›),List.drop_eq_getElem_cons (by simp;assumption)]
  simp
 have e1:pd[i]? =some pd[i]:=getElem?_pos ..
 have e2:pd[i+1]? =some pd[i+1]:=getElem?_pos ..
 revert el e1 e2
 generalize pd[i]=t1
 generalize pd[i+1]=t2
 intro el e1 e2
 obtain⟨sa,na,w1⟩:=t1
 obtain⟨sb,nb,w2⟩:=t2
 have li:(pd.toList.take i).length=i:=by simp;lia
 revert el li
 generalize pd.toList.take i=pre
 generalize pd.toList.drop (i+2)=post
 intro el li
 rw[el]at hc
 obtain⟨m,c1,c2⟩:=hc.app
 obtain⟨u1,u2,u3,v1,v2,v3,c3⟩:=c2
 simp only at u1 u2 u3 v1 v2 v3 c3
 subst u1
 subst v1
 have le3:=c3.le
 refine zF C (fun i hi=>da _ (nj hi)) e1 e2 u2 v2 (by lia) u3 v3 fun b g' pb ob sb=>h b _ g' pb (fun j hj=>ob j (.inr (by lia))) ?_ ?_
 ·have:((pd.setIfInBounds i (sa,na+nb,w1)).eraseIdxIfInBounds (i+1)).toList=pre++((sa,na+nb,w1)::post):=by
   have hs:i+1 < (pd.setIfInBounds i (sa,na+nb,w1)).size:=by simpa using hi
   rw[Array.eraseIdxIfInBounds,dif_pos hs,Array.toList_eraseIdx,Array.toList_setIfInBounds,el]
   subst li
   simp[List.eraseIdx_append_of_length_le]
  rw[this]
  refine(c1.ext fun j _ hj=>ob j (.inl hj)).join ⟨rfl,by show 1≤na+nb;exact Nat.lt_add_right _ ‹_›,by rw[←Nat.add_assoc];exact sb,?_⟩
  show Ch O key b post (sa+(na+nb)) lo
  rw[←Nat.add_assoc]
  exact c3.ext fun j hj _=>ob j (.inr hj)
 ·have hs:i+1 < (pd.setIfInBounds i (sa,na+nb,w1)).size:=by simpa using hi
  rw[Array.eraseIdxIfInBounds,dif_pos hs,Array.size_eraseIdx]
  simp
  lia
theorem BB{c:Prop}[Decidable c]{x y:Nat}{Q:Bool→SortSt→Prop}{st:SortSt}(h:∀i,i=x∨i=y→wpS (model prog w) A E s (mergeAt' i) Q st):wpS (model prog w) A E s (mergeAt' (if c then x else y)) Q st:=by
 split
 ·exact h _ (.inl rfl)
 ·exact h _ (.inr rfl)
theorem qM(C:Cmp prog w A s κ O key dom){Q:Unit→SortSt→Prop}(da:∀x∈a.toList,dom x)(h:∀b pd' g',b.toList.Perm a.toList→So O key b 0 a.size→Q () (SortSt.mk' κ b pd' g' none)):wpS (model prog w) A E s sortRuns' Q (SortSt.mk' κ a #[] g none):=by
 refine wpS_bind (wpS_get ?_)
 refine wpS_bind (wpS_mono (wpS_forRange (I:=fun x c st'=>∃b lo pd g,st'=SortSt.mk' κ b pd g none∧b.toList.Perm a.toList∧c=(none,lo)∧lo≤a.size∧(x≤lo∨lo=a.size)∧Ch O key b pd.toList 0 lo)
  (Q:=fun c st'=>∃b pd g,st'=SortSt.mk' κ b pd g none∧b.toList.Perm a.toList∧c=(none,a.size)∧Ch O key b pd.toList 0 a.size) ?s1 ?s2 ⟨a,0,#[],g,rfl,List.Perm.refl _,rfl,by exact Nat.zero_le _,by(solve_by_elim (maxDepth:=3) only[*,Nat.le_trans,Nat.lt_of_lt_of_le,Nat.lt_of_le_of_lt,Nat.le_of_lt]),rfl⟩) ?s3)
 case s2=>
  rintro c st' ⟨b,lo,pd,g,rfl,p1,rfl,p2,p3,p4⟩
  have:lo=a.size:=by
   rcases p3 with p3 |p3
   ·have p3':max 0 a.size≤lo:=p3
    exact Nat.le_antisymm ‹_› ‹_›
   ·exact p3
  subst this
  exact⟨b,pd,g,rfl,p1,rfl,p4⟩
 case s1=>
  rintro x c st' - x2 ⟨b,lo,pd,g,rfl,p1,rfl,p2,p3,p4⟩
  have bz:b.size=a.size:=by have:=p1.length_eq;simpa using this
  refine FJ fun R hR=>?_
  have Rd:∀b pd g,b.toList.Perm a.toList→Ch O key b pd.toList 0 a.size→R (.done (none,a.size)) (SortSt.mk' κ b pd g none):=fun b pd g q1 q2=>by rw[hR];exact⟨b,pd,g,rfl,q1,rfl,q2⟩
  have Ry:∀b lo pd g,b.toList.Perm a.toList→lo≤a.size→(x+1≤lo∨lo=a.size)→Ch O key b pd.toList 0 lo→R (.yield (none,lo)) (SortSt.mk' κ b pd g none):=fun b lo pd g q1 q2 q3 q4=>by rw[hR];exact⟨b,lo,pd,g,rfl,q1,rfl,q2,q3,q4⟩
  clear hR
  dsimp -zeta only
  extract_lets
  refine j9 (fun z=>?_) (fun z=>?_)
  ·have:lo=a.size:=by exact Nat.le_antisymm ‹_› ‹_›
   subst this
   exact wpS_pure (Rd b pd g p1 p4)
  have z':lo < a.size:=by exact Nat.lt_of_not_le ‹_›
  refine wpS_bind (wL C (fun x hx=>da x (p1.mem_iff.mp hx)) (lo:=lo) (nrem:=a.size - lo) (by exact Nat.sub_pos_of_lt ‹_›) (by lia) fun n c n1 n2 sc ss=>?_)
  dsimp -zeta only
  extract_lets
  rename Unit→Nat→_=>jp
  have J:∀(n:Nat) (c:Array Keyed),1≤n→n≤a.size - lo→Sx b c lo (lo+(a.size - lo))→So O key c lo (lo+n)→wpS (model prog w) A E s (jp () n) R (SortSt.mk' κ c pd g none):=by
   intro n c n1 n2 sc ss
   have cp:c.toList.Perm a.toList:=sc.perm.trans p1
   have ch:Ch O key c pd.toList 0 lo:=p4.ext fun j _ hj=>sc.out j (.inl hj)
   refine wpS_bind (wpS_get ?_)
   dsimp -zeta only
   extract_lets
   rename Unit→_=>jq
   have K:∀c pd g,c.toList.Perm a.toList→Ch O key c pd.toList 0 lo→So O key c lo (lo+n)→wpS (model prog w) A E s (jq ()) R (SortSt.mk' κ c pd g none):=by
    intro c pd g cp ch ss
    refine wpS_bind (wpS_modify (wpS_pure (Ry c (lo+n) (pd.push (lo,n,0)) g cp (by lia) (by lia) ?_)))
    rw[Array.toList_push]
    exact ch.join (Ch.one ss n1)
   clear_value jq
   cases eb:pd.back? with
   |none=>exact K c pd g cp ch ss
   |some t=>
    dsimp -zeta only
    refine wpS_bind (wpS_mono (wpS_forRange (I:=fun x r st'=>r=(none,())∧∃c pd g,st'=SortSt.mk' κ c pd g none∧c.toList.Perm a.toList∧Ch O key c pd.toList 0 lo∧So O key c lo (lo+n))
     (Q:=fun r st'=>r=(none,())∧∃c pd g,st'=SortSt.mk' κ c pd g none∧c.toList.Perm a.toList∧Ch O key c pd.toList 0 lo∧So O key c lo (lo+n)) ?t1 (fun _ _ q=>q) ⟨rfl,c,pd,g,rfl,cp,ch,ss⟩) ?t3)
    case t3=>
     rintro r st' ⟨rfl,c,pd,g,rfl,cp,ch,ss⟩
     refine wpS_bind (wpS_modify (K c _ g cp (ch.map ?_) ss))
     rw[Array.toList_modify]
     refine Ds _ ?_ _ _
     exact fun _=>⟨rfl,rfl⟩
    case t1=>
     rintro y r st' - - ⟨rfl,c,pd,g,rfl,cp,ch,ss⟩
     refine wpS_bind (wpS_get ?_)
     dsimp only
     by_cases pz:pd.size > 1
     ·rw[if_pos pz,getElem?_pos pd (pd.size - 2) (by lia)]
      refine j9 (fun _=>?_) (fun _=>?_)
      ·exact wpS_pure ⟨rfl,c,pd,g,rfl,cp,ch,ss⟩
      ·have cz:c.size=a.size:=by have:=cp.length_eq;simpa using this
       refine wpS_bind (sR C (fun x hx=>da x (cp.mem_iff.mp hx)) (i:=pd.size - 2) (lo:=lo) (by lia) (by lia) ch fun d pd' g' dp od dc _=>?_)
       exact wpS_pure ⟨rfl,d,pd',g',rfl,dp.trans cp,dc,ss.ext fun j j1 _=>od j j1⟩
     ·rw[if_neg pz]
      exact wpS_pure ⟨rfl,c,pd,g,rfl,cp,ch,ss⟩
  clear_value jp
  refine j9 (fun y=>?_) (fun y=>?_)
  ·refine wpS_bind (wpS_lift (wpAny_rule ⟨rfl,?_⟩))
   have cz:=sc.size
   refine wpS_bind (uk C (a:=c) (lo:=lo) (n:=min (a.size - lo) (minRun' a.size a.size 0)) (ok:=n) (fun x hx=>da x (p1.mem_iff.mp (sc.perm.mem_iff.mp hx))) n1 (by have y':n < minRun' a.size a.size 0:=y;lia) (by lia) ss fun d sd ds=>?_)
   refine bG (by simp) ?_
   exact J _ d (by have y':n < minRun' a.size a.size 0:=y;lia) (by lia) (sc.trans ⟨sd.perm,fun j hj=>sd.out j (by lia)⟩) ds
  ·exact J n c n1 n2 sc ss
 case s3=>
  rintro c st' ⟨b,pd,g,rfl,p1,rfl,p2⟩
  refine wpS_bind (wpS_mono (wpS_forRange (I:=fun x r st'=>r=(none,())∧∃c pd g,st'=SortSt.mk' κ c pd g none∧c.toList.Perm a.toList∧Ch O key c pd.toList 0 a.size∧(pd.size+x≤a.size∨pd.size≤1))
   (Q:=fun r st'=>r=(none,())∧∃c pd g,st'=SortSt.mk' κ c pd g none∧c.toList.Perm a.toList∧Ch O key c pd.toList 0 a.size∧pd.size≤1) ?t1 ?t2 ⟨rfl,b,pd,g,rfl,p1,p2,.inl (by have:=p2.le;simp at this;assumption)⟩) ?t3)
  case t2=>
   rintro r st' ⟨rfl,c,pd,g,rfl,cp,ch,hz⟩
   refine⟨rfl,c,pd,g,rfl,cp,ch,?_⟩
   rcases hz with hz |hz
   ·have hz':pd.size+max 0 a.size≤a.size:=hz
    lia
   ·exact hz
  case t1=>
   rintro y r st' - - ⟨rfl,c,pd,g,rfl,cp,ch,hz⟩
   refine wpS_bind (wpS_get ?_)
   refine j9 (fun z=>?_) (fun z=>?_)
   ·exact wpS_pure ⟨rfl,c,pd,g,rfl,cp,ch,z⟩
   ·have z':1 < pd.size:=Nat.lt_of_not_le z
    have cz:c.size=a.size:=by have:=cp.length_eq;simpa using this
    extract_lets
    refine wpS_bind (BB fun i hi=>?_)
    refine sR C (fun x hx=>da x (cp.mem_iff.mp hx)) (i:=i) (lo:=a.size) ?_ (by exact Nat.le_of_eq (Eq.symm ‹_›)) ch fun d pd' g' dp od dc dz=>?_
    ·rcases hi with rfl |rfl
     ·show pd.size - 2 - 1+1 < pd.size
      lia
     ·show pd.size - 2+1 < pd.size
      lia
    ·exact wpS_pure ⟨rfl,d,pd',g',rfl,dp.trans cp,dc,by lia⟩
  case t3=>
   rintro r st' ⟨rfl,c,pd,g,rfl,cp,ch,hz⟩
   refine wpS_pure (h c pd g cp ?_)
   obtain⟨l⟩:=pd
   match l,hz,ch with
   |[],_,ch=>
    have:0=a.size:=ch
    rw[←this]
    exact fun i j _ _ q=>by lia
   |[t],_,ch=>
    obtain⟨_,_,s1,e⟩:=ch
    have e':0+t.2.1=a.size:=e
    rw[e']at s1
    exact s1
   |_::_::_,hz,_=>simp at hz
end
end NhLS
namespace NhSG
set_option autoImplicit false
open PySem PyProof PyProof.Rows PySem.W
abbrev Ky:=Int×List Nat
def ji(a b:Ky):Bool:=decide (a.1 < b.1)||(decide (a.1=b.1)&&decide (a.2 < b.2))
theorem ltKy_iff{a b:Ky}:ji a b=true↔a.1 < b.1∨(a.1=b.1∧a.2 < b.2):=by simp[ji]
theorem ul{a b:Ky}:ji a b=false↔¬(a.1 < b.1∨(a.1=b.1∧a.2 < b.2)):=by rw[←ltKy_iff];simp
def rN(hp:Heap):Value→Option Ky
 |.ref a=>(hp.get? a).bind fun o=>match o.data with
  |.seq xs _=>match xs.toList with
   |[.int n _,.str z _]=>some (n,z.cps.toList)
   |_=>none
  |_=>none
 |_=>none
theorem Dt{hp:Heap}{a:Addr}{o:Obj}{xs:Array Value}{k:Nat}{n:Int}{t u:Tok}{z:Str}(ho:hp.get? a=some o)(hd:o.data=.seq xs k)(hx:xs.toList=[.int n t,.str z u]):rN hp (.ref a)=some (n,z.cps.toList):=by
 simp[rN,ho,hd,hx]
theorem yf{hp:Heap}{v:Value}{y:Ky}(h:rN hp v=some y):∃a o xs k t z u,v=.ref a∧hp.get? a=some o∧o.data=.seq xs k∧xs.toList=[.int y.1 t,.str z u]∧y.2=z.cps.toList:=by
 unfold rN at h
 split at h
 ·rename_i a
  obtain⟨o,ho,h⟩:=Option.bind_eq_some_iff.mp h
  split at h
  ·rename_i xs k hd
   split at h
   ·rename_i n t z u hx
    cases h
    exact⟨a,o,xs,k,t,z,u,rfl,ho,hd,hx,rfl⟩
   ·cases h
  ·cases h
 ·cases h
@[reducible] def iG (hp:Heap):PyProof.Rows.KeyKind where
 α:=Ky
 blt:=ji
 irrefl a:=by
  rw[ul]
  rintro(h |h)
  ·omega
  ·exact List.lt_irrefl _ h.2
 trans a b c h1 h2:=by
  rw[ltKy_iff]at *
  rcases h1 with h1 |h1
  ·rcases h2 with h2 |h2
   ·exact .inl (by omega)
   ·exact .inl (by omega)
  ·rcases h2 with h2 |h2
   ·exact .inl (by omega)
   ·exact .inr ⟨by omega,List.lt_trans h1.2 h2.2⟩
 negTrans a b c h:=by
  rw[ltKy_iff]at *
  rw[ltKy_iff]
  by_cases hab:a.1 < b.1
  ·exact .inl (.inl hab)
  ·by_cases hbc:b.1 < c.1
   ·exact .inr (.inl hbc)
   ·have e:a.1=c.1∧a.2 < c.2:=by
     rcases h with h |h
     ·omega
     ·exact h
    by_cases hab2:a.2 < b.2
    ·exact .inl (.inr ⟨by omega,hab2⟩)
    ·exact .inr (.inr ⟨by omega,List.lt_of_le_of_lt (List.not_lt.mp hab2) e.2⟩)
 total a b h1 h2:=by
  rw[ul]at *
  have e:a.1=b.1:=by
   have n1:¬a.1 < b.1:=fun z=>h1 (.inl z)
   have n2:¬b.1 < a.1:=fun z=>h2 (.inl z)
   omega
  have e2:a.2=b.2:=List.le_antisymm (List.not_lt.mp fun z=>h2 (.inr ⟨e.symm,z⟩)) (List.not_lt.mp fun z=>h1 (.inr ⟨e,z⟩))
  exact Prod.ext e e2
 keyOf:=rN hp
 dflt:=(0,[])
def IZ(prog:Program)(w:World)(A:Around)(κ:PyProof.Rows.KeyKind)(kd:SortKind)(s:Shared):Prop:=
 ∀(E:Value→Shared→Prop) (x y:Value) (a b:κ.α) {Q:Bool→Shared→Prop},κ.keyOf x=some a→κ.keyOf y=some b→Q (κ.blt a b) s→wpAny (model prog w) A (keyLt' kd x y) Q E s
theorem Du{prog:Program}{w:World}{A:Around}{s:Shared}:IZ prog w A (iG s.heap) (tuples' true) s:=fun E x y a b Q ha hb hq=>by
 obtain⟨ax,ox,xs,kx,tx,zx,ux,rfl,hox,hdx,hxx,ea⟩:=yf ha
 obtain⟨ay,oy,ys,ky,ty,zy,uy,rfl,hoy,hdy,hyy,eb⟩:=yf hb
 refine kat_lt hox hdx hoy hdy ?_
 have fin:decide (xs.size < ys.size)=false:=by
  have l1:xs.size=2:=by rw[←Array.length_toList,hxx];rfl
  have l2:ys.size=2:=by rw[←Array.length_toList,hyy];rfl
  rw[l1,l2]
  rfl
 rw[hxx,hyy,fin]
 show KatLex prog w A true false Q [(.int a.1 tx,.int b.1 ty),(.str zx ux,.str zy uy)] 0 s
 refine kat_cons (wpAny_eqBool_int (kat_go (fun e1=>kat_yes (kat_cons (wpAny_eqBool_str (kat_go (fun e2=>kat_yes (kat_nil ?_)) (fun e2=>kat_no ?_))))) (fun e1=>kat_no ?_)))
 ·have e1:a.1=b.1:=by simpa using e1
  have e2:zx=zy:=by simpa using e2
  have:ji a b=false:=by
   rw[ul,ea,eb,e2]
   rintro(z |z)
   ·omega
   ·exact List.lt_irrefl _ z.2
  rw[←this]
  exact hq
 ·have e1:a.1=b.1:=by simpa using e1
  show wpAny (model prog w) A (oneLt' false (.str zx ux) (.str zy uy)) Q _ s
  refine kat_one _ _ (PySem.P.lt_str ?_)
  have:ji a b=decide (zx.cps.toList < zy.cps.toList):=by
   unfold ji
   rw[←ea,←eb]
   simp[e1]
  have hq':Q (ji a b) s:=hq
  rw[this]at hq'
  exact hq'
 ·have e1:¬a.1=b.1:=by simpa using e1
  show wpAny (model prog w) A (oneLt' true (.int a.1 tx) (.int b.1 ty)) Q _ s
  refine oneLt_int ?_
  have:ji a b=decide (a.1 < b.1):=by
   unfold ji
   simp[e1]
  have hq':Q (ji a b) s:=hq
  rw[this]at hq'
  exact hq'
end NhSG
namespace NhSG
set_option autoImplicit false
open PySem PyProof PyProof.Rows PySem.W
def Keep(h h':Heap):Prop:=∀b o,h.get? b=some o→h'.get? b=some o
theorem Keep.trans{h h1 h2:Heap}(a:Keep h h1)(b:Keep h1 h2):Keep h h2:=fun c o e=>b c o (a c o e)
def IsKy(hp:Heap)(v:Value)(y:Ky):Prop:=∃c o xs k t z u,v=.ref c∧hp.get? c=some o∧o.cls=.type "tuple"∧o.data=.seq xs k∧xs.toList=[.int y.1 t,.str z u]∧y.2=z.cps.toList
theorem IsKy.keep{h h':Heap}{v:Value}{y:Ky}(a:IsKy h v y)(k:Keep h h'):IsKy h' v y:=by
 obtain⟨c,o,xs,n,t,z,u,e,ho,r⟩:=a
 exact⟨c,o,xs,n,t,z,u,e,k c o ho,r⟩
theorem IsKy.key{h:Heap}{v:Value}{y:Ky}(a:IsKy h v y):rN h v=some y:=by
 obtain⟨c,o,xs,n,t,z,u,rfl,ho,hc,hd,hx,e⟩:=a
 rw[Dt ho hd hx,←e]
def KA(hp:Heap):List Value→List Ky→Prop
 |[],[]=>True
 |v::vs,y::ys=>IsKy hp v y∧KA hp vs ys
 |_,_=>False
theorem KA.keep{h h':Heap}(k:Keep h h'):∀{vs:List Value} {ys:List Ky},KA h vs ys→KA h' vs ys
 |[],[],_=>trivial
 |v::vs,y::ys,a=>⟨a.1.keep k,KA.keep k a.2⟩
 |[],_::_,a=>a.elim
 |_::_,[],a=>a.elim
theorem KA.len{h:Heap}:∀{vs:List Value} {ys:List Ky},KA h vs ys→vs.length=ys.length
 |[],[],_=>rfl
 |v::vs,y::ys,a=>by simp[KA.len a.2]
 |[],_::_,a=>a.elim
 |_::_,[],a=>a.elim
theorem KA.snoc{h:Heap}{v:Value}{y:Ky}(b:IsKy h v y):∀{vs:List Value} {ys:List Ky},KA h vs ys→KA h (vs++[v]) (ys++[y])
 |[],[],_=>⟨b,trivial⟩
 |_::_,_::_,a=>⟨a.1,KA.snoc b a.2⟩
 |[],_::_,a=>a.elim
 |_::_,[],a=>a.elim
theorem KA.tups{h:Heap}:∀{vs:List Value} {ys:List Ky},KA h vs ys→∃fs,KatTups h vs fs∧(∀f∈fs,∃n t,f=.int n t)∧fs.length=vs.length
 |[],[],_=>⟨[],trivial,(fun _ z=>by cases z),rfl⟩
 |v::vs,y::ys,a=>by
  obtain⟨fs,t,hf,hl⟩:=KA.tups a.2
  obtain⟨c,o,xs,n,tk,z,u,rfl,ho,hc,hd,hx,e⟩:=a.1
  refine⟨.int y.1 tk::fs,KatTups.cons ho hc hd ?_ t,fun f hm=>?_,by simp[hl]⟩
  ·rw[←Array.getElem?_toList,hx]
   rfl
  ·rcases List.mem_cons.mp hm with rfl |hm
   ·exact⟨_,_,rfl⟩
   ·exact hf f hm
 |[],_::_,a=>a.elim
 |_::_,[],a=>a.elim
def zG(ys:List Ky)(vs out:List Value):Prop:=∃ps:List (Ky×Value),ps.Perm (ys.zip vs)∧ps.Pairwise (fun p q=>ji q.1 p.1=false)∧out=ps.map (·.2)
@[reducible] def vt (h:Heap) (p:Keyed):Ky:=(rN h p.1).getD (0,[])
theorem Iu{prog:Program}{w:World}{A:Around}{s:Shared}:NhLS.Cmp prog w A s (tuples' true) (iG s.heap).toKeyOrd (vt s.heap) (fun p=>∃y,rN s.heap p.1=some y):=
 ⟨fun E x y Q ⟨a,ha⟩ ⟨b,hb⟩ hq=>by
  have hq':Q (ji (vt s.heap x) (vt s.heap y)) s:=hq
  unfold vt at hq'
  rw[ha,hb]at hq'
  exact Du E x.1 y.1 a b ha hb hq'⟩
theorem KA.zip{h:Heap}:∀{ks:List Value} {ys:List Ky} {vs:List Value},KA h ks ys→(ks.zip vs).map (fun p=>(vt h p,p.2))=ys.zip vs
 |[],[],_,_=>by simp
 |k::ks,y::ys,[],_=>by simp
 |k::ks,y::ys,v::vs,a=>by
  simp only[List.zip_cons_cons,List.map_cons]
  rw[KA.zip a.2]
  congr 1
  show((rN h k).getD (0,[]),v)=(y,v)
  rw[a.1.key]
  rfl
 |[],_::_,_,a=>a.elim
 |_::_,[],_,a=>a.elim
theorem KA.dom{h:Heap}{vs:List Value}:∀{ks:List Value} {ys:List Ky},KA h ks ys→∀p∈ks.zip vs,∃y,rN h p.1=some y:=fun {ks ys} a p hp=>by
 have hk:p.1∈ks:=(List.of_mem_zip hp).1
 clear hp
 induction ks generalizing ys with
 |nil=>cases hk
 |cons k ks ih=>cases ys with
  |nil=>exact a.elim
  |cons y ys=>
   rcases List.mem_cons.mp hk with e |hk
   ·rw[e];exact⟨y,a.1.key⟩
   ·exact ih a.2 hk
theorem FM{h:Heap}{ks:List Value}{ys:List Ky}{vs:List Value}{b:Array Keyed}(hK:KA h ks ys)(hp:b.toList.Perm (ks.zip vs))(hs:NhLS.So (iG h).toKeyOrd (vt h) b 0 b.size):zG ys vs (b.map (·.2)).toList:=by
 refine⟨b.toList.map (fun p=>(vt h p,p.2)),?_,?_,?_⟩
 ·rw[←hK.zip (vs:=vs)]
  exact hp.map _
 ·rw[List.pairwise_map,List.pairwise_iff_getElem]
  intro i j hi hj hij
  rw[NhLS.kz,NhLS.kz]
  exact hs i j (Nat.zero_le _) hij (by simpa using hj)
 ·rw[Array.toList_map,List.map_map]
  rfl
section
variable {prog:Program} {w:World} {A:Around} {E:Value→Shared→Prop} {s:Shared} {a kS:Addr} {ks vs:List Value} {ys:List Ky} {e e1:Nat} {P:PySem.Fin→Shared→Prop}
theorem yg {st:SortSt} (hk:s.heap.get? kS=some (seqObj "list" ks.toArray e)) (ha:s.heap.get? a=some (seqObj "list" #[] e1)) (hka:kS≠a) (h64:vs.length < 65536) (hl:ks.length=vs.length) (hn:(arrOf st).size=vs.length) (hfl:failedOf st=none)
  (h:∀h' tk c,h'.get? a=some (seqObj "list" ((arrOf st).map (·.2)) c)→(∀b o,b≠a→b≠kS→s.heap.get? b=some o→h'.get? b=some o)→P (.done (.ret .none)) {s with heap:=h',toks:=tk}):
  wpAny (model prog w) A (ksk_tail a false e1 (.ref kS) st) P E s:=by
 have s1:=Heap.SameBut.update s.heap kS (Obj.mapSeq fun _=>(#[]:Array Value))
 have na1:(s.heap.update kS (Obj.mapSeq fun _=>(#[]:Array Value))).get? a=some (seqObj "list" #[] e1):=(s1.2 a hka.symm).trans ha
 have s2:=Heap.SameBut.update (s.heap.update kS (Obj.mapSeq fun _=>(#[]:Array Value))) a (Obj.mapSeq fun _=>(arrOf st).map (·.2))
 obtain⟨c2,hc2⟩:∃c2,((s.heap.update kS (Obj.mapSeq fun _=>(#[]:Array Value))).update a (Obj.mapSeq fun _=>(arrOf st).map (·.2))).get? a=some (seqObj "list" ((arrOf st).map (·.2)) c2):=⟨_,get?_update_seq na1 fun _=>(arrOf st).map (·.2)⟩
 unfold ksk_tail
 try dsimp only
 refine wpAny_bind (listUpdate_at hk rfl ?_ (by rw[List.size_toArray,sizeLine_eq];omega) (Nat.zero_le _))
 refine wpAny_bind (wpAny_letGo ?_)
 refine wpAny_bind (seqEpoch_at na1 rfl ?_)
 simp only[Bool.false_eq_true,if_false]
 refine wpAny_bind (listUpdate_at na1 rfl ?_ (Nat.zero_le _) (by rw[Array.size_map,hn,sizeLine_eq];omega))
 rw[hfl]
 simp only[bne_self_eq_false,Bool.false_eq_true,if_false]
 exact wpAny_pure (h _ _ c2 hc2 fun b o h1 h2 q=>(s2.2 b h1).trans ((s1.2 b h2).trans q))
theorem FN (hK:KA s.heap ks ys) (hk:s.heap.get? kS=some (seqObj "list" ks.toArray e)) (ha:s.heap.get? a=some (seqObj "list" #[] e1)) (hka:kS≠a) (h64:vs.length < 65536) (hl:ks.length=vs.length)
  (h:∀h' tk out c,h'.get? a=some (seqObj "list" out c)→zG ys vs out.toList→(∀b o,b≠a→b≠kS→s.heap.get? b=some o→h'.get? b=some o)→P (.done (.ret .none)) {s with heap:=h',toks:=tk}):
  wpAny (model prog w) A (ksk_end a false vs.toArray e1 (.ref kS) ks.toArray) P E s:=by
 have hzs:(ks.toArray.zip vs.toArray).size=vs.length:=by rw[Array.size_zip,List.size_toArray,List.size_toArray,hl,Nat.min_self]
 unfold ksk_end
 try dsimp only
 simp only[Bool.false_eq_true,if_false]
 by_cases h2:vs.toArray.size < 2
 ·rw[if_pos h2,if_pos h2]
  refine wpAny_bind (wpAny_pure ?_)
  rw[StateT.run_pure]
  refine wpAny_bind (wpAny_pure ?_)
  try dsimp only
  refine yg (st:=SortSt.mk' general' (ks.toArray.zip vs.toArray) #[] 7 none) hk ha hka h64 hl hzs rfl fun h' tk c h1 h3=>h h' tk _ c h1 ⟨ys.zip vs,List.Perm.refl _,?_,?_⟩ h3
  ·rw[List.size_toArray]at h2
   rw[List.pairwise_iff_getElem]
   intro i j hi hj hij
   simp at hj
   omega
  ·have e1:(ys.zip vs).map (·.2)=vs:=by rw[List.map_snd_zip];have:=hK.len;omega
   have e2:((arrOf (SortSt.mk' general' (ks.toArray.zip vs.toArray) #[] 7 none)).map (·.2)).toList=(ks.zip vs).map (·.2):=by
    show((ks.toArray.zip vs.toArray).map (·.2)).toList=_
    simp
   rw[e1,e2,List.map_snd_zip]
   omega
 ·rw[if_neg h2,if_neg h2]
  rw[List.size_toArray]at h2
  obtain⟨fs,tt,hf,lf⟩:=hK.tups
  refine wpAny_bind (kat_kind (T:=.type "int") tt (by omega) (fun v hv=>?_) (by decide) ?_)
  ·obtain⟨n,t,rfl⟩:=hf v hv
   exact .now
  ·have run:=NhLS.qM (E:=E) (a:=ks.toArray.zip vs.toArray) (g:=7) (Iu (prog:=prog) (w:=w) (A:=A) (s:=s)) (Q:=fun _ st'=>∃b pd g,st'=SortSt.mk' (tuples' true) b pd g none∧b.toList.Perm (ks.zip vs)∧NhLS.So (iG s.heap).toKeyOrd (vt s.heap) b 0 b.size)
    (by simpa using hK.dom) fun b pd g hp hs=>⟨b,pd,g,rfl,by simpa using hp,by have:=hp.length_eq;simp only[Array.length_toList]at this;rw[this];exact hs⟩
   refine wpAny_bind (wpAny_mono run ?_ fun _ _ e=>e)
   rintro⟨⟨⟩,st'⟩ s' ⟨es,b,pd,g,e,hp,hs⟩
   subst es
   dsimp only at e
   subst e
   try dsimp only
   have hz:b.size=vs.length:=by have:=hp.length_eq;simpa[hl]using this
   exact yg (st:=SortSt.mk' (tuples' true) b pd g none) hk ha hka h64 hl hz rfl fun h' tk c h1 h3=>h h' tk _ c h1 (FM hK hp hs) h3
def nQ(prog:Program)(w:World)(A:Around)(f:Value)(s:Shared)(v:Value)(y:Ky):Prop:=∀(h:Heap) (tk:Nat),Keep s.heap h→
 wpAny (model prog w) A (call f [v]) (fun r s'=>∃h' tk',s'={s with heap:=h',toks:=tk'}∧Keep h h'∧IsKy h' r y) (fun _ _=>False) {s with heap:=h,toks:=tk}
theorem Dv {f:Value} {s0:Shared} (hs0:Keep s0.heap s.heap) (hss:∃tk,s={s0 with heap:=s.heap,toks:=tk}) (h0a:s0.heap.get? a=none) (h0k:s0.heap.get? kS=none) (hk:s.heap.get? kS=some (seqObj "list" #[] 0)) (ha:s.heap.get? a=some (seqObj "list" #[] e1)) (hka:kS≠a) (h64:vs.length < 65536) (hl:ys.length=vs.length)
  (turn:∀(i:Nat) (v:Value) (y:Ky),vs[i]? =some v→ys[i]? =some y→nQ prog w A f s0 v y)
  (h:∀h' tk out c,h'.get? a=some (seqObj "list" out c)→zG ys vs out.toList→Keep s0.heap h'→P (.done (.ret .none)) {s0 with heap:=h',toks:=tk}):
  wpAny (model prog w) A (ksk_rest a f false vs.toArray e1 (.ref kS)) P E s:=by
 unfold ksk_rest
 refine wpAny_bind (wpAny_rule ?_)
 first
  |rw[List.forIn_toArray]
  |(rw[←Array.forIn_toList];simp only[List.toList_toArray])
  |rw[←Array.forIn_toList]
 obtain⟨tk0,es⟩:=hss
 refine wpAny_bind (ksk_fold (fun i s'=>∃h' tk kL e,s'={s0 with heap:=h',toks:=tk}∧Keep s0.heap h'∧h'.get? kS=some (seqObj "list" kL.toArray e)∧h'.get? a=some (seqObj "list" #[] e1)∧KA h' kL (ys.take i)) vs 0 s
  ⟨s.heap,tk0,[],0,es,hs0,hk,ha,by simp[KA]⟩ ?step ?done)
 case step=>
  rintro j x s' hx ⟨h',tk,kL,e,rfl,F',N1,N2,hK⟩
  simp only[Nat.zero_add]at hK ⊢
  have hj:j < vs.length:=(List.getElem?_eq_some_iff.mp hx).1
  obtain⟨y,hyj⟩:∃y,ys[j]? =some y:=⟨_,List.getElem?_eq_getElem (by omega)⟩
  have hz:kL.length≤vs.length:=by
   have h1:=hK.len
   rw[List.length_take]at h1
   omega
  refine wpAny_bind (wpAny_attempt (wpAny_mono (turn j x y hx hyj h' tk F') (fun v s'' he=>?_) fun _ _ hF=>hF.elim))
  obtain⟨g,tk2,rfl,kg,hy⟩:=he
  try dsimp only
  have nk:=kg _ _ N1
  have na:=kg _ _ N2
  have s1:=Heap.SameBut.update g kS (Obj.mapSeq (·.push v))
  obtain⟨c2,hc2⟩:∃c2,(g.update kS (Obj.mapSeq (·.push v))).get? kS=some (seqObj "list" (kL.toArray.push v) c2):=⟨_,get?_update_seq nk (·.push v)⟩
  have ek:ys.take (j+1)=ys.take j++[y]:=by rw[List.take_add_one,hyj];simp
  have ea:kL.toArray.push v=(kL++[v]).toArray:=by simp
  have ng:∀{ks':List Value} {ys':List Ky},KA g ks' ys'→KA (g.update kS (Obj.mapSeq (·.push v))) ks' ys':=fun {ks'} {ys'} q=>by
   induction ks' generalizing ys' with
   |nil=>cases ys' with
    |nil=>trivial
    |cons _ _=>exact q.elim
   |cons k ks' ih=>cases ys' with
    |nil=>exact q.elim
    |cons y' ys'=>
     refine⟨?_,ih q.2⟩
     obtain⟨c,o,xs,n,t,z,u,ec,ho,hcl,r⟩:=q.1
     refine⟨c,o,xs,n,t,z,u,ec,(s1.2 c ?_).trans ho,hcl,r⟩
     intro e3
     subst e3
     rw[nk]at ho
     cases ho
     have e4:Value.type "list"=Value.type "tuple":=hcl
     injection e4 with e5
     exact absurd e5 (by decide)
  refine wpAny_bind (listUpdate_at nk rfl ?_ (by rw[List.size_toArray,sizeLine_eq];omega) (Nat.le_trans (Nat.le_of_eq (Array.size_push ..)) (by rw[List.size_toArray,sizeLine_eq];omega)))
  refine wpAny_pure ⟨rfl,_,_,kL++[v],c2,rfl,fun b o q=>?_,by rw[←ea];exact hc2,(s1.2 a hka.symm).trans na,by rw[ek];exact ng (KA.snoc hy (hK.keep kg))⟩
  refine(s1.2 b fun e3=>?_).trans (kg _ _ (F' _ _ q))
  subst e3
  rw[h0k]at q
  cases q
 case done=>
  rintro s' ⟨h',tk,kL,e,rfl,F',N1,N2,hK⟩
  have e3:ys.take (0+vs.length)=ys:=List.take_of_length_le (by omega)
  rw[e3]at hK
  try dsimp only
  refine wpAny_bind (listItems_at N1 rfl ?_)
  refine FN (s:={s0 with heap:=h',toks:=tk}) hK N1 N2 hka h64 (by rw[hK.len,hl]) fun h3 tk3 out c g1 g2 g3=>h h3 tk3 out c g1 g2 fun b o q=>g3 b o ?_ ?_ (F' b o q)
  ·intro z;subst z;rw[h0a]at q;cases q
  ·intro z;subst z;rw[h0k]at q;cases q
theorem Dw {f:Value} {n:Nat} {s0:Shared} (hs0:Keep s0.heap s.heap) (hss:∃tk,s={s0 with heap:=s.heap,toks:=tk}) (h0a:s0.heap.get? a=none) (hle:s0.heap.objs.size≤s.heap.objs.size) (ho:s.heap.get? a=some (seqObj "list" vs.toArray n)) (h64:vs.length < 65536) (hl:ys.length=vs.length)
  (turn:∀(i:Nat) (v:Value) (y:Ky),vs[i]? =some v→ys[i]? =some y→nQ prog w A f s0 v y)
  (h:∀h' tk out c,h'.get? a=some (seqObj "list" out c)→zG ys vs out.toList→Keep s0.heap h'→P (.done (.ret .none)) {s0 with heap:=h',toks:=tk}):
  wpAny (model prog w) A (ksk_tree a f false) P E s:=by
 have ha:a < s.heap.objs.size:=Heap.lt_size ho
 have s1:=Heap.SameBut.update s.heap a (Obj.mapSeq fun _=>(#[]:Array Value))
 obtain⟨e1,ho1⟩:∃e1,(s.heap.update a (Obj.mapSeq fun _=>(#[]:Array Value))).get? a=some (seqObj "list" #[] e1):=⟨_,get?_update_seq ho fun _=>#[]⟩
 have hkS:((s.heap.update a (Obj.mapSeq fun _=>(#[]:Array Value))).push (seqObj "tuple" vs.toArray 0)).objs.size=s.heap.objs.size+1:=by rw[size_push',Heap.size_update]
 obtain⟨tk0,es⟩:=hss
 unfold ksk_tree
 refine wpAny_bind (listItems_at ho rfl ?_)
 refine wpAny_bind (listUpdate_at ho rfl ?_ (by rw[List.size_toArray,sizeLine_eq];omega) (Nat.zero_le _))
 refine wpAny_bind (seqEpoch_at ho1 rfl ?_)
 refine wpAny_bind (wpAny_newTuple ?_ (by show vs.length≤_;rw[sizeLine_eq];omega))
 refine wpAny_bind (wpAny_newList ?_ (Nat.zero_le _))
 refine wpAny_holding ?_
 refine Dv (s:={s with heap:=((s.heap.update a (Obj.mapSeq fun _=>(#[]:Array Value))).push (seqObj "tuple" vs.toArray 0)).push (seqObj "list" #[] 0)}) (kS:=((s.heap.update a (Obj.mapSeq fun _=>(#[]:Array Value))).push (seqObj "tuple" vs.toArray 0)).objs.size) (s0:=s0)
  (fun b o q=>?_) ⟨tk0,by rw[es]⟩ h0a (Heap.get?_none_of_le (by rw[hkS];omega)) (Heap.get?_push_size _ rfl) (Heap.get?_push_of_some _ (Heap.get?_push_of_some _ ho1)) (by rw[hkS];exact Nat.ne_of_gt (Nat.lt_succ_of_lt ha)) h64 hl turn h
 refine Heap.get?_push_of_some _ (Heap.get?_push_of_some _ ((s1.2 b fun z=>?_).trans (hs0 b o q)))
 subst z
 rw[h0a]at q
 cases q
end
end NhSG
namespace NhSG
set_option autoImplicit false
open PySem PyProof PyProof.Rows PySem.W
section
variable {prog:Program} {w:World} {A:Around} {E:Value→Shared→Prop} {s:Shared} {l q:Addr} {vs:List Value} {ys:List Ky} {Q:Value→Shared→Prop}
theorem wM(hl:s.heap.IsList l vs.toArray)(hlen:ys.length=vs.length)(h64:vs.length < 65536)
  (turn:∀(i:Nat) (v:Value) (y:Ky),vs[i]? =some v→ys[i]? =some y→nQ prog w A.in1.in1 (.ref q) s v y)
  (h:∀D h' tk out c,h'.get? D=some (seqObj "list" out c)→s.heap.objs.size≤D→zG ys vs out.toList→Keep s.heap h'→Q (.ref D) {s with heap:=h',toks:=tk}):
  wpAny (model prog w) A (call (.builtin "sorted") [.ref l] [(Str.ofString "key",.ref q)]) Q E s:=by
 refine call_function_entry_kw kind_sorted plain_sorted entry_sorted (ksk_s1 _ _) ?_
 unfold Builtin.«sorted»
 refine wpAny_bind (m:=checkCount "sorted" 1 1 _) (wpAny_pure ?_)
 refine wpAny_bind (collect_list hl ?_ (by rw[sizeLine_eq];omega))
 refine wpAny_bind (wpAny_newList ?_ (by rw[sizeLine_eq];omega))
 have hsz:((s.heap.push (seqObj "list" #[] 0)).update s.heap.objs.size (Obj.mapSeq (· ++vs.toArray))).objs.size=s.heap.objs.size+1:=by
  rw[Heap.size_update,size_push']
 have hoL:(((s.heap.push (seqObj "list" #[] 0)).update s.heap.objs.size (Obj.mapSeq (· ++vs.toArray))).push (seqObj "list" vs.toArray 0)).get? (s.heap.objs.size+1)=some (seqObj "list" vs.toArray 0):=by
  rw[←hsz];exact Heap.get?_push_size _ rfl
 have keep:Keep s.heap (((s.heap.push (seqObj "list" #[] 0)).update s.heap.objs.size (Obj.mapSeq (· ++vs.toArray))).push (seqObj "list" vs.toArray 0)):=fun b o q=>by
  have hlt:b < s.heap.objs.size:=Heap.lt_size q
  rw[Heap.get?_push_ne _ _ _ (by rw[hsz];exact Nat.ne_of_lt (Nat.lt_succ_of_lt hlt)),Heap.get?_update_ne _ _ _ _ (Nat.ne_of_lt hlt),Heap.get?_push_ne _ _ _ (Nat.ne_of_lt hlt)]
  exact q
 show wpAny _ _ _ _ _ {s with heap:=((s.heap.push (seqObj "list" #[] 0)).update s.heap.objs.size (Obj.mapSeq (· ++vs.toArray))).push (seqObj "list" vs.toArray 0)}
 rw[hsz]
 have h0:s.heap.get? (s.heap.objs.size+1)=none:=Heap.get?_none_of_le (Nat.le_succ _)
 refine wpAny_bind (wpAny_holding (wpAny_call_entry_kw slot_list_sort ⟨_,hoL,rfl⟩ entry_list_sort ?body (ksk_l1 _ _)))
 case body=>
  show wpAny (model prog w) A.in1.in1 (Builtin.«list.sort» ⟨[.ref (s.heap.objs.size+1)],[(Str.ofString "key",.ref q)]⟩) _ _ _
  rw[ksk_t1]
  refine Dw (s:={s with heap:=((s.heap.push (seqObj "list" #[] 0)).update s.heap.objs.size (Obj.mapSeq (· ++vs.toArray))).push (seqObj "list" vs.toArray 0)}) (s0:=s) keep ⟨s.toks,rfl⟩ h0 (by rw[size_push',hsz];omega) hoL h64 hlen turn fun h' tk out c g1 g2 g3=>⟨_,rfl,?_⟩
  exact wpAny_pure ⟨_,rfl,h _ h' tk out c g1 (Nat.le_succ _) g2 g3⟩
end
end NhSG
namespace NhSG
set_option autoImplicit false
open PySem
def kX(z:Str):Ky:=(z.length,z.cps.toList)
def uN(a b:Str):Bool:= !ji (kX b) (kX a)
def mP(ws:List Str):List Str:=ws.mergeSort uN
def v_:Value→Option Str
 |.str z _=>some z
 |_=>none
theorem BC{a b:Str}(h:kX a=kX b):a=b:=by
 have e:a.cps.toList=b.cps.toList:=congrArg Prod.snd h
 cases a;cases b
 congr
 exact Array.toList_inj.mp e
theorem zH(a b c:Str)(h1:uN a b=true)(h2:uN b c=true):uN a c=true:=by
 unfold uN at *
 simp only[Bool.not_eq_true']at *
 exact(PyProof.Rows.KeyOrd.kle_trans (O:=(iG default).toKeyOrd) h1 h2)
theorem zI(a b:Str):(uN a b||uN b a)=true:=by
 unfold uN
 by_cases h:ji (kX b) (kX a)=true
 ·have:ji (kX a) (kX b)=false:=PyProof.Rows.KeyOrd.klt_asymm (O:=(iG default).toKeyOrd) h
  simp[this]
 ·simp[Bool.not_eq_true _▸h]
theorem BD{a b:Str}(h1:uN a b=true)(h2:uN b a=true):a=b:=by
 unfold uN at *
 simp only[Bool.not_eq_true']at *
 exact BC ((iG default).total _ _ h2 h1)
theorem sS{qs ws:List Str}(hp:qs.Perm ws)(hs:qs.Pairwise fun a b=>uN a b=true):qs=mP ws:=by
 have h1:(mP ws).Pairwise fun a b=>uN a b=true:=List.pairwise_mergeSort zH zI ws
 have h2:qs.Perm (mP ws):=hp.trans (List.mergeSort_perm ws uN).symm
 exact h2.eq_of_pairwise (fun a b _ _ x y=>BD x y) hs h1
theorem zJ{ws:List Str}{vs out:List Value}(hv:vs.map v_=ws.map some)(h:zG (ws.map kX) vs out):out.map v_=(mP ws).map some:=by
 obtain⟨ps,hp,hs,rfl⟩:=h
 have key:∀(ws:List Str) (vs:List Value),vs.map v_=ws.map some→∀p∈(ws.map kX).zip vs,∃z,p.1=kX z∧v_ p.2=some z:=fun ws=>by
  induction ws with
  |nil=>intro vs _ p hp;simp at hp
  |cons w ws ih=>
   intro vs hv p hp
   cases vs with
   |nil=>simp at hp
   |cons v vs=>
    simp only[List.map_cons,List.cons.injEq]at hv
    rw[List.map_cons,List.zip_cons_cons]at hp
    rcases List.mem_cons.mp hp with rfl |hp
    ·exact⟨w,rfl,hv.1⟩
    ·exact ih vs hv.2 p hp
 have zm:∀(ws:List Str) (vs:List Value),vs.map v_=ws.map some→((ws.map kX).zip vs).map (fun p=>v_ p.2)=ws.map some:=fun ws=>by
  induction ws with
  |nil=>intro vs _;simp
  |cons w ws ih=>
   intro vs hv
   cases vs with
   |nil=>simp at hv
   |cons v vs=>
    simp only[List.map_cons,List.cons.injEq]at hv
    simp only[List.map_cons,List.zip_cons_cons,hv.1,ih vs hv.2]
 have ex:∀ps:List (Ky×Value),(∀p∈ps,∃z,p.1=kX z∧v_ p.2=some z)→∃qs:List Str,ps.map (·.1)=qs.map kX∧ps.map (fun p=>v_ p.2)=qs.map some:=fun ps=>by
  induction ps with
  |nil=>intro _;exact⟨[],rfl,rfl⟩
  |cons p ps ih=>
   intro h
   obtain⟨z,h1,h2⟩:=h p (List.mem_cons_self ..)
   obtain⟨qs,e1,e2⟩:=ih fun q hq=>h q (List.mem_cons_of_mem _ hq)
   exact⟨z::qs,by simp[h1,e1],by simp[h2,e2]⟩
 obtain⟨qs,e1,e2⟩:=ex ps fun p hp'=>key ws vs hv p (hp.mem_iff.mp hp')
 have perm:qs.Perm ws:=by
  have h1:=hp.map (fun p=>v_ p.2)
  rw[e2,zm ws vs hv]at h1
  have h2:=h1.filterMap id
  simpa using h2
 have srt:qs.Pairwise fun a b=>uN a b=true:=by
  have h1:(ps.map (·.1)).Pairwise fun a b=>ji b a=false:=List.pairwise_map.mpr hs
  rw[e1,List.pairwise_map]at h1
  exact h1.imp fun h=>by unfold uN;simp[h]
 rw[List.map_map]
 show ps.map (fun p=>v_ p.2)=_
 rw[e2,sS perm srt]
end NhSG
namespace NhSG
open PySem PySem.Spec PySem.Calls PyProof PyProof.Rows PySem.W
section
variable {prog:Program} {w:World} {A:Around} {E:Value→Shared→Prop} {s:Shared} {Q:Value→Shared→Prop}
theorem BE {env:Env} {x z:Str} {t:Tok} {m mg mb:Str→Option Value} {p1 p2 p3 p4 pos:Pos} {x1} (hk:env.scope.kind=.function) (hx:env.kindOf x=some .local) (hl:env.kindOf "len"=some .globalImplicit)
  (hn:s.heap.Ns env.locals m) (hm:m x=some (.str z t)) (hg:s.heap.Ns env.globals mg) (hlg:mg "len"=none) (hb:s.heap.Ns env.builtins mb) (hlb:mb "len"=some (.builtin "len")) (hz:z.length≤sizeLine)
  (h:∀h' tk r,Keep s.heap h'→IsKy h' r (kX z)→Q r {s with heap:=h',toks:=tk})
  (hd:(x == ("__debug__":Str))=false:=by decide) (h1:starEach [Expr.Call (.Name "len" p1) [.Name x p2] [] p3,.Name x p4] env=(false,eval (.Call (.Name "len" p1) [.Name x p2] [] p3) env)::starEach [Expr.Name x p4] env:=by rfl)
  (h2:starEach [Expr.Name x p4] env=[(false,eval (.Name x p4) env)]:=by rfl) (h3:starEach [Expr.Name x p2] env=(false,eval (.Name x p2) env)::starEach [] env:=by rfl):
  wpAny (model prog w) A (eval (.Tuple [.Call (.Name "len" p1) [.Name x p2] [] p3,.Name x p4] x1 pos) env) Q E s:=by
 refine wpAny_Tuple_spliced ?_
 rw[h1,h2]
 show wpAny _ _ (spliced ((false,eval (.Call (.Name "len" p1) [.Name x p2] [] p3) env)::backTo pos [(false,eval (.Name x p4) env)])) _ _ s
 refine Calls.spliced_cons ?_
 refine wpAny_Call_Name_kw (Calls.Name_function_global hk hl (Calls.loadGlobal_builtin hg hlg hb hlb ?_) (by decide))
 refine PyProof.Rows.callWith_builtin1 ?_ h3 rfl
 rw[h3]
 show wpAny _ _ (spliced ((false,eval (.Name x p2) env)::backTo p3 (starEach [] env))) _ _ s
 refine Calls.spliced_cons (wpAny_Name (wpAny_loadName_local hk hx hn hm ?_) hd)
 show wpAny _ _ (spliced []) _ _ s
 refine Calls.spliced_nil ?_
 refine len_str (by have:=hz;rw[sizeLine_eq]at this;omega) ?_
 show wpAny _ _ (spliced [(false,standAt pos >>= fun _=>eval (.Name x p4) env)]) _ _ _
 refine Calls.spliced_cons (wpAny_bind (wpAny_standAt (wpAny_Name (wpAny_loadName_local hk hx hn hm ?_) hd)))
 refine Calls.spliced_nil ⟨by rw[sizeLine_eq];simp,?_⟩
 exact h _ _ _ (fun b o e=>Heap.get?_push_of_some _ e) ⟨_,_,_,_,_,z,t,rfl,Heap.get?_push_size _ rfl,rfl,rfl,rfl,rfl⟩
structure KMod (h:Heap):Prop where
 g:∃mg,h.Ns mainGlobals mg∧mg "len"=none
 b:∃mb,h.Ns builtinsNs mb∧mb "len"=some (.builtin "len")
 lim:h.NoLimit
theorem KMod.keeps{h h':Heap}(a:KMod h)(k:Keep h h'):KMod h':=
 ⟨let ⟨mg,e,r⟩:=a.g;⟨mg,e.keeps k,r⟩,let ⟨mb,e,r⟩:=a.b;⟨mb,e.keeps k,r⟩,a.lim.keeps k⟩
theorem vv{f c':Addr}{name qual x z:Str}{t:Tok}{params:Arguments}{scope:Scope}{pm ctv:Value}{p1 p2 p3 p4 pos:Pos}{x1}(M:KMod s.heap)(hroom:A.depth < recursionLimit)
  (ho:s.heap.get? f=some (kla_obj name qual params (.Tuple [.Call (.Name "len" p1) [.Name x p2] [] p3,.Name x p4] x1 pos) scope [] pm c' ctv)) (hcd:s.heap.CodeRec (.ref c') qual) (hz:z.length≤sizeLine)
  (hbind:bindArgs (kla_fn name qual params (.Tuple [.Call (.Name "len" p1) [.Name x p2] [] p3,.Name x p4] x1 pos) scope [] pm (.ref c') ctv) ⟨[.str z t],[]⟩=pure [(x,.str z t)])
  (hx:scope.names.lookup x=some .local) (hlen:scope.names.lookup (Str.ofString "len")=some .globalImplicit) (hco:scope.isCoroutine=false) (hgen:scope.isGenerator=false) (hk:scope.kind=.function) (hcell:∀x∈scope.names,x.2≠ .cell)
  (hd:(x == ("__debug__":Str))=false):nQ prog w A (.ref f) s (.str z t) (kX z):=by
 intro h tk kp
 refine wpAny_call (kla_callFunE hroom (kp _ _ ho) rfl hco hgen rfl (hcd.keeps kp) ?_)
 rw[hbind]
 refine wpAny_pure (wpAny_newFunctionEnv hcell (fun y hy=>?_) (fun h₁ hns hsb=>⟨((M.keeps kp).lim).fresh _ hsb,?_⟩) hk)
 ·rw[List.mem_singleton.mp hy];exact hx
 have hk₁:Keep h h₁:=fun b o e=>hsb.extBut b o (Nat.ne_of_lt (Heap.lt_size e)) (Heap.get?_push_of_some _ e)
 have M1:=(M.keeps kp).keeps hk₁
 obtain⟨mg,g1,g2⟩:=M1.g
 obtain⟨mb,b1,b2⟩:=M1.b
 refine kla_codeExpr (BE (t:=t) (z:=z) (m:=fun y=>List.lookup y [(x,Value.str z t)].reverse) hk hx hlen hns ?_ g1 g2 b1 b2 hz (fun h' tk' r k1 k2=>?_) hd)
 ·simp
 ·exact⟨h',tk',rfl,hk₁.trans k1,k2⟩
end
end NhSG
namespace PL
open PySem L2 Nh
def um(f:bC):bC:=fun E=>(f E).bind fun a=>match look a.2 a.1 with
 |some (.list ds)=>(lA ds).bind fun ss=>if (decide (ss.length < 65536)&&ss.all fun z=>decide (z.length≤1000))=true then some (.ow ((NhSG.mP ss).map .str),a.2)else none
 |_=>none
theorem vw:∀{ws:List Str} {vs:List Value},Vals (ws.map V.str) vs→vs.map NhSG.v_=ws.map some
 |[],_,.nil=>rfl
 |w::ws,_,.cons r t=>by
  obtain⟨u,rfl⟩:=r
  simp only[List.map_cons,vw t]
  rfl
theorem vx:∀{ws:List Str} {vs:List Value},vs.map NhSG.v_=ws.map some→Vals (ws.map V.str) vs
 |[],[],_=>.nil
 |[],_::_,h=>by simp at h
 |_::_,[],h=>by simp at h
 |w::ws,v::vs,h=>by
  simp only[List.map_cons,List.cons.injEq]at h
  refine .cons ?_ (vx h.2)
  have h1:=h.1
  unfold NhSG.v_ at h1
  split at h1
  ·cases h1;exact⟨_,rfl⟩
  ·cases h1
section
variable {X:Cx} {pins:List (Addr×Obj)} {σ:L2.St} {H:Hp} {s:Shared}
theorem Hj (I:Inv X pins σ H s) (hl:X.mg "len"=none):NhSG.KMod s.heap:=
 ⟨⟨X.mg,I.mod.glob.keeps I.bk,hl⟩,let ⟨mb,h1,h2⟩:=I.mod.blt;⟨mb,h1.keeps I.bk,(h2 _ (by decide)).trans rfl⟩,I.nolimit⟩
theorem sT{l q:Addr}{ss:List Str}{Q:VK}(I:Inv X pins σ H s)(hq:SqL X.K H l (ss.map V.str))(h64:ss.length < 65536)
  (turn:∀z t,z∈ss→NhSG.nQ X.prog X.w X.A.in1.in1 (.ref q) s (.str z t) (NhSG.kX z))
  (h:∀D,H D=none→Q (.ref D) (fS H D (.lst ((NhSG.mP ss).map V.str)))):
  wpAny (model X.prog X.w) X.A (call (.builtin "sorted") [.ref l] [(Str.ofString "key",.ref q)]) (EP X pins σ Q) X.xe s:=by
 obtain⟨its,rv,pl,hz⟩:=I.list hq
 have hv:=vw rv
 have hlen:its.length=ss.length:=by have:=congrArg List.length hv;simpa using this
 refine NhSG.wM (ys:=ss.map NhSG.kX) pl.isList (by simp[hlen]) (by omega) (fun i v y hv' hy'=>?_) fun D h' tk out c g1 g2 g3 g4=>?_
 ·rw[List.getElem?_map]at hy'
  obtain⟨z,hz1,rfl⟩:=Option.map_eq_some_iff.mp hy'
  have e:(its.map NhSG.v_)[i]? =(ss.map some)[i]? :=by rw[hv]
  rw[List.getElem?_map,List.getElem?_map,hv',hz1]at e
  have e1:NhSG.v_ v=some z:=by simpa using e
  unfold NhSG.v_ at e1
  split at e1
  ·cases e1;exact turn _ _ (List.mem_of_getElem? hz1)
  ·cases e1
 ·have ot:=NhSG.zJ hv g3
  refine⟨.ref D,_,I.laid (t':=tk) g4 g2 (show ObjOk X.prog X.w _ _ _ (.lst ((NhSG.mP ss).map V.str))from⟨?_,out.toList,c,vx ot,by simpa using g1⟩),rfl,h D (I.hok.fresh g2)⟩
  rw[List.length_map]
  have:(NhSG.mP ss).length=ss.length:=(List.mergeSort_perm ss NhSG.uN).length_eq
  rw[this,sizeLine_eq]
  omega
end
theorem vy{z:Str}(h:z.length≤1000):z.length≤sizeLine:=by rw[sizeLine_eq];omega
end PL
namespace PL
open PySem L2 Nh
theorem rO{pos:Pos}{a b:Int}{c cv:Value}(l:List Value)(h:TriplesOk l)(e:codeAmong pos (l++[rawInt a,rawInt b,c])=some cv):codeAmong pos l=some cv∨cv=c:=by
 fun_induction TriplesOk l with
 |case1=>
  simp only[List.nil_append,codeAmong,rawInt]at e
  split at e
  ·cases e;exact .inr rfl
  ·cases e
 |case2 a' t b' u x rest ih=>
  simp only[List.cons_append,codeAmong]at e ⊢
  split at e
  ·rename_i hc;rw[if_pos hc];exact .inl e
  ·rename_i hc;rw[if_neg hc];exact ih h e
 |case3 l h1 h2=>exact h.elim
section
variable {X:Cx} {pins:List (Addr×Obj)} {σ:L2.St} {H:Hp} {s:Shared}
theorem zK{P c':Addr}{q:Str}{ps:Array Value}{a b:Int}{h':Heap}{tk:Nat}(I:Inv X pins σ H s)(hT:H P=some (.tbl q))(hps:s.heap.get? P=some (PySem.W.tabObj ps))
  (hx:∀b o,b≠P→s.heap.get? b=some o→h'.get? b=some o) (hc:s.heap.objs.size≤c') (hr:h'.CodeRec (.ref c') q) (hP:h'.get? P=some (PySem.W.tabObj (ps++#[rawInt a,rawInt b,.ref c']))):
  Inv X pins σ (fS H c' (.own P)) {s with heap:=h',toks:=tk}:=by
 have hn:H c'=none:=I.hok.fresh hc
 have neP:∀b,H b=none→b≠P:=fun b n z=>by subst z;rw[hT]at n;cases n
 obtain⟨ps0,e0,t0,r0⟩:=I.hok P _ hT
 rw[hps]at e0
 cases e0
 refine I.un (h':=h') (t':=tk) ⟨fun b o e n _ _=>hx b o (neP b n) e,fun b o e n _ _=>⟨o.slots,hx b o (neP b n) e⟩,fun b o e n _=>?_,fun b o e _=>?_,fun b xs e=>?_,fun b o u e=>?_,fun b z e=>?_⟩ fun d o e=>?_
 ·rw[bq (Nat.ne_of_lt (Nat.lt_of_lt_of_le (Heap.lt_size e) hc))];exact n
 ·by_cases hb:b=P
  ·subst hb;exact⟨_,hP⟩
  ·exact⟨o,hx b o hb e⟩
 ·rw[bq (cQ e hn)];exact e
 ·rw[bq (cQ e hn)];exact e
 ·rw[bq (cQ e hn)];exact e
 ·by_cases hd:d=c'
  ·subst hd
   rw[dZ]at e
   cases e
   obtain⟨c2,oc,_,_,hc2,hoc,_⟩:=hr
   cases hc2
   exact⟨oc,hoc⟩
  ·rw[bq hd]at e
   by_cases hp:d=P
   ·subst hp
    rw[hT]at e
    cases e
    refine⟨_,hP,by simpa using TriplesOk_snoc a b (.ref c') _ t0,fun pos cv z=>?_⟩
    rcases rO (a:=a) (b:=b) (c:=.ref c') ps.toList t0 (by simpa using z)with z |z
    ·obtain⟨c,ec,ho,c2,oc,vs,tq,hc2,hoc,hr2⟩:=r0 pos cv z
     subst ec
     cases hc2
     refine⟨c,rfl,by rw[bq (cQ ho hn)];exact ho,c,oc,vs,tq,rfl,hx _ _ (fun z=>?_) hoc,hr2⟩
     subst z
     rw[hT]at ho
     cases ho
    ·subst z
     exact⟨c',rfl,dZ,hr⟩
   ·refine(I.hok d o e).stay (fun b u hb q=>hx b u ?_ q) (fun b hb=>by rw[bq (cQ hb hn)];exact hb) fun b xs hb=>by rw[bq (cQ hb hn)];exact hb
    rcases hb with rfl |hb
    ·exact hp
    ·intro z
     subst z
     rw[hT]at hb
     cases hb
theorem Hk{P:Addr}{ps:Array Value}(I:Inv X pins σ H s)(hps:s.heap.get? P=some (PySem.W.tabObj ps)):mainGlobals≠P∧s.heap.BuiltinsAt X.mg P:=by
 have hg:=I.mod.glob.keeps I.bk
 obtain⟨bm,ob,b1,b2,b3,b4,b5,b6⟩:=I.mod.bmain
 have b3':=I.bk _ _ b3
 refine⟨fun q=>?_,bm,ob,b1,b2,fun q=>?_,fun q=>?_,b3',b4,b5,b6⟩
 ·obtain⟨o,es,ep,e,hd,_⟩:=hg
  rw[q,hps]at e;cases e;cases hd
 ·obtain⟨o,es,ep,e,hd,_⟩:=hg
  rw[q,e]at b3';cases b3';rw[hd]at b6;cases b6
 ·rw[q,hps]at b3';cases b3';cases b4
end
section
variable {X:Cx} {e:Expr} {m:Bool} {f:bC} {p pos kp lp:Pos} {y:Str} {k:Nat} {p1 p2 p3 p4 tp:Pos} {x1:Nat} {params:Arguments} {scope:Scope} {c P:Addr}
theorem BF (hcode:X.env.code=.ref c) (hP:An X.K=some P) (hC:PySem.W.codeHdIn X.K c P=true) (hr:Room k X.A) (hg:Gl X "sorted") (hm:X.mg "sorted"=none) (hl:X.mg "len"=none) (ha:EX X e m f)
  (hq:X.env.qual++"<lambda>"=Str.ofString "in_told_order.<locals>.<lambda>") (hdef:defaultsOf params X.env=([],[]):=by rfl)
  (hbind:∀(name qual:Str) (pm cd ctv u:Value),bindArgs (PySem.W.kla_fn name qual params (.Tuple [.Call (.Name "len" p1) [.Name y p2] [] p3,.Name y p4] x1 tp) scope [] pm cd ctv) ⟨[u],[]⟩=pure [(y,u)]:=by intros;rfl)
  (sc1:scope.names.lookup y=some .local:=by rfl) (fD:scope.names.lookup (Str.ofString "len")=some .globalImplicit:=by rfl) (sc3:scope.isCoroutine=false:=by rfl) (sc4:scope.isGenerator=false:=by rfl) (sc5:scope.kind=.function:=by rfl)
  (sc6:∀x∈scope.names,x.2≠ .cell:=by decide) (sc7:∀x∈scope.names,x.2≠ .free:=by decide) (hdy:(y == ("__debug__":Str))=false:=by decide)
  (he:starEach [e] X.env=[(false,eval e X.env)]:=by rfl)
  (he':backTo pos (starEach [e] X.env)=(false,eval e X.env)::backTo pos (starEach [] X.env):=by rfl) (hpl:(backTo pos (starEach [e] X.env)).any (·.1)=false:=by rfl)
  (hall:(backToKw pos (keywordEach [⟨some "key",.Lambda params (.Tuple [.Call (.Name "len" p1) [.Name y p2] [] p3,.Name y p4] x1 tp) scope lp,kp⟩] X.env)).all (·.1.isSome)=true:=by rfl)
  (hkw:(backToKw pos (keywordEach [⟨some "key",.Lambda params (.Tuple [.Call (.Name "len" p1) [.Name y p2] [] p3,.Name y p4] x1 tp) scope lp,kp⟩] X.env)).any (·.1.isNone)=false:=by rfl)
  (hnm:(backToKw pos (keywordEach [⟨some "key",.Lambda params (.Tuple [.Call (.Name "len" p1) [.Name y p2] [] p3,.Name y p4] x1 tp) scope lp,kp⟩] X.env)).filterMap (·.1)=[Str.ofString "key"]:=by rfl):
  EX X (.Call (.Name "sorted" p) [e] [⟨some "key",.Lambda params (.Tuple [.Call (.Name "len" p1) [.Name y p2] [] p3,.Name y p4] x1 tp) scope lp,kp⟩] pos) m (um f):=by
 intro pins s σ H Q I z
 obtain⟨B,E,xs,Xs,res,E',fr,cl,e0,q⟩:=z
 obtain⟨⟨r1,E1⟩,e1,e2⟩:=Option.bind_eq_some_iff.mp e0
 simp only at e2
 split at e2
 ·rename_i ds ld
  obtain⟨ss,en,e3⟩:=Option.bind_eq_some_iff.mp e2
  split at e3
  ·rename_i hc
   cases e3
   simp only[Bool.and_eq_true,decide_eq_true_eq,List.all_eq_true]at hc
   refine wpAny_Call_Name_kw (mZ I hg hm PyProof.Rows.boot_sorted ?_ (by decide) (by decide))
   refine PyProof.Rows.callWith_kw (gV (gc ha iY he pos pins s σ H (fun vs H1=>∃p,vs=[.ref p]∧SqL X.K H1 p (ss.map V.str)∧∀H2,Same H1 H2→∀D,H2 D=none→Q (.ref D) (fS H2 D (.lst ((NhSG.mP ss).map V.str)))) I ⟨B,E,xs,Xs,r1,_,fr,cl,e1,fun v1 H1 ⟨F,A,fr1⟩=>?_⟩) fun us s2 ⟨vs,H1,I1,r1,p0,ev,hq1,q1⟩=>?_) he' hpl hall hkw
   ·obtain⟨A',fr2⟩:=fr1.pop
    have r:=(fr1.look0 ld).1
    cases r with
    |lst h1 h2=>
     have:=nJ h2 en
     subst this
     exact⟨_,rfl,h1,fun H2 g D hD=>q _ _ ⟨_,_,(fr2.grow g).newl (ku _) hD⟩⟩
   ·subst ev
    cases r1 with
    |cons r rr=>
     cases rr
     cases r
     refine PyProof.Rows.kws_cons (PySem.W.kla_eval hdef ?_)
     have hT:H1 P=some (.tbl (Str.ofString "in_told_order.<locals>.<lambda>")):=I1.tab P _ (by unfold pv;rw[if_pos hP])
     obtain⟨ps,hps,ht,hit⟩:=I1.hok P _ hT
     obtain⟨hgP,hbA⟩:=Hk I1 hps
     have hcl:closureFor scope X.env=pure []:=closureFor_none sc7
     have C:=PySem.W.codeHd_of_K I1.kIn hC
     have hroom:X.A.in1.in1.depth < recursionLimit:=by have:=hr.dp;show X.A.depth < recursionLimit;omega
     cases hca:codeAmong lp ps.toList with
     |none=>
      refine PySem.W.kla_makeFunction hcl I1.ok.glob (I1.mod.glob.keeps I1.bk) hcode C hps ht hca hgP hbA fun c' ctv h' tk hx hge hlt hrec htb=>?_
      rw[hq]at hrec
      have I2:=zK (tk:=tk) I1 hT hps (fun b o hb e=>hx b o hb e) hge hrec htb
      have g:Same H1 (fS H1 c' (.own P)):=kh (I1.hok.fresh hge) _
      have I3:=I2.kept (t':=tk) (fun b o e=>Heap.get?_push_of_some (PySem.W.kla_obj "<lambda>" (X.env.qual++"<lambda>") params (.Tuple [.Call (.Name "len" p1) [.Name y p2] [] p3,.Name y p4] x1 tp) scope [] ((X.mg "__name__").getD .none) c' ctv) e)
      refine PyProof.Rows.kws_nil ?_
      rw[hnm]
      refine sT I3 (g.seq hq1) hc.1 (fun z t hz=>?_) (q1 _ g)
      exact NhSG.vv (Hj I3 hl) hroom (Heap.get?_push_size _ rfl) (by rw[hq];exact hrec.keeps fun b o e=>Heap.get?_push_of_some _ e) (vy (hc.2 z hz)) (hbind _ _ _ _ _ _) sc1 fD sc3 sc4 sc5 sc6 hdy
     |some cv=>
      obtain⟨c',rfl,ho,hrec⟩:=hit lp cv hca
      refine PySem.W.kla_makeFunctionHit hcl I1.ok.glob (I1.mod.glob.keeps I1.bk) hcode C hps ht hca hbA fun ctv h' tk hx hsz=>?_
      have I3:=I1.kept (t':=tk) (fun b o e=>Heap.get?_push_of_some (PySem.W.kla_obj "<lambda>" (X.env.qual++"<lambda>") params (.Tuple [.Call (.Name "len" p1) [.Name y p2] [] p3,.Name y p4] x1 tp) scope [] ((X.mg "__name__").getD .none) c' ctv) (hx b o e))
      refine PyProof.Rows.kws_nil ?_
      rw[hnm]
      refine sT I3 hq1 hc.1 (fun z t hz=>?_) (q1 _ (Same.refl _))
      exact NhSG.vv (Hj I3 hl) hroom (Heap.get?_push_size _ rfl) (by rw[hq];exact hrec.keeps fun b o e=>Heap.get?_push_of_some _ (hx b o e)) (vy (hc.2 z hz)) (hbind _ _ _ _ _ _) sc1 fD sc3 sc4 sc5 sc6 hdy
  ·cases e3
 ·cases e2
end
structure DefT (K:PySem.W.Frag) (mg:Str→Option Value) (x:Str) (st:Stmt) (ps:List Str) (c P:Addr):Prop where
 ex:∃(f:Addr) (oc:Value) (od:Option Addr) (kV doc pm:Value) (an:Option Addr) (ct:Value) (osl:Array (Option Value)),
  K.lookup f=some ⟨oc,od,.func (PySem.W.fnOf x x (aF st) (av st) (ah st) .none kV doc pm an (.ref c) ct),osl⟩∧PySem.W.codeIn K (.ref c) x=true∧PySem.W.keepIn K (.ref f)=true∧mg x=some (.ref f)∧
   Binds K (PySem.W.fnOf x x (aF st) (av st) (ah st) .none kV doc pm an (.ref c) ct) ps []
 hd:PySem.W.codeHdIn K c P=true
 tp:An K=some P
theorem Iv{P:Program}{w:World}{K:PySem.W.Frag}{mg:Str→Option Value}{base:Heap}{x:Str}{st:Stmt}{N ps:List Str}{k a n:Nat}{g:de}{c T:Addr}(D:DefT K mg x st ps c T)(S:FnScope N ps (ah st))(hpa:ps.length=a)(hNn:N.length=n)(hps:a≤n)
  (hbody:∀(f:Addr) (A:Around) (outer:List Env) (s:Shared) (H:Hp) (E:XK),Room k (A.deeper (PyProof.Rows.envOfC x (ah st) s.heap.objs.size f (.ref c)))→
   y0 (rJ yY P w K mg base N x (ah st) f (.ref c) A outer s H E).nox (av st) g):Own P w K mg base (k+1) x ps (bZ K (dN a n g)):=by
 subst hpa hNn
 obtain⟨f,oc,od,kV,doc,pm,an,ct,osl,lk,hcd,kp,hm,hb⟩:=D.ex
 refine⟨f,_,D9 lk hcd S (fun vs H Q E h=>?_) (fun A outer s H vs Q E hr h=>?_),hb,hm,kp⟩
 ·obtain⟨ds,r,e,rp,_⟩:=h
  unfold dN at e
  split at e
  ·rename_i hl
   rw[rp.len];exact hl
  ·cases e
 obtain⟨ds,r,e,rp,q⟩:=h
 unfold dN at e
 split at e
 ·rename_i hl
  refine⟨_,(hbody f A outer s H E hr).nox,?_⟩
  obtain⟨⟨E',fl⟩,e1,e⟩:=Option.bind_eq_some_iff.mp e
  refine⟨H,bd N.length ds,[],[],E',fl,⟨H,[],tY rp (by omega)⟩,rfl,e1,?_⟩
  cases fl with
  |nx=>
   cases e
   rintro σ' H' ⟨F',A',fr'⟩
   exact q _ _ (fr'.bf.trans fr'.fh) .non
  |bk=>cases e
  |ct=>cases e
  |rt r'=>
   rintro σ' v H' ⟨F',A',fr'⟩
   obtain⟨s1,s2⟩:=fr'.resultO e
   exact q v H' s1 s2
 ·cases e
theorem BG {K:PySem.W.Frag} {f c P:Addr} {oc occ:Value} {od odc:Option Addr} {fd:FuncData} {sl slc:Array (Option Value)} {vs:Array Value} (a:PySem.W.nsIn K mainGlobals "in_told_order"=some (some (.ref f))) (l:K.lookup f=some ⟨oc,od,.func fd,sl⟩) (hc:fd.code=.ref c)
  (lc:K.lookup c=some ⟨occ,odc,.fields vs,slc⟩) (hv:(vs[11]? :Option Value)=some (.ref P)):An K=some P:=by
 unfold An
 rw[a]
 simp only[l,hc,lc,hv]
theorem BH {K:PySem.W.Frag} {h:Heap} {f c P:Addr} {oc occ:Value} {od odc:Option Addr} {fd:FuncData} {sl slc:Array (Option Value)} {vs:Array Value} (X:K.In h) (a:PySem.W.nsIn K mainGlobals "in_told_order"=some (some (.ref f))) (l:K.lookup f=some ⟨oc,od,.func fd,sl⟩) (hc:fd.code=.ref c)
  (lc:K.lookup c=some ⟨occ,odc,.fields vs,slc⟩) (hv:(vs[11]? :Option Value)=some (.ref P)) (hd:PySem.W.codeHdIn K c P=true) (hn:K.lookup P=none) (ht:h.get? P=some (PySem.W.tabObj #[])):xZ K h:=fun b q e=>by
 have tp:=BG a l hc lc hv
 unfold pv at e
 split at e
 ·rename_i hb
  rw[tp]at hb
  cases hb
  exact⟨ht,⟨c,PySem.W.codeHd_of_K X hd⟩,hn⟩
 ·cases e
end PL
namespace NhFam
abbrev Tx:=List Nat
def Srt(w:Tx):Prop:=w.Pairwise (· < ·)
def le(v w:Tx):Prop:=∀x∈v,x∈w
instance (v w:Tx):Decidable (le v w):=inferInstanceAs (Decidable (∀x∈v,x∈w))
theorem le.refl(v:Tx):le v v:=fun _ h=>h
theorem le.trans{u v w:Tx}(a:le u v)(b:le v w):le u w:=fun x h=>b x (a x h)
def Sub(U w:Tx):Prop:=Srt w∧le w U
theorem Srt.nodup{w:Tx}(h:Srt w):w.Nodup:=h.imp fun h=>Nat.ne_of_lt h
theorem fH:∀{w v:Tx},Srt v→Srt w→le v w→v.Sublist w
 |[],v,_,_,h=>by
  cases v with
  |nil=>exact .slnil
  |cons x v=>cases h x (List.mem_cons_self ..)
 |y::w,v,hv,hw,h=>by
  cases v with
  |nil=>exact List.nil_sublist _
  |cons x v=>
   have hw':=List.pairwise_cons.mp hw
   have hv':=List.pairwise_cons.mp hv
   by_cases e:x=y
   ·subst e
    refine(fH hv'.2 hw'.2 fun z hz=>?_).cons_cons _
    rcases List.mem_cons.mp (h z (List.mem_cons_of_mem _ hz))with q |q
    ·have:=hv'.1 z hz;omega
    ·exact q
   ·have hx:x∈w:=(List.mem_cons.mp (h x (List.mem_cons_self ..))).resolve_left e
    have lt:=hw'.1 x hx
    refine(fH hv hw'.2 fun z hz=>?_).cons _
    rcases List.mem_cons.mp (h z hz)with q |q
    ·subst q
     rcases List.mem_cons.mp hz with q |q
     ·omega
     ·have:=hv'.1 z q;omega
    ·exact q
theorem Srt.ext{v w:Tx}(hv:Srt v)(hw:Srt w)(a:le v w)(b:le w v):v=w:=
 (fH hv hw a).eq_of_length (Nat.le_antisymm (fH hv hw a).length_le (fH hw hv b).length_le)
theorem BI{v w:Tx}(hv:Srt v)(hw:Srt w)(a:le v w)(n:v≠w):v.length < w.length:=by
 have s:=fH hv hw a
 rcases Nat.lt_or_ge v.length w.length with h |h
 ·exact h
 ·exact absurd (s.eq_of_length (Nat.le_antisymm s.length_le h)) n
def key(w:Tx):NhSG.Ky:=((w.length:Int),w)
def lU(v w:Tx):Prop:=NhSG.ji (key v) (key w)=true
theorem qN{v w:Tx}(h:v.length < w.length):lU v w:=NhSG.ltKy_iff.mpr (.inl (by simp only[key];omega))
theorem qO(v:Tx):¬lU v v:=fun h=>by
 have:=(NhSG.iG default).irrefl (key v)
 unfold lU at h
 rw[show NhSG.ji (key v) (key v)=false from this]at h
 cases h
theorem sU{v w:Tx}(h1:¬lU v w)(h2:¬lU w v):v=w:=by
 have h:=(NhSG.iG default).total (key v) (key w) (by simpa[lU]using h1) (by simpa[lU]using h2)
 exact congrArg Prod.snd h
theorem sW{u v w:Tx}(a:lU u v)(b:lU v w):lU u w:=(NhSG.iG default).trans _ _ _ a b
theorem oE{v w:Tx}(a:lU v w):¬lU w v:=fun b=>qO v (sW a b)
def up(F:List Tx)(w:Tx):Prop:=∃v∈F,le v w
def Min(U:Tx)(f:Tx→Prop)(w:Tx):Prop:=Sub U w∧f w∧∀v,Sub U v→f v→le v w→v=w
structure Told (U:Tx) (L:List Tx) (f:Tx→Prop):Prop where
 srt:L.Pairwise lU
 mem:∀w,w∈L↔Min U f w
def wN(U:Tx)(f:Tx→Prop):Prop:=∀v w,Sub U v→Sub U w→le v w→f v→f w
theorem qP{U:Tx}{f:Tx→Prop}:∀(n:Nat) (w:Tx),w.length≤n→Sub U w→f w→∃v,Min U f v∧le v w
 |n,w,hn,hw,hf=>by
  by_cases h:∀v,Sub U v→f v→le v w→v=w
  ·exact⟨w,⟨hw,hf,h⟩,le.refl w⟩
  ·obtain⟨v,h⟩:=Classical.not_forall.mp h
   obtain⟨v1,h⟩:=Classical.not_imp.mp h
   obtain⟨v2,h⟩:=Classical.not_imp.mp h
   obtain⟨v3,v4⟩:=Classical.not_imp.mp h
   have:=BI v1.1 hw.1 v3 v4
   cases n with
   |zero=>omega
   |succ n=>
    obtain⟨u,a,b⟩:=qP n v (by omega) v1 v2
    exact⟨u,a,b.trans v3⟩
theorem Told.sub{U:Tx}{L:List Tx}{f:Tx→Prop}(h:Told U L f):∀w∈L,Sub U w:=fun w hw=>((h.mem w).mp hw).1
theorem Told.up_iff{U:Tx}{L:List Tx}{f:Tx→Prop}(h:Told U L f)(m:wN U f){w:Tx}(hw:Sub U w):up L w↔f w:=by
 constructor
 ·rintro⟨v,hv,l⟩
  have:=(h.mem v).mp hv
  exact m v w this.1 hw l this.2.1
 ·intro hf
  obtain⟨v,a,b⟩:=qP w.length w (Nat.le_refl _) hw hf
  exact⟨v,(h.mem v).mpr a,b⟩
theorem Min.congr{U:Tx}{f g:Tx→Prop}(h:∀w,Sub U w→(f w↔g w)){w:Tx}:Min U f w↔Min U g w:=by
 constructor
 ·rintro⟨a,b,c⟩;exact⟨a,(h w a).mp b,fun v v1 v2 v3=>c v v1 ((h v v1).mpr v2) v3⟩
 ·rintro⟨a,b,c⟩;exact⟨a,(h w a).mpr b,fun v v1 v2 v3=>c v v1 ((h v v1).mp v2) v3⟩
theorem Told.congr{U:Tx}{L:List Tx}{f g:Tx→Prop}(a:Told U L f)(h:∀w,Sub U w→(f w↔g w)):Told U L g:=⟨a.srt,fun w=>(a.mem w).trans (Min.congr h)⟩
theorem mC{L:List Tx}(h:L.Pairwise lU):L.Nodup:=h.imp fun {a b} h e=>by subst e;exact qO a h
theorem BJ{L L':List Tx}(a:L.Pairwise lU)(b:L'.Pairwise lU)(h:∀w,w∈L↔w∈L'):L=L':=
 ((List.perm_ext_iff_of_nodup (mC a) (mC b)).mpr h).eq_of_pairwise (fun x y _ _ p q=>absurd q (oE p)) a b
theorem Told.uniq{U:Tx}{L L':List Tx}{f g:Tx→Prop}(a:Told U L f)(b:Told U L' g)(h:∀w,Sub U w→(f w↔g w)):L=L':=
 BJ a.srt b.srt fun w=>(a.mem w).trans ((Min.congr h).trans (b.mem w).symm)
theorem pZ(U:Tx)(F:List Tx):wN U (up F):=fun v w _ _ l ⟨u,hu,h⟩=>⟨u,hu,h.trans l⟩
theorem uo{U:Tx}{F:List Tx}(hF:∀v∈F,Sub U v){w:Tx}:Min U (up F) w↔w∈F∧∀v∈F,le v w→v=w:=by
 constructor
 ·rintro⟨a,⟨v,hv,l⟩,c⟩
  have e:=c v (hF v hv) ⟨v,hv,le.refl v⟩ l
  subst e
  exact⟨hv,fun u hu l=>c u (hF u hu) ⟨u,hu,le.refl u⟩ l⟩
 ·rintro⟨a,b⟩
  refine⟨hF w a,⟨w,a,le.refl w⟩,fun v hv ⟨u,hu,l⟩ lv=>?_⟩
  have e:=b u hu (l.trans lv)
  subst e
  exact hv.1.ext (hF u hu).1 lv l
def d7(K:List Tx):List Tx→List Tx
 |[]=>K
 |w::r=>if K.any (fun k=>decide (le k w))then d7 K r else d7 (K++[w]) r
theorem kY:∀(S K Pre:List Tx),(∀v∈Pre++S,Srt v)→(∀v∈Pre,∃k∈K,le k v)→(∀k∈K,k∈Pre)→(∀v∈Pre,∀w∈S,¬lU w v)→S.Pairwise (fun a b=>¬lU b a)→
  (∀k∈K,∀v∈Pre,le v k→v=k)→K.Pairwise lU→(d7 K S).Pairwise lU∧∀w,w∈d7 K S↔w∈Pre++S∧∀v∈Pre++S,le v w→v=w
 |[],K,Pre,hs,h1,h2,h3,h4,h5,h6=>by
  refine⟨h6,fun w=>?_⟩
  simp only[d7,List.append_nil]
  refine⟨fun hw=>⟨h2 w hw,h5 w hw⟩,fun⟨a,b⟩=>?_⟩
  obtain⟨k,hk,l⟩:=h1 w a
  rw[←b k (h2 k hk) l]
  exact hk
 |w::S,K,Pre,hs,h1,h2,h3,h4,h5,h6=>by
  have e:Pre++w::S=(Pre++[w])++S:=by simp
  have h4':=List.pairwise_cons.mp h4
  have sw:Srt w:=hs w (by simp)
  have back:∀k∈K,le w k→w=k:=fun k hk l=>Classical.byContradiction fun n=>h3 k (h2 k hk) w (by simp) (qN (BI sw (hs k (by simp[h2 k hk])) l n))
  have o3:∀v∈Pre++[w],∀u∈S,¬lU u v:=fun v hv u hu=>by
   rcases List.mem_append.mp hv with q |q
   ·exact h3 v q u (List.mem_cons_of_mem _ hu)
   ·rw[List.mem_singleton.mp q];exact h4'.1 u hu
  rw[e]at hs ⊢
  by_cases h:K.any (fun k=>decide (le k w))=true
  ·rw[d7,if_pos h]
   obtain⟨k0,hk0,l0⟩:=List.any_eq_true.mp h
   refine kY S K (Pre++[w]) hs (fun v hv=>?_) (fun k hk=>by simp[h2 k hk]) o3 h4'.2 (fun k hk v hv l=>?_) h6
   ·rcases List.mem_append.mp hv with q |q
    ·exact h1 v q
    ·rw[List.mem_singleton.mp q];exact⟨k0,hk0,of_decide_eq_true l0⟩
   ·rcases List.mem_append.mp hv with q |q
    ·exact h5 k hk v q l
    ·rw[List.mem_singleton.mp q]at l ⊢;exact back k hk l
  ·rw[d7,if_neg h]
   have no:∀k∈K,¬le k w:=fun k hk l=>h (List.any_eq_true.mpr ⟨k,hk,decide_eq_true l⟩)
   refine kY S (K++[w]) (Pre++[w]) hs (fun v hv=>?_) (fun k hk=>?_) o3 h4'.2 (fun k hk v hv l=>?_) ?_
   ·rcases List.mem_append.mp hv with q |q
    ·obtain⟨k,hk,l⟩:=h1 v q;exact⟨k,by simp[hk],l⟩
    ·rw[List.mem_singleton.mp q];exact⟨w,by simp,le.refl w⟩
   ·rcases List.mem_append.mp hk with q |q
    ·simp[h2 k q]
    ·simp[List.mem_singleton.mp q]
   ·rcases List.mem_append.mp hk with p |p <;> rcases List.mem_append.mp hv with q |q
    ·exact h5 k p v q l
    ·rw[List.mem_singleton.mp q]at l ⊢;exact back k p l
    ·rw[List.mem_singleton.mp p]at l ⊢
     obtain⟨k',hk',l'⟩:=h1 v q
     exact absurd (l'.trans l) (no k' hk')
    ·rw[List.mem_singleton.mp p,List.mem_singleton.mp q]
   ·refine List.pairwise_append.mpr ⟨h6,List.pairwise_singleton _ _,fun k hk u hu=>?_⟩
    rw[List.mem_singleton.mp hu]
    refine Classical.byContradiction fun n=>no k hk ?_
    rw[sU n (h3 k (h2 k hk) w (by simp))]
    exact le.refl w
def j6(F:List Tx):List Tx:=F.mergeSort fun a b=> !NhSG.ji (key b) (key a)
theorem sortT_mem{F:List Tx}{w:Tx}:w∈j6 F↔w∈F:=(List.mergeSort_perm F _).mem_iff
theorem sX(F:List Tx):(j6 F).Pairwise fun a b=>¬lU b a:=by
 have h:=List.pairwise_mergeSort (le:=fun a b=> !NhSG.ji (key b) (key a)) (fun a b c h1 h2=>by
  have h1':¬lU b a:=by simpa[lU]using h1
  have h2':¬lU c b:=by simpa[lU]using h2
  have:¬lU c a:=fun z=>by
   by_cases q:lU a b
   ·exact h2' (sW z q)
   ·rw[sU q h1']at z;exact h2' z
  simpa[lU]using this) (fun a b=>by
  by_cases q:NhSG.ji (key b) (key a)=true
  ·have:¬lU a b:=oE q
   have:NhSG.ji (key a) (key b)=false:=by simpa[lU]using this
   simp[this]
  ·simp[Bool.not_eq_true _▸q]) F
 exact h.imp fun {a b} h=>by simpa[lU]using h
def aH(F:List Tx):List Tx:=d7 [] (j6 F)
theorem fj{U:Tx}{F:List Tx}(hF:∀v∈F,Sub U v):Told U (aH F) (up F):=by
 obtain⟨a,b⟩:=kY (j6 F) [] [] (fun v hv=>(hF v (sortT_mem.mp (by simpa using hv))).1) (fun v hv=>by cases hv) (fun v hv=>by cases hv) (fun v hv=>by cases hv) (sX F) (fun v hv=>by cases hv) .nil
 refine⟨a,fun w=>(b w).trans ?_⟩
 rw[uo hF]
 simp only[List.nil_append,sortT_mem]
def comp(U w:Tx):Tx:=U.filter fun x=> !decide (x∈w)
theorem comp_mem{U w:Tx}{x:Nat}:x∈comp U w↔x∈U∧x∉w:=by simp[comp]
theorem nR{U w:Tx}(hU:Srt U):Sub U (comp U w):=⟨hU.filter _,fun x hx=>(comp_mem.mp hx).1⟩
theorem zL{U w:Tx}(hU:Srt U)(hw:Sub U w):comp U (comp U w)=w:=by
 refine(nR hU).1.ext hw.1 (fun x hx=>?_) fun x hx=>?_
 ·obtain⟨a,b⟩:=comp_mem.mp hx
  exact Classical.byContradiction fun n=>b (comp_mem.mpr ⟨a,n⟩)
 ·exact comp_mem.mpr ⟨hw.2 x hx,fun z=>(comp_mem.mp z).2 hx⟩
theorem zM{U v w:Tx}(h:le v w):le (comp U w) (comp U v):=fun x hx=>comp_mem.mpr ⟨(comp_mem.mp hx).1,fun z=>(comp_mem.mp hx).2 (h x z)⟩
def BK(U:Tx)(f:Tx→Prop)(w:Tx):Prop:=¬f (comp U w)
theorem zN{U:Tx}(hU:Srt U){f:Tx→Prop}(m:wN U f):wN U (BK U f):=fun v w _ _ l h z=>h (m _ _ (nR hU) (nR hU) (zM l) z)
def jK(F:List Tx)(w:Tx):Prop:=∀v∈F,∃x∈v,x∈w
theorem mD{U:Tx}{F:List Tx}(hF:∀v∈F,Sub U v){w:Tx}:jK F w↔BK U (up F) w:=by
 constructor
 ·rintro h ⟨v,hv,l⟩
  obtain⟨x,hx,hw⟩:=h v hv
  exact(comp_mem.mp (l x hx)).2 hw
 ·intro h v hv
  refine Classical.byContradiction fun n=>h ⟨v,hv,fun x hx=>comp_mem.mpr ⟨(hF v hv).2 x hx,fun z=>n ⟨x,hx,z⟩⟩⟩
theorem wO{U V:Tx}{f:Tx→Prop}{L:List Tx}(hU:Srt U)(hV:Srt V)(l:le V U)(m:wN U f)(h:∀w,Sub U w→f w→f (w.filter fun x=>decide (x∈V)))(t:Told V L f):Told U L f:=by
 refine⟨t.srt,fun w=>(t.mem w).trans ?_⟩
 have up':∀{w},Sub V w→Sub U w:=fun a=>⟨a.1,a.2.trans l⟩
 have cut:∀{w},Sub U w→Sub V (w.filter fun x=>decide (x∈V)):=fun a=>⟨a.1.filter _,fun x hx=>by simpa using(List.mem_filter.mp hx).2⟩
 have cl:∀w:Tx,le (w.filter fun x=>decide (x∈V)) w:=fun w x hx=>(List.mem_filter.mp hx).1
 constructor
 ·rintro⟨a,b,c⟩
  refine⟨up' a,b,fun v v1 v2 v3=>?_⟩
  have e:=c _ (cut v1) (h v v1 v2) ((cl v).trans v3)
  refine v1.1.ext a.1 v3 ?_
  rw[←e]
  exact cl v
 ·rintro⟨a,b,c⟩
  have e:=c _ (up' (cut a)) (h w a b) (cl w)
  rw[←e]
  refine⟨cut a,h w a b,fun v v1 v2 v3=>?_⟩
  rw[e]at v3 ⊢
  exact c v (up' v1) v2 v3
end NhFam
namespace NhFam
def eP(w:Tx):List Tx:=w.foldl (fun acc a=>acc++acc.map (· ++[a])) [[]]
theorem vz:∀(V:Tx) (acc:List Tx) (w:Tx),w∈V.foldl (fun acc a=>acc++acc.map (· ++[a])) acc↔∃u∈acc,∃t,t.Sublist V∧w=u++t
 |[],acc,w=>by
  constructor
  ·intro h;exact⟨w,h,[],.slnil,by simp⟩
  ·rintro⟨u,hu,t,ht,rfl⟩
   have:t=[]:=by simpa using ht
   subst this
   simpa using hu
 |a::V,acc,w=>by
  rw[List.foldl_cons,vz V]
  constructor
  ·rintro⟨u,hu,t,ht,rfl⟩
   rcases List.mem_append.mp hu with q |q
   ·exact⟨u,q,t,ht.cons _,rfl⟩
   ·obtain⟨v,hv,rfl⟩:=List.mem_map.mp q
    exact⟨v,hv,a::t,ht.cons_cons _,by simp⟩
  ·rintro⟨u,hu,t,ht,rfl⟩
   cases ht with
   |cons _ h=>exact⟨u,by simp[hu],t,h,rfl⟩
   |cons_cons _ h=>exact⟨u++[a],by simp[hu],_,h,by simp⟩
theorem gY{V:Tx}(hV:Srt V){w:Tx}:w∈eP V↔Sub V w:=by
 unfold eP
 rw[vz]
 constructor
 ·rintro⟨u,hu,t,ht,rfl⟩
  rw[List.mem_singleton.mp hu,List.nil_append]
  exact⟨List.Pairwise.sublist ht hV,fun x hx=>ht.subset hx⟩
 ·intro h
  exact⟨[],by simp,w,fH h.1 hV h.2,rfl⟩
theorem nT(V:Tx):(eP V).length=2 ^ V.length:=by
 have key:∀(V:Tx) (acc:List Tx),(V.foldl (fun acc a=>acc++acc.map (· ++[a])) acc).length=acc.length*2 ^ V.length:=fun V=>by
  induction V with
  |nil=>intro acc;simp
  |cons a V ih=>
   intro acc
   rw[List.foldl_cons,ih,List.length_append,List.length_map,List.length_cons,Nat.pow_succ,←Nat.two_mul,Nat.mul_comm 2,Nat.mul_assoc,Nat.mul_comm 2]
 unfold eP
 rw[key]
 simp
def fk(F:List Tx)(w:Tx):Bool:=F.all fun v=> !decide (∀x∈v,x∉w)
theorem sY{F:List Tx}{w:Tx}:fk F w=true↔jK F w:=by
 unfold fk jK
 rw[List.all_eq_true]
 refine⟨fun h v hv=>?_,fun h v hv=>?_⟩
 ·have:=h v hv
  simp only[Bool.not_eq_true',decide_eq_false_iff_not]at this
  obtain⟨x,h⟩:=Classical.not_forall.mp this
  obtain⟨a,b⟩:=Classical.not_imp.mp h
  exact⟨x,a,Classical.not_not.mp b⟩
 ·obtain⟨x,a,b⟩:=h v hv
  simp only[Bool.not_eq_true',decide_eq_false_iff_not]
  exact fun z=>z x a b
def IL(F:List Tx)(w:Tx):Bool:=F.any fun k=>decide (le k w)
theorem Dx{F:List Tx}{w:Tx}:IL F w=true↔up F w:=by
 unfold IL up
 rw[List.any_eq_true]
 simp
theorem qQ{U V:Tx}{f:Tx→Prop}{G:List Tx}(hU:Srt U)(hV:Srt V)(l:le V U)(m:wN U f)(hG:∀w,w∈G↔Sub V w∧f w)(h:∀w,Sub U w→f w→f (w.filter fun x=>decide (x∈V))):Told U (aH G) f:=by
 refine wO hU hV l m h ((fj fun v hv=>((hG v).mp hv).1).congr fun w hw=>?_)
 constructor
 ·rintro⟨v,hv,q⟩
  obtain⟨a,b⟩:=(hG v).mp hv
  exact m v w ⟨a.1,a.2.trans l⟩ ⟨hw.1,hw.2.trans l⟩ q b
 ·intro q
  exact⟨w,(hG w).mpr ⟨hw,q⟩,le.refl w⟩
theorem vA{U:Tx}{F:List Tx}(hF:∀v∈F,Sub U v){w:Tx}:jK (aH F) w↔jK F w:=by
 have t:=fj hF
 constructor
 ·intro h v hv
  obtain⟨k,hk,l⟩:=(t.up_iff (pZ U F) (hF v hv)).mpr ⟨v,hv,le.refl v⟩
  obtain⟨x,a,b⟩:=h k hk
  exact⟨x,l x a,b⟩
 ·intro h v hv
  exact h v ((uo hF).mp ((t.mem v).mp hv)).1
def qR(F:List Tx)(V:Tx):List Tx:=aH ((eP V).filter (fk (aH F)))
theorem sZ{F:List Tx}{V w:Tx}(hF:∀v∈F,le v V)(h:jK F w):jK F (w.filter fun x=>decide (x∈V)):=fun v hv=>by
 obtain⟨x,a,b⟩:=h v hv
 exact⟨x,a,List.mem_filter.mpr ⟨b,decide_eq_true (hF v hv x a)⟩⟩
theorem oF{U V:Tx}{F:List Tx}(hU:Srt U)(hV:Srt V)(l:le V U)(hF:∀v∈F,Sub U v)(hFV:∀v∈F,le v V):Told U (qR F V) (BK U (up F)):=by
 refine(qQ (f:=jK F) hU hV l (fun v w _ _ q h u hu=>?_) (fun w=>?_) fun w _ h=>sZ hFV h).congr fun w hw=>mD hF
 ·obtain⟨x,a,b⟩:=h u hu
  exact⟨x,a,q x b⟩
 ·rw[List.mem_filter,gY hV,sY,vA hF]
end NhFam
namespace NhSS
set_option autoImplicit false
open PySem PyProof PyProof.Rows
@[reducible] def tx (p:Keyed):List Nat:=(strOf p.1).cps.toList
def IM(p:Keyed):Prop:=∃x t,p.1=.str x t
def Told(ss:List Str)(out:Array Value):Prop:=∃zs,StrsAre out.toList zs∧zs.Perm ss∧sortedS zs=true
section
variable {prog:Program} {w:World} {A:Around} {E:Value→Shared→Prop} {s:Shared} {a:Addr} {vs:List Value} {ss:List Str} {n:Nat}
theorem Iw:NhLS.Cmp prog w A s oneType' strKind.toKeyOrd tx IM:=by
 constructor
 rintro E ⟨_,x2⟩ ⟨_,y2⟩ Q ⟨x,t,rfl⟩ ⟨y,u,rfl⟩ hq
 rw[keyLt'_oneType]
 exact strKind_oneLt prog w A E s (.str x t) (.str y u) x.cps.toList y.cps.toList rfl rfl hq
theorem xn(hS:StrsAre vs ss):∀p∈vs.zip vs,IM p:=fun p hp=>hS.all _ (List.of_mem_zip hp).1
theorem Dy(hS:StrsAre vs ss){b:Array Keyed}(hp:b.toList.Perm (vs.zip vs))(hs:NhLS.So strKind.toKeyOrd tx b 0 b.size):Told ss (b.map (·.2)):=by
 have at_:∀i,i < b.size→KK strKind b i=tx (NhLS.at' b i):=fun i hi=>by
  obtain⟨x,t,e⟩:=xn hS b[i] (hp.mem_iff.mp (by simp))
  rw[KK_str hi (x:=x) (t:=t) (q:=b[i].2) (Prod.ext e rfl)]
  simp[tx,NhLS.at',Array.getD,hi,e,strOf]
 refine sorted_out_str hS (Array.perm_iff_toList_perm.mpr (by rw[pairsOf_toList];exact hp)) fun i j hij hj=>?_
 have hz:(pairsOf vs).size=b.size:=by have:=hp.length_eq;rw[pairsOf_size];simp at this;omega
 rw[hz]at hj
 rw[at_ i (by omega),at_ j hj]
 exact hs.le (Nat.zero_le _) hij hj
theorem BL {P:PySem.Fin→Shared→Prop} (ho:s.heap.get? a=some (seqObj "list" vs.toArray n)) (hS:StrsAre vs ss) (hn:vs.length < 65536)
  (h:∀h' out c,h'.get? a=some (seqObj "list" out c)→Told ss out→(∀b o,b≠a→s.heap.get? b=some o→h'.get? b=some o)→P (.done (.ret .none)) {s with heap:=h'}):
  wpAny (model prog w) A (Builtin.«list.sort» ⟨[.ref a],[]⟩) P E s:=by
 have big:∀k,k=vs.length→k≤sizeLine:=fun k e=>by rw[sizeLine_eq];omega
 have k0:=Heap.SameBut.update s.heap a (Obj.mapSeq fun _=>(#[]:Array Value))
 obtain⟨c0,o0⟩:∃c,(s.heap.update a (Obj.mapSeq fun _=>(#[]:Array Value))).get? a=some (seqObj "list" #[] c):=⟨_,get?_update_seq ho fun _=>#[]⟩
 have o2:=Heap.get?_push_of_some (seqObj "list" (#[]:Array Value) 0) (Heap.get?_push_of_some (seqObj "tuple" vs.toArray 0) o0)
 have back:∀arr:Array Keyed,arr.toList.Perm (vs.zip vs)→NhLS.So strKind.toKeyOrd tx arr 0 arr.size→P (.done (.ret .none)) {s with heap:=(((s.heap.update a (Obj.mapSeq fun _=>(#[]:Array Value))).push (seqObj "tuple" vs.toArray 0)).push (seqObj "list" #[] 0)).update a (Obj.mapSeq fun _=>arr.map (·.2))}:=fun arr hp hs=>by
  have k1:=Heap.SameBut.update (((s.heap.update a (Obj.mapSeq fun _=>(#[]:Array Value))).push (seqObj "tuple" vs.toArray 0)).push (seqObj "list" #[] 0)) a (Obj.mapSeq fun _=>arr.map (·.2))
  exact h _ _ _ (get?_update_seq o2 fun _=>arr.map (·.2)) (Dy hS hp hs) fun b o hb q=>(k1.2 b hb).trans (Heap.get?_push_of_some _ (Heap.get?_push_of_some _ ((k0.2 b hb).trans q)))
 rw[list_sort_plain]
 refine wpAny_bind (listItems_at ho rfl (wpAny_bind (listUpdate_at ho rfl ?_ (big _ (by simp)) (Nat.zero_le _))))
 refine wpAny_bind (seqEpoch_at o0 rfl (wpAny_bind (wpAny_newTuple ?_ (big _ (by simp)))))
 refine wpAny_bind (wpAny_newList (wpAny_holding ?_) (Nat.zero_le _))
 dsimp only
 by_cases many:2≤vs.length
 ·obtain⟨u,v,r,e⟩:∃u v r,vs=u::v::r:=by
   rcases vs with _ |⟨u,_ |⟨v,r⟩⟩
   ·cases many
   ·simp at many
   ·exact⟨u,v,r,rfl⟩
  rw[if_neg (by simpa using many),if_neg (by simpa using many),show keyKind' vs.toArray=pure oneType' by rw[e];exact keyKind_strs (by rw[←e];exact hS)]
  refine wpAny_bind (wpAny_pure (wpAny_bind (wpAny_mono (NhLS.qM (E:=E) (a:=vs.toArray.zip vs.toArray) (g:=7) (Iw (prog:=prog) (w:=w) (A:=A) (s:=_))
   (Q:=fun _ st=>∃b pd g,st=SortSt.mk' oneType' b pd g none∧b.toList.Perm (vs.zip vs)∧NhLS.So strKind.toKeyOrd tx b 0 b.size) (by simpa using xn hS)
   fun b pd g hp hs=>⟨b,pd,g,rfl,by simpa using hp,by have:=hp.length_eq;simp only[Array.length_toList]at this;rw[this];exact hs⟩) ?_ fun _ _ e=>e)))
  rintro⟨⟨⟩,st⟩ s' ⟨rfl,b,pd,g,e,hp,hs⟩
  dsimp only at e
  subst e
  have hz:b.size=vs.length:=by have:=hp.length_eq;simpa using this
  dsimp only
  refine wpAny_bind (seqEpoch_at o2 rfl (wpAny_bind (listUpdate_at o2 rfl ?_ (Nat.zero_le _) (by have:=big _ hz;show(b.map _).size≤_;rw[Array.size_map];omega))))
  rw[if_neg (by simp)]
  exact wpAny_pure (back b hp hs)
 ·rw[if_pos (by simp;omega),if_pos (by simp;omega)]
  refine wpAny_bind (wpAny_pure ?_)
  rw[StateT.run_pure]
  refine wpAny_bind (wpAny_pure ?_)
  dsimp only
  refine wpAny_bind (seqEpoch_at o2 rfl (wpAny_bind (listUpdate_at o2 rfl ?_ (Nat.zero_le _) (by show((vs.toArray.zip vs.toArray).map _).size≤_;rw[sizeLine_eq];simp;omega))))
  rw[if_neg (by simp)]
  refine wpAny_pure (back (vs.toArray.zip vs.toArray) (by simp) fun i j _ hij hj=>?_)
  simp at hj
  omega
theorem vB{l:Addr}{Q:Value→Shared→Prop}(hl:s.heap.IsList l vs.toArray)(hS:StrsAre vs ss)(hn:vs.length < 65536)
  (h:∀h' out c,h'.get? (s.heap.objs.size+1)=some (seqObj "list" out c)→Told ss out→NhSG.Keep s.heap h'→Q (.ref (s.heap.objs.size+1)) {s with heap:=h'}):
  wpAny (model prog w) A (call (.builtin "sorted") [.ref l]) Q E s:=by
 have sz:((s.heap.push (seqObj "list" #[] 0)).update s.heap.objs.size (Obj.mapSeq (· ++vs.toArray))).objs.size=s.heap.objs.size+1:=by rw[Heap.size_update,size_push']
 have k0:=Heap.SameBut.update (s.heap.push (seqObj "list" #[] 0)) s.heap.objs.size (Obj.mapSeq (· ++vs.toArray))
 have jL:=Heap.get?_push_size ((s.heap.push (seqObj "list" #[] 0)).update s.heap.objs.size (Obj.mapSeq (· ++vs.toArray))) (o:=seqObj "list" vs.toArray 0) rfl
 rw[sz]at jL
 refine Calls.call_function_entry kind_sorted plain_sorted entry_sorted (args_sorted1 _) ?_
 unfold Builtin.«sorted»
 refine wpAny_bind (m:=checkCount "sorted" 1 1 _) (wpAny_pure (wpAny_bind (collect_list hl (wpAny_bind (wpAny_newList ?_ (by rw[sizeLine_eq];omega))))))
 rw[sz]
 refine wpAny_bind (wpAny_holding (wpAny_call_entry slot_list_sort ⟨_,jL,rfl⟩ entry_list_sort (BL (ss:=ss) jL hS hn fun h' out c q1 q2 q3=>⟨_,rfl,wpAny_pure ⟨_,rfl,?_⟩⟩) (args_list_sort _)))
 refine h h' out c q1 q2 fun b o q=>q3 b o ?_ (Heap.get?_push_of_some _ ((k0.2 b ?_).trans (Heap.get?_push_of_some _ q)))
 ·exact Nat.ne_of_lt (Nat.lt_succ_of_lt (Heap.lt_size q))
 ·exact Nat.ne_of_lt (Heap.lt_size q)
end
end NhSS
namespace PL
open PySem L2 Nh
section
variable {X:Cx} {e:Expr} {m1:Bool} {f:bC} {p pos:Pos}
theorem uq:CallR X (.builtin "sorted") (fun xs H Q=>∃(p:Addr) (ss:List Str),xs=[.ref p]∧SqL X.K H p (ss.map V.str)∧ss.length < 65536∧∀l,H l=none→Q (.ref l) (fS H l (.lst ((iR ss).map V.str)))):=by
 intro pins s σ H xs us Q I r h
 obtain⟨p,ss,rfl,hq,h64,q⟩:=h
 cases r with
 |cons r rr=>
  cases rr
  cases r
  obtain⟨its,rv,pl,hz⟩:=I.list hq
  have hS:=nH rv
  have hl:its.length=ss.length:=by have:=rv.length;simpa using this.symm
  refine NhSS.vB pl.isList hS (by omega) fun h' out e he ⟨zs,a1,a2,a3⟩ hk=>?_
  have:=m8 a2 a3
  subst this
  refine⟨.ref (s.heap.objs.size+1),_,I.laid (t':=s.toks) hk (Nat.le_succ _) (show ObjOk X.prog X.w _ _ _ (.lst ((iR ss).map V.str))from⟨?_,out.toList,e,nI a1,he⟩),rfl,q _ (I.hok.fresh (Nat.le_succ _))⟩
  rw[List.length_map,mB]
  exact i9 (by omega)
def lX(g:bC):bC:=fun E=>(g E).bind fun a=>match look a.2 a.1 with
 |some (.list ds)=>(lA ds).bind fun ss=>if ss.length < 65536 then some (.ow ((iR ss).map .str),a.2)else none
 |_=>none
theorem wP (hg:Gl X "sorted") (hm:X.mg "sorted"=none) (ha:EX X e m1 f) (he:starEach [e] X.env=[(false,eval e X.env)]:=by rfl):EX X (.Call (.Name "sorted" p) [e] [] pos) m1 (lX f):=by
 refine cR (lI uq hg hm PyProof.Rows.boot_sorted (gc ha iY he) (by decide) (by decide) he rfl) fun σ H Q z=>?_
 obtain⟨B,E,xs,Xs,res,E',fr,cl,e,q⟩:=z
 obtain⟨⟨s,E1⟩,e1,e⟩:=Option.bind_eq_some_iff.mp e
 refine⟨B,E,xs,Xs,s,E1,fr,cl,e1,fun v1 H1 ⟨F,A,fr1⟩=>?_⟩
 obtain⟨A',fr2⟩:=fr1.pop
 simp only at e
 split at e
 ·rename_i ds ld
  obtain⟨ss,es,e⟩:=Option.bind_eq_some_iff.mp e
  split at e
  ·rename_i hc
   cases e
   have r:=(fr1.look0 ld).1
   cases r with
   |lst h1 h2=>
    have:=nJ h2 es
    subst this
    exact⟨_,ss,rfl,h1,hc,fun l hl=>q _ _ ⟨F,_,fr2.newl (ku _) hl⟩⟩
  ·cases e
 ·cases e
end
end PL
namespace PL
open PySem L2 Nh
section
variable {X:Cx}
theorem FO{body:List Stmt}{h₀:ExceptHandler}{hs:List ExceptHandler}{pos:Pos}{g:de}(hx:X.xe=fun _ _=>False)(h:y0 X body g):SX X (.Try body (h₀::hs) [] [] pos) g:=by
 intro pins s σ H D I hw
 have q:=h pins s σ H D I hw
 rw[hx]at q
 refine wpAny_Try_except (wpAny_mono q (fun f s1 z=>?_) fun _ _ z=>z.elim)
 cases f with
 |next=>exact wpAny_execs_nil z
 |brk=>exact z
 |cont=>exact z
 |ret u=>exact z
end
end PL
namespace NH
variable {α:Type} [DecidableEq α]
theorem vC{a a':List (α×Int)}(h:short a=short a')(b:List (α×Int)):short (a++b)=short (a'++b):=by
 have k:stk a=stk a':=by
  have:=congrArg List.reverse h
  simpa[short]using this
 unfold short stk at *
 rw[List.foldl_append,List.foldl_append,k]
theorem s_{b b':List (α×Int)}(a:List (α×Int))(h:short b=short b'):short (a++b)=short (a++b'):=by
 rw[gy,gy]at h ⊢
 unfold qg at *
 rw[List.foldr_append,List.foldr_append,h]
theorem jj{a a' b b':List (α×Int)}(h:short a=short a')(k:short b=short b'):short (a++b)=short (a'++b'):=(vC h b).trans (s_ a' k)
theorem BM(A X B:List (α×Int)):short (A++(X++aR X)++B)=short (A++B):=by
 have:=yZ (A:=A) (B:=B) (X:=X++aR X) (Y:=[]) (AE X)
 simpa using this
theorem Dz(A X B:List (α×Int)):short (A++(aR X++X)++B)=short (A++B):=by
 have:=BM A (aR X) B
 rwa [uY]at this
theorem td{a a':List (α×Int)}(h:short a=short a'):short (aR a)=short (aR a'):=by
 have h1:short (aR a++(a++aR a'))=short (aR a++(a'++aR a')):=s_ _ (vC h _)
 have h2:=BM (aR a) a' []
 have h3:=Dz [] a (aR a')
 simp only[List.append_nil,List.nil_append,List.append_assoc]at h1 h2 h3
 rw[←h2,←h1,h3]
end NH
namespace NH
variable {α:Type} [DecidableEq α]
end NH
namespace NH
variable {α:Type} [DecidableEq α]
theorem p9:∀{a b:List (α×Int)},Red a→Red b→(∀x y,a.getLast? =some x→b.head? =some y→x.1≠y.1)→Red (a++b)
 |[],b,_,h,_=>h
 |[x],b,ha,hb,hj=>Red.cons ha.head (fun q hq=>hj x q rfl hq) hb
 |x::y::a,b,ha,hb,hj=>Red.cons ha.head (fun q hq=>ha.next q hq) (p9 (a:=y::a) ha.tail hb fun u v hu hv=>hj u v (by simpa using hu) hv)
end NH
namespace Nhk53
open PySem L2 Nh PL
def mE:de:=(aN (xL (ki (lG .str) (aa 0)) (xL (ag hZ false (bY eK (ae false (aa 0) ak)) (pC (.int 1))) (qp (iQ .le) (iQ .le) false false (pC (.str "a")) (aa 0) (pC (.str "z"))))))
def iq:List PyData→Option Sl:=dN 1 1 mE
def bw:gS:=(jF 2 (fu (aI 2) (fu (aI 3) jE)))
def bx:de:=(aA (aB 4 (aa 3))
 (aA (bg (jC (dw (aa 1)) (cV (ag hZ false (ag jf false (ag jf false (aa 1) (ki lE (pC (.int 1)))) (pC (.int 0))) (aa 2))))
 (aB 4 (ag aT false (ag jf false (mL 1) (pC (.int 1))) (aa 3)))
 aL)
 (bg (cV (ag jX false (aa 4) (pC (.int 0))))
 (bU (aU 1 (gX (aV (aa 2) (aV (aa 4) aZ)))))
 aL)))
def jk:de:=(aA (aB 1 (bD aZ))
 (aA (cw (aQ (aa 0)) bw
 bx)
 (aN (aa 1))))
def fI:List PyData→Option Sl:=dN 1 5 jk
def mF:de:=(aN (ag hZ false (bY eK (ae false (aj fI (ae false (aa 0) ak)) ak)) (pC (.int 0))))
def ir:List PyData→Option Sl:=dN 1 1 mF
def nU:de:=(aN (ag aT false (aa 0) (aa 1)))
def iu:List PyData→Option Sl:=dN 2 2 nU
def iH:gS:=(jF 2 (fu (aI 0) (fu (aI 1) jE)))
def gB:bC:=(gX (aV (aa 0) (aV (ki lE (aa 1)) aZ)))
def kZ:de:=(aN (ba [none,none] (o4 (aa 0)) iH bK gB))
def fU:List PyData→Option Sl:=dN 1 1 kZ
def gg:de:=(aN (ag aT false (ag aT false (ag aT false (aa 0) (aa 1)) (aj fU (ae false (aa 0) ak))) (aj fU (ae false (aa 1) ak))))
def bN:List PyData→Option Sl:=dN 2 2 gg
def iT:gS:=(aI 1)
def iU:de:=(bg (d0 (dw (aj iq (ae false (aa 1) ak))))
 jI
 aL)
def nV:de:=(aA (bg (d0 (dw (ki (lG .str) (aa 0))))
 jI
 aL)
 (aA (cw (aQ (aa 0)) iT
 iU)
 (aN (eN "" (dC (aa 0))))))
def df:List PyData→Option Sl:=dN 1 2 nV
def iI:gS:=(jF 2 (fu (aI 0) (fu (aI 1) jE)))
def iJ:bC:=(aa 0)
def k_:de:=(aN (eN "" (dC (ba [none,none] (aQ (aa 0)) iI bK iJ))))
def fm:List PyData→Option Sl:=dN 1 1 k_
def jl:gS:=(aI 0)
def jm:bC:=(aa 0)
def gh:mq:=(cV (ag (xT true) false (ag jf false (aa 0) (pC (.int 0))) (aa 1)))
def mG:de:=(aA (aB 2 (aj df (ae false (aa 1) ak)))
 (aN (ba [none,some 2] (aQ (aa 0)) jl gh jm)))
def iv:List PyData→Option Sl:=dN 2 3 mG
def gL:de:=(aN (aj ir (ae false (aj iv (ae false (aa 0) (ae false (aa 1) ak))) ak)))
def bh:List PyData→Option Sl:=dN 2 2 gL
def gZ:gS:=(aI 3)
def g5:de:=(aA (bg (cV (ag (xT false) false (aa 3) (aa 0)))
 (aB 1 (ag aT false (aa 1) (aa 2)))
 aL)
 (aB 2 (ag hW false (aa 2) (pC (.int 2)))))
def mH:de:=(aA (aB 1 (pC (.int 0)))
 (aA (aB 2 (pC (.int 1)))
 (aA (cw (aQ (pC (.str "abcdefghijklmnopqrstuvwxyz"))) gZ
 g5)
 (aN (aa 1)))))
def cC:List PyData→Option Sl:=dN 1 4 mH
def gM:de:=(aN (um (aa 0)))
def bH:List PyData→Option Sl:=dN 1 1 gM
def cq:gS:=(aI 2)
def bL:de:=(bg (cV (ag hZ false (ag tZ false (aa 2) (aa 0)) (aa 2)))
 (aN (pC (.bool true)))
 aL)
def eQ:de:=(aA (cw (aQ (aa 1)) cq
 bL)
 (aN (pC (.bool false))))
def a_:List PyData→Option Sl:=dN 2 3 eQ
def dP:gS:=(aI 2)
def cS:de:=(bg (cV (ag hZ false (ag tZ false (aa 2) (aa 0)) (pC (.int 0))))
 (aN (pC (.bool false)))
 aL)
def g7:de:=(aA (cw (aQ (aa 1)) dP
 cS)
 (aN (pC (.bool true))))
def cZ:List PyData→Option Sl:=dN 2 3 g7
def eC:gS:=(aI 3)
def c_:de:=(aA (aB 4 (aj cC (ae false (aa 3) ak)))
 (bg (d0 (dw (aj a_ (ae false (aa 4) (ae false (aa 2) ak)))))
 (aA (bU (aU 2 (aa 4)))
 (bU (aU 1 (aa 3))))
 aL))
def jM:de:=(aA (aB 1 (bD aZ))
 (aA (aB 2 (bD aZ))
 (aA (cw (aQ (aj bH (ae false (aa 0) ak))) eC
 c_)
 (aN (aa 1)))))
def bV:List PyData→Option Sl:=dN 1 5 jM
def iK:gS:=(aI 0)
def gC:bC:=(ag aT false (aa 0) (aa 1))
def fJ:gS:=(aI 2)
def fK:de:=(aB 1 (ag aT false (aa 1) (ba [none,some 2] (aQ (aa 1)) iK bK gC)))
def jN:de:=(aA (aB 1 (bD (aV (pC (.str "")) aZ)))
 (aA (cw (aQ (aa 0)) fJ
 fK)
 (aN (aa 1))))
def bj:List PyData→Option Sl:=dN 1 3 jN
def jn:de:=(bg (cV (ag (fD (iQ .gt)) false (bY eK (ae false (aa 0) ak)) (pC (.int 10))))
 jI
 aL)
def cc:List PyData→Option Sl:=dN 1 1 jn
def iL:de:=(aN (aj df (ae false (eN "" (aa 0)) ak)))
def cF:List PyData→Option Sl:=dN 1 1 iL
def dQ:gS:=(aI 0)
def dR:bC:=(aj df (ae false (aa 0) ak))
def jr:de:=(aN (aj bV (ae false (ba [none] (aQ (aa 0)) dQ bK dR) ak)))
def bi:List PyData→Option Sl:=dN 1 1 jr
def cK:gS:=(aI 0)
def cL:bC:=(aj cC (ae false (aa 0) ak))
def cM:gS:=(aI 0)
def cN:bC:=(aa 0)
def cg:mq:=(dw (aj cZ (ae false (aj cC (ae false (aa 0) ak)) (ae false (aa 1) ak))))
def fV:de:=(aA (aB 1 (ba [none] (aQ (aj bi (ae false (aa 0) ak))) cK bK cL))
 (aA (aB 2 (aj cF (ae false (aa 0) ak)))
 (aA (bU (aj cc (ae false (aa 2) ak)))
 (aN (aj bV (ae false (ba [none,some 1] (aQ (aj bj (ae false (aa 2) ak))) cM cg cN) ak))))))
def aJ:List PyData→Option Sl:=dN 1 3 fV
def d8:gS:=(aI 0)
def d_:bC:=(aa 0)
def cO:mq:=(dw (aj bh (ae false (aa 1) (ae false (aa 0) ak))))
def fW:de:=(aA (aB 1 (aj fm (ae false (aa 0) ak)))
 (aA (bU (aj cc (ae false (aa 1) ak)))
 (aN (aj bV (ae false (ba [none,some 0] (aQ (aj bj (ae false (aa 1) ak))) d8 cO d_) ak)))))
def aS:List PyData→Option Sl:=dN 1 2 fW
def fX:de:=(aN (aj aJ (ae false (aj aS (ae false (aa 0) ak)) ak)))
def bT:List PyData→Option Sl:=dN 1 1 fX
def dD:de:=(aN (aj bi (ae false (aa 0) ak)))
def bn:List PyData→Option Sl:=dN 1 1 dD
def g8:de:=(aA (bg (lS (d0 (dw (ki (lG .list) (aa 0)))) (cV (ag hZ false (bY eK (ae false (aa 0) ak)) (pC (.int 0)))))
 jI
 aL)
 (aA (bg (cV (ag jX false (aj bn (ae false (aa 0) ak)) (aa 0)))
 jI
 aL)
 (bg (cV (ag hZ false (ag jf false (aa 0) (pC (.int 0))) (pC (.str ""))))
 jI
 aL)))
def eD:List PyData→Option Sl:=dN 1 1 g8
def jt:de:=(aN (ag cJ false (ag aT false (aa 0) (pC (.int 1))) (pC (.int 2))))
def bA:List PyData→Option Sl:=dN 1 1 jt
def cG(self:List PyData→Option Sl):de:=(aA (bg (cV (ag hZ false (bY eK (ae false (aa 0) ak)) (pC (.int 1))))
 (aN (bD (aV (gX (aV (aa 0) (aV (pC (.int 1)) aZ))) aZ)))
 aL)
 (aA (aB 1 (aj bA (ae false (bY eK (ae false (aa 0) ak)) ak)))
 (aN (aj bN (ae false (aj self (ae false (jU false (aa 0) jY (eI (aa 1))) ak)) (ae false (aj self (ae false (jU false (aa 0) (eI (aa 1)) jY) ak)) ak))))))
def dg:Nat→List PyData→Option Sl
 | 0=>fun _=>none
 |k+1=>dN 1 2 (cG (dg k))
def dS:List PyData→Option Sl:=dg 8
def cH(self:List PyData→Option Sl):de:=(aA (bg (cV (ag hZ false (aa 0) (pC (.int 1))))
 (aN (pC (.int 1)))
 aL)
 (aA (aB 1 (aj bA (ae false (aa 0) ak)))
 (aN (ag hW false (pC (.int 2)) (ag aT false (aj self (ae false (aa 1) ak)) (aj self (ae false (ag tV false (aa 0) (aa 1)) ak)))))))
def dh:Nat→List PyData→Option Sl
 | 0=>fun _=>none
 |k+1=>dN 1 2 (cH (dh k))
def jc:List PyData→Option Sl:=dh 8
def gO:gS:=(aI 0)
def fz:bC:=(aj jc (ae false (bY eK (ae false (aa 0) ak)) ak))
def fG:de:=(aA (bU (aj eD (ae false (aa 0) ak)))
 (aN (bY zk (ae false (ba [none] (aQ (aj aJ (ae false (aa 0) ak))) gO bK fz) ak))))
def bI:List PyData→Option Sl:=dN 1 1 fG
def g9:gS:=(aI 2)
def gi:de:=(aB 1 (aj iu (ae false (aa 1) (ae false (aj dS (ae false (aa 2) ak)) ak))))
def kA:de:=(aA (bg (cV (ag (fD (iQ .gt)) false (aj bI (ae false (aa 0) ak)) (pC (.int 800))))
 jI
 aL)
 (aA (aB 1 (bD aZ))
 (aA (cw (aQ (aj aJ (ae false (aa 0) ak))) g9
 gi)
 (aN (aa 1)))))
def cU:List PyData→Option Sl:=dN 1 3 kA
def nW:de:=(aA (bg (cV (ag (fD (iQ .lt)) false (aa 1) (bY eK (ae false (aa 0) ak))))
 (aN (ag jf false (aa 0) (aa 1)))
 aL)
 (aN (pC (.int 0))))
def bP:List PyData→Option Sl:=dN 2 2 nW
def mI:de:=(aA (aB 2 (ag gd false (ag aT false (ag aT false (ag hW false (ag gd false (aa 0) (ag qo false (pC (.int 10)) (pC (.int 40)))) (ag aT false (pC (.int 62089911)) (ag hW false (pC (.int 2)) (aa 1)))) (ag hW false (pC (.int 982451653)) (aa 1))) (pC (.int 17))) (pC (.int 4294967291))))
 (aN (ag gd false (ag hW false (aa 2) (ag aT false (ag aT false (ag cJ false (aa 2) (pC (.int 1024))) (ag hW false (pC (.int 2)) (aa 1))) (pC (.int 1)))) (pC (.int 4294967279)))))
def ck:List PyData→Option Sl:=dN 2 3 mI
def fR:gS:=(jF 2 (fu (aI 0) (fu (aI 1) jE)))
def ee:bC:=(gX (aV (aa 0) (aV (ag tV false (pC (.int 0)) (aa 1)) aZ)))
def g_:de:=(aN (ba [none,none] (o4 (aa 0)) fR bK ee))
def bB:List PyData→Option Sl:=dN 1 1 g_
def eG:gS:=(jF 2 (fu (aI 2) (fu (aI 3) jE)))
def ce:de:=(aA (bg (jC (cV (ag jX false (aa 1) (bD aZ))) (cV (ag hZ false (ag jf false (ag jf false (aa 1) (ki lE (pC (.int 1)))) (pC (.int 0))) (aa 2))))
 (aB 3 (ag aT true (aa 3) (ag jf false (mL 1) (pC (.int 1)))))
 aL)
 (bg (cV (ag jX false (aa 3) (pC (.int 0))))
 (bU (aU 1 (gX (aV (aa 2) (aV (aa 3) aZ)))))
 aL))
def iM:gS:=(aI 0)
def iN:bC:=(aa 0)
def lg:de:=(aA (aB 1 (bD aZ))
 (aA (cw (o4 (aa 0)) eG
 ce)
 (aN (ba [none] (o4 (aa 1)) iM bK iN))))
def fq:List PyData→Option Sl:=dN 1 4 lg
def eR:gS:=(aI 1)
def eS:de:=(aA (bg (lS (d0 (dw (ki (lG .tuple) (aa 1)))) (lS (cV (ag jX false (bY eK (ae false (aa 1) ak)) (pC (.int 2)))) (d0 (dw (ki (lG .str) (ag jf false (aa 1) (pC (.int 0))))))))
 (aN (pC (.bool false)))
 aL)
 (bg (lS (d0 (dw (ki (lG .int) (ag jf false (aa 1) (pC (.int 1)))))) (dw (ki (lG .bool) (ag jf false (aa 1) (pC (.int 1))))))
 (aN (pC (.bool false)))
 aL))
def iO:de:=(aA (bg (d0 (dw (ki (lG .list) (aa 0))))
 (aN (pC (.bool false)))
 aL)
 (aA (cw (aQ (aa 0)) eR
 eS)
 (aN (pC (.bool true)))))
def bR:List PyData→Option Sl:=dN 1 2 iO
def mQ:gS:=(aI 0)
def mR:bC:=(ag aT false (aa 0) (aa 1))
def mS:gS:=(aI 2)
def mT:de:=(aB 1 (ag aT false (aa 1) (ba [none,some 2] (aQ (aa 1)) mQ bK mR)))
def nq:de:=(aA (aB 1 (bD (aV (pC (.str "")) aZ)))
 (aA (cw (aQ (aa 0)) mS
 mT)
 (aN (aa 1))))
def cr:List PyData→Option Sl:=dN 1 3 nq
def ef:gS:=(aI 0)
def cP:bC:=(ag (xT false) false (aa 0) (aa 1))
def bO:gS:=(aI 2)
def bp:de:=(bg (dw (bY wA (ae false (ba [none,some 0] (aQ (aa 2)) ef bK cP) ak)))
 (aN (pC (.bool true)))
 aL)
def fY:de:=(aA (cw (aQ (aa 1)) bO
 bp)
 (aN (pC (.bool false))))
def be:List PyData→Option Sl:=dN 2 3 fY
def dE:gS:=(aI 0)
def dF:bC:=(aa 0)
def dG:mq:=(cV (ag hZ false (bY eK (ae false (aa 0) ak)) (aa 1)))
def eT:gS:=(aI 3)
def dH:de:=(bg (d0 (dw (aj be (ae false (aa 3) (ae false (aa 1) ak)))))
 (bU (aU 1 (aa 3)))
 aL)
def eU:gS:=(aI 2)
def eW:de:=(cw (aQ (lX (ba [none,some 2] (aQ (aa 0)) dE dG dF))) eT
 dH)
def iV:de:=(aA (aB 1 (bD aZ))
 (aA (cw (qx (ae false (pC (.int 0)) (ae false (pC (.int 27)) ak))) eU
 eW)
 (aN (aa 1))))
def bJ:List PyData→Option Sl:=dN 1 4 iV
def gD:gS:=(aI 0)
def fL:bC:=(ag jf false (aa 1) (aa 0))
def fM:mq:=(cV (ag hZ false (ag tZ false (ag wy false (aa 2) (aa 0)) (pC (.int 1))) (pC (.int 1))))
def gE:gS:=(aI 5)
def gG:de:=(aA (aB 6 (ag wy false (ag cJ false (aa 4) (pC (.int 3))) (ag hW false (pC (.int 6)) (aa 5))))
 (aA (bg (cV (ag (fD (iQ .lt)) false (bY rL (ae false (aa 4) ak)) (ag qo false (pC (.int 10)) (pC (.int 18)))))
 (aB 6 (aj ck (ae false (aa 4) (ae false (ag aT false (pC (.int 30)) (aa 5)) ak))))
 aL)
 (aA (aB 7 (eN "" (ba [none,some 2,some 6] (il (ae false (bY eK (ae false (aa 2) ak)) ak)) gD fM fL)))
 (bg (cV (ag jX false (aa 7) (pC (.str ""))))
 (bU (aU 3 (aa 7)))
 aL))))
def gH:gS:=(aI 4)
def eH:de:=(cw (il (ae false (ag aT false (pC (.int 1)) (ag gd false (aa 4) (pC (.int 3)))) ak)) gE
 gG)
def jO:de:=(aA (aB 3 (bD aZ))
 (aA (cw (aQ (ag aT false (bD (aV (aj bP (ae false (aa 0) (ae false (aa 1) ak))) aZ)) (jU false (aa 0) (eI (ag aT false (aa 1) (pC (.int 1)))) (eI (ag aT false (aa 1) (pC (.int 8))))))) gH
 eH)
 (aN (aj bJ (ae false (ag aT false (aa 3) (bD (aV (aa 2) aZ))) ak)))))
def fZ:List PyData→Option Sl:=dN 3 8 jO
def f_:gS:=(aI 0)
def eX:bC:=(ag jf false (aa 1) (ag gd false (ag aT false (aa 2) (ag hW false (aa 3) (aa 0))) (pC (.int 26))))
def iW:de:=(aA (aB 2 (pC (.str "abcdefghijklmnopqrstuvwxyz")))
 (aA (aB 3 (ag aT false (pC (.int 1)) (ag gd false (aa 0) (aa 1))))
 (aA (aB 4 (ag jf false (bD (sx [1,3,5,7,9,11])) (ag gd false (ag cJ false (aa 0) (aa 1)) (pC (.int 6)))))
 (aA (aB 5 (ag gd false (ag cJ false (ag cJ false (aa 0) (aa 1)) (pC (.int 6))) (pC (.int 26))))
 (aN (eN "" (pW (ba [none,some 2,some 5,some 4] (il (ae false (aa 3) ak)) f_ bK eX))))))))
def fA:List PyData→Option Sl:=dN 2 6 iW
def di:gS:=(aI 0)
def dm:bC:=(aa 0)
def dq:mq:=(cV (ag (xT false) false (aa 0) (aa 1)))
def eY:gS:=(aI 0)
def dr:bC:=(ag (fD (iQ .gt)) false (bY eK (ae false (ba [none,some 1] (aQ (aa 0)) di dq dm) ak)) (pC (.int 0)))
def cD:gS:=(aI 3)
def bW:de:=(bg (dw (bY wA (ae false (ba [none,some 3] (aQ (aa 0)) eY bK dr) ak)))
 (bU (aU 2 (aa 3)))
 aL)
def gI:de:=(aA (aB 2 (bD aZ))
 (aA (cw (aQ (aj cr (ae false (aa 1) ak))) cD
 bW)
 (aN (aj bJ (ae false (aa 2) ak)))))
def cm:List PyData→Option Sl:=dN 2 4 gI
def ga(self:List PyData→Option Sl):de:=(aA (bg (cV (ag hZ false (bY eK (ae false (aa 0) ak)) (pC (.int 1))))
 (aN (bD (aV (gX (aV (aa 0) (aV (pC (.int 1)) aZ))) aZ)))
 aL)
 (aA (aB 1 (ag tV false (bY eK (ae false (aa 0) ak)) (ag cJ false (bY eK (ae false (aa 0) ak)) (pC (.int 2)))))
 (aA (aB 2 (aj self (ae false (jU false (aa 0) jY (eI (aa 1))) ak)))
 (aA (aB 3 (aj self (ae false (jU false (aa 0) (eI (aa 1)) jY) ak)))
 (aN (ag aT false (ag aT false (ag aT false (aa 2) (aa 3)) (aj bB (ae false (aa 2) ak))) (aj bB (ae false (aa 3) ak))))))))
def gj:Nat→List PyData→Option Sl
 | 0=>fun _=>none
 |k+1=>dN 1 4 (ga (gj k))
def iX:List PyData→Option Sl:=gj 8
def ju:gS:=(aI 0)
def hJ:bC:=(ag jf false (aa 1) (ag gd false (ag aT false (aa 2) (ag hW false (pC (.int 3)) (aa 0))) (pC (.int 26))))
def fB:gS:=(aI 5)
def em:de:=(aA (aB 6 (aj ck (ae false (aa 0) (ae false (ag aT false (pC (.int 50)) (aa 5)) ak))))
 (aA (aB 7 (jU false (aa 3) (eI (ag hW false (aa 5) (aa 1))) (eI (ag aT false (ag aT false (ag hW false (aa 5) (aa 1)) (pC (.int 1))) (ag gd false (aa 6) (aa 1))))))
 (aA (bg (cV (ag hZ false (ag gd false (ag cJ false (aa 6) (pC (.int 11))) (pC (.int 2))) (pC (.int 1))))
 (aB 7 (ag aT false (jU false (aa 7) (eI (pC (.int 1))) jY) (bD (aV (ag jf false (aa 3) (ag gd false (ag cJ false (aa 6) (pC (.int 22))) (bY eK (ae false (aa 3) ak)))) aZ))))
 aL)
 (bU (aU 4 (eN "" (dC (aa 7))))))))
def kB:de:=(aA (aB 2 (pC (.str "abcdefghijklmnopqrstuvwxyz")))
 (aA (aB 3 (ba [none,some 2,some 0] (il (ae false (ag hW false (pC (.int 2)) (aa 1)) ak)) ju bK hJ))
 (aA (aB 4 (bD aZ))
 (aA (cw (il (ae false (pC (.int 2)) ak)) fB
 em)
 (aN (aj bJ (ae false (aa 4) ak)))))))
def gb:List PyData→Option Sl:=dN 2 8 kB
def kC:gS:=(aI 5)
def jP:de:=(aB 4 (ag aT false (aa 4) (aj iX (ae false (aa 5) ak))))
def qS:gS:=(aI 0)
def qT:bC:=(aa 0)
def lY:mq:=(cV (ag (xT true) false (ag jf false (aa 0) (pC (.int 0))) (aa 1)))
def jQ:gS:=(aI 5)
def jR:de:=(aA (aB 7 (ba [none,some 5] (aQ (aa 4)) qS lY qT))
 (aA (aB 8 (aj be (ae false (aa 5) (ae false (aa 2) ak))))
 (aA (bg (cV (ag jX false (ag hZ false (aj fq (ae false (aa 7) ak)) (bD aZ)) (aa 8)))
 (aN (pC (.bool false)))
 aL)
 (aA (aB 9 (aj bh (ae false (ft (aa 4)) (ae false (aa 5) ak))))
 (bg (lS (d0 (dw (ki (lG .bool) (aa 9)))) (cV (ag jX false (aa 9) (aa 8))))
 (aN (pC (.bool false)))
 aL)))))
def vD:de:=(aA (aB 1 (aj fA (ae false (aj bP (ae false (aa 0) (ae false (pC (.int 0)) ak))) (ae false (pC (.int 6)) ak))))
 (aA (aB 2 (aj fZ (ae false (aa 0) (ae false (pC (.int 1)) (ae false (aa 1) ak)))))
 (aA (bg (cV (ag hZ false (ag gd false (ag cJ false (aj bP (ae false (aa 0) (ae false (pC (.int 0)) ak))) (pC (.int 3))) (pC (.int 8))) (pC (.int 5))))
 (aA (aB 2 (aj gb (ae false (aj bP (ae false (aa 0) (ae false (pC (.int 1)) ak))) (ae false (pC (.int 4)) ak))))
 (aB 1 (eN "" (dC (eN "" (aa 2))))))
 aL)
 (aA (aB 3 (aj cm (ae false (aa 2) (ae false (aa 1) ak))))
 (aA (aB 4 (bD aZ))
 (aA (cw (aQ (aa 3)) kC
 jP)
 (aA (aB 6 (aj cU (ae false (ft (aa 2)) ak)))
 (aA (bg (lS (d0 (dw (aj bR (ae false (aa 6) ak)))) (cV (ag jX false (aa 6) (aa 4))))
 (aN (pC (.bool false)))
 aL)
 (aA (cw (aQ (aj cr (ae false (aa 1) ak))) jQ
 jR)
 (aA (bg (lS (cV (ag jX false (aj aS (ae false (ft (aa 4)) ak)) (aa 2))) (cV (ag jX false (aj bT (ae false (ft (aa 4)) ak)) (aa 3))))
 (aN (pC (.bool false)))
 aL)
 (aA (bU (aU 6 (gX (aV (pC (.str "a")) (aV (pC (.int 1)) aZ)))))
 (aN (ag hZ false (aj cU (ae false (aa 2) ak)) (aa 4))))))))))))))
def nr:List PyData→Option Sl:=dN 1 10 vD
end Nhk53
namespace Nhk53
open PySem L2 Nh PL
def jL(i:Nat):Stmt:=PySem.Challenge.pw_nailhang_k53_whole_cords_fall_by_rules.main.body.getD i (.Pass ⟨0,0,0,0⟩)
section
variable {P:Program} {w:World} {K:PySem.W.Frag} {mg:Str→Option Value} {base:Heap}
abbrev jv:Stmt:=jL 7
theorem wQ:FnScope ["thing"] ["thing"] (ah jv):=⟨rfl,rfl,rfl,by decide+kernel,rfl,by decide+kernel,by decide+kernel⟩
theorem wR (D:Def K mg "is_nail" jv ["thing"]) (B:Bn mg):Own P w K mg base 1 "is_nail" ["thing"] (bZ K iq):=by
 delta iq
 refine eM (g:=mE) D wQ rfl rfl (by decide) fun f cdv A outer s H E hr=>?_
 delta mE
 exact(ao (aM (AS (kN .str (by rfl) (by exact B.isinstance) (ab 0) (by rfl) (by exact B.str) PyProof.Rows.boot_str) (AS (xK hr.units (gw (by rfl) (by exact B.len) (ai (ab 0) aq)) ar) (Fq (Ha .le .le kM (ab 0) kM))))))
abbrev gk:Stmt:=jL 8
theorem sc_short_form:FnScope ["cord","runs","nail","turns","total"] ["cord"] (ah gk):=⟨rfl,rfl,rfl,by decide+kernel,rfl,by decide+kernel,by decide+kernel⟩
theorem rP (D:Def K mg "short_form" gk ["cord"]) (B:Bn mg):Own P w K mg base 1 "short_form" ["cord"] (bZ K fI):=by
 delta fI
 refine eM (g:=jk) D sc_short_form rfl rfl (by decide) fun f cdv A outer s H E hr=>?_
 delta jk
 exact(am (aO 1 sc_short_form.nd (eJ cB))
 (am (eL PassesOwn.never (by rfl) (b_ (ab 0)) (by delta bw;exact(qw (by rfl) (gz (aK 2 sc_short_form.nd) (gz (aK 3 sc_short_form.nd) nE))))
 (by delta bx;exact(am (aO 4 sc_short_form.nd (ab 3))
 (am (cW (u8 (AT (fT (ab 1)) (xM (kj hr.units (h7 (h7 (ab 1) (wu ar)) ar) (ab 2)))))
 (ao (aO 4 sc_short_form.nd (bv (h7 (AW 1) ar) (ab 3))))
 aX)
 (ao (cW (lR hr.units (ab 4) ar)
 (ao (gK (gf 1 (m5 (cu (ab 2) (cu (ab 4) cB))))))
 aX))))))
 (ao (aM (ab 1)))))
abbrev jw:Stmt:=jL 9
theorem wS:FnScope ["cord"] ["cord"] (ah jw):=⟨rfl,rfl,rfl,by decide+kernel,rfl,by decide+kernel,by decide+kernel⟩
theorem wT (D:Def K mg "is_fall" jw ["cord"]) (B:Bn mg) (D_short_form:Own P w K mg base 1 "short_form" ["cord"] (bZ K fI)):Own P w K mg base 2 "is_fall" ["cord"] (bZ K ir):=by
 delta ir
 refine eM (g:=mF) D wS rfl rfl (by decide) fun f cdv A outer s H E hr=>?_
 delta mF
 exact(ao (aM (xK hr.units (gw (by rfl) (by exact B.len) (ai (au D_short_form (hr.mono (by decide)) (by rfl) (ai (ab 0) aq)) aq)) ar)))
abbrev kD:Stmt:=jL 10
theorem zO:FnScope ["one","other"] ["one","other"] (ah kD):=⟨rfl,rfl,rfl,by decide+kernel,rfl,by decide+kernel,by decide+kernel⟩
theorem zP (D:Def K mg "joined" kD ["one","other"]) (B:Bn mg):Own P w K mg base 1 "joined" ["one","other"] (bZ K iu):=by
 delta iu
 refine eM (g:=nU) D zO rfl rfl (by decide) fun f cdv A outer s H E hr=>?_
 delta nU
 exact(ao (aM (bv (ab 0) (ab 1))))
abbrev iw:Stmt:=jL 11
theorem vE:FnScope ["cord"] ["cord"] (ah iw):=⟨rfl,rfl,rfl,by decide+kernel,rfl,by decide+kernel,by decide+kernel⟩
theorem vF (D:Def K mg "contrary" iw ["cord"]) (B:Bn mg):Own P w K mg base 1 "contrary" ["cord"] (bZ K fU):=by
 delta fU
 refine eM (g:=kZ) D vE rfl rfl (by decide) fun f cdv A outer s H E hr=>?_
 delta kZ
 exact(ao (aM (fE (N:=["nail","turns"]) (js:=[none,none]) gN (by rfl) (tX (by rfl) (by exact B.reversed) (ab 0)) (fun _ _ _ _=>(by delta iH;exact(qw (by rfl) (gz (aK 0 (show(["nail","turns"]:List Str).Nodup by decide+kernel)) (gz (aK 1 (show(["nail","turns"]:List Str).Nodup by decide+kernel)) nE))))) (fun _ _ _ _=>(by delta gB;exact(m5 (cu (ab 0) (cu (wu (ab 1)) cB))))))))
abbrev du:Stmt:=jL 12
theorem nX:FnScope ["one","other"] ["one","other"] (ah du):=⟨rfl,rfl,rfl,by decide+kernel,rfl,by decide+kernel,by decide+kernel⟩
theorem nY (D:Def K mg "there_and_back" du ["one","other"]) (B:Bn mg) (D_contrary:Own P w K mg base 1 "contrary" ["cord"] (bZ K fU)):Own P w K mg base 2 "there_and_back" ["one","other"] (bZ K bN):=by
 delta bN
 refine eM (g:=gg) D nX rfl rfl (by decide) fun f cdv A outer s H E hr=>?_
 delta gg
 exact(ao (aM (bv (bv (bv (ab 0) (ab 1)) (au D_contrary (hr.mono (by decide)) (by rfl) (ai (ab 0) aq))) (au D_contrary (hr.mono (by decide)) (by rfl) (ai (ab 1) aq)))))
abbrev kE:Stmt:=jL 14
theorem sc_set_of:FnScope ["nails","sign"] ["nails"] (ah kE):=⟨rfl,rfl,rfl,by decide+kernel,rfl,by decide+kernel,by decide+kernel⟩
theorem zQ (D:Def K mg "set_of" kE ["nails"]) (B:Bn mg) (D_is_nail:Own P w K mg base 1 "is_nail" ["thing"] (bZ K iq)):Own P w K mg base 2 "set_of" ["nails"] (bZ K df):=by
 delta df
 refine eM (g:=nV) D sc_set_of rfl rfl (by decide) fun f cdv A outer s H E hr=>?_
 delta nV
 exact(am (cW (jD (fT (kN .str (by rfl) (by exact B.isinstance) (ab 0) (by rfl) (by exact B.str) PyProof.Rows.boot_str)))
 (ao jH)
 aX)
 (am (eL PassesOwn.never (by rfl) (b_ (ab 0)) (by delta iT;exact(aK 1 sc_set_of.nd))
 (by delta iU;exact(ao (cW (jD (fT (au D_is_nail (hr.mono (by decide)) (by rfl) (ai (ab 1) aq))))
 (ao jH)
 aX))))
 (ao (aM (j5 (kT rfl (by rfl) (by exact B.sorted) (by rfl) (by exact B.set) (ab 0)))))))
abbrev iy:Stmt:=jL 15
theorem vG:FnScope ["cord"] ["cord"] (ah iy):=⟨rfl,rfl,rfl,by decide+kernel,rfl,by decide+kernel,by decide+kernel⟩
theorem vH (D:Def K mg "nails_of" iy ["cord"]) (B:Bn mg):Own P w K mg base 1 "nails_of" ["cord"] (bZ K fm):=by
 delta fm
 refine eM (g:=k_) D vG rfl rfl (by decide) fun f cdv A outer s H E hr=>?_
 delta k_
 exact(ao (aM (j5 (kT rfl (by rfl) (by exact B.sorted) (by rfl) (by exact B.set) (fE (N:=["nail","turns"]) (js:=[none,none]) gN (by rfl) (b_ (ab 0)) (fun _ _ _ _=>(by delta iI;exact(qw (by rfl) (gz (aK 0 (show(["nail","turns"]:List Str).Nodup by decide+kernel)) (gz (aK 1 (show(["nail","turns"]:List Str).Nodup by decide+kernel)) nE))))) (fun _ _ _ _=>(by delta iJ;exact(ab 0))))))))
abbrev jx:Stmt:=jL 16
theorem sc_without:FnScope ["cord","nails","drawn"] ["cord","nails"] (ah jx):=⟨rfl,rfl,rfl,by decide+kernel,rfl,by decide+kernel,by decide+kernel⟩
theorem wU (D:Def K mg "without" jx ["cord","nails"]) (B:Bn mg) (D_set_of:Own P w K mg base 2 "set_of" ["nails"] (bZ K df)):Own P w K mg base 3 "without" ["cord","nails"] (bZ K iv):=by
 delta iv
 refine eM (g:=mG) D sc_without rfl rfl (by decide) fun f cdv A outer s H E hr=>?_
 delta mG
 exact(am (aO 2 sc_without.nd (au D_set_of (hr.mono (by decide)) (by rfl) (ai (ab 1) aq)))
 (ao (aM (ko (N:=["piece","drawn"]) (js:=[none,some 2]) eO (by rfl) (b_ (ab 0)) (fun _ _ _ _=>(by delta jl;exact(aK 0 (show(["piece","drawn"]:List Str).Nodup by decide+kernel)))) (fun _ _ _ _=>(by delta gh;exact(Bh (h7 (ab 0) ar) (ab 1)))) (fun _ _ _ _=>(by delta jm;exact(ab 0)))))))
abbrev dU:Stmt:=jL 17
theorem oG:FnScope ["cord","nails"] ["cord","nails"] (ah dU):=⟨rfl,rfl,rfl,by decide+kernel,rfl,by decide+kernel,by decide+kernel⟩
theorem oH (D:Def K mg "falls_without" dU ["cord","nails"]) (B:Bn mg) (D_without:Own P w K mg base 3 "without" ["cord","nails"] (bZ K iv)) (D_is_fall:Own P w K mg base 2 "is_fall" ["cord"] (bZ K ir)):Own P w K mg base 4 "falls_without" ["cord","nails"] (bZ K bh):=by
 delta bh
 refine eM (g:=gL) D oG rfl rfl (by decide) fun f cdv A outer s H E hr=>?_
 delta gL
 exact(ao (aM (au D_is_fall (hr.mono (by decide)) (by rfl) (ai (au D_without (hr.mono (by decide)) (by rfl) (ai (ab 0) (ai (ab 1) aq))) aq))))
abbrev jy:Stmt:=jL 21
theorem sc_bits_of:FnScope ["nails","bits","bit","letter"] ["nails"] (ah jy):=⟨rfl,rfl,rfl,by decide+kernel,rfl,by decide+kernel,by decide+kernel⟩
theorem wV (D:Def K mg "bits_of" jy ["nails"]) (B:Bn mg) {t_LETTERS:Tok} (G_LETTERS:mg "LETTERS"=some (.str "abcdefghijklmnopqrstuvwxyz" t_LETTERS)):Own P w K mg base 1 "bits_of" ["nails"] (bZ K cC):=by
 delta cC
 refine eM (g:=mH) D sc_bits_of rfl rfl (by decide) fun f cdv A outer s H E hr=>?_
 delta mH
 exact(am (aO 1 sc_bits_of.nd ar)
 (am (aO 2 sc_bits_of.nd ar)
 (am (eL PassesOwn.never (by rfl) (b_ (Dk (by rfl) (by exact G_LETTERS))) (by delta gZ;exact(aK 3 sc_bits_of.nd))
 (by delta g5;exact(am (cW (El (ab 3) (ab 0))
 (ao (aO 1 sc_bits_of.nd (bv (ab 1) (ab 2))))
 aX)
 (ao (aO 2 sc_bits_of.nd (ii (ab 2) ar))))))
 (ao (aM (ab 1))))))
abbrev dW:Stmt:=jL 22
theorem oI:FnScope ["sets"] ["sets"] (ah dW):=⟨rfl,rfl,rfl,by decide+kernel,rfl,by decide+kernel,by decide+kernel⟩
theorem oJ {c T:Addr} (D:DefT K mg "in_told_order" dW ["sets"] c T) (B:Bn mg):Own P w K mg base 1 "in_told_order" ["sets"] (bZ K bH):=by
 delta bH
 refine Iv (g:=gM) D oI rfl rfl (by decide) fun f A outer s H E hr=>?_
 delta gM
 exact(ao (aM (BF rfl D.tp D.hd hr (by rfl) (by exact B.sorted) (by exact B.len) (ab 0) (by show(Str.ofString "in_told_order"++Str.ofString ".<locals>.")++Str.ofString "<lambda>"=_;decide+kernel))))
abbrev dv:Stmt:=jL 23
theorem sc_has_part_among:FnScope ["bits","parts","part"] ["bits","parts"] (ah dv):=⟨rfl,rfl,rfl,by decide+kernel,rfl,by decide+kernel,by decide+kernel⟩
theorem nZ (D:Def K mg "has_part_among" dv ["bits","parts"]) (B:Bn mg):Own P w K mg base 1 "has_part_among" ["bits","parts"] (bZ K a_):=by
 delta a_
 refine eM (g:=eQ) D sc_has_part_among rfl rfl (by decide) fun f cdv A outer s H E hr=>?_
 delta eQ
 exact(am (eL PassesOwn.never (by rfl) (b_ (ab 1)) (by delta cq;exact(aK 2 sc_has_part_among.nd))
 (by delta bL;exact(ao (cW (kj hr.units (t5 (ab 2) (ab 0)) (ab 2))
 (ao (aM jW))
 aX))))
 (ao (aM jW)))
abbrev gl:Stmt:=jL 24
theorem sc_meets_each:FnScope ["bits","others","other"] ["bits","others"] (ah gl):=⟨rfl,rfl,rfl,by decide+kernel,rfl,by decide+kernel,by decide+kernel⟩
theorem rQ (D:Def K mg "meets_each" gl ["bits","others"]) (B:Bn mg):Own P w K mg base 1 "meets_each" ["bits","others"] (bZ K cZ):=by
 delta cZ
 refine eM (g:=g7) D sc_meets_each rfl rfl (by decide) fun f cdv A outer s H E hr=>?_
 delta g7
 exact(am (eL PassesOwn.never (by rfl) (b_ (ab 1)) (by delta dP;exact(aK 2 sc_meets_each.nd))
 (by delta cS;exact(ao (cW (kj hr.units (t5 (ab 2) (ab 0)) ar)
 (ao (aM jW))
 aX))))
 (ao (aM jW)))
abbrev iz:Stmt:=jL 25
theorem sc_least_of:FnScope ["sets","told","kept","nails","bits"] ["sets"] (ah iz):=⟨rfl,rfl,rfl,by decide+kernel,rfl,by decide+kernel,by decide+kernel⟩
theorem vI (D:Def K mg "least_of" iz ["sets"]) (B:Bn mg) (D_in_told_order:Own P w K mg base 1 "in_told_order" ["sets"] (bZ K bH)) (D_bits_of:Own P w K mg base 1 "bits_of" ["nails"] (bZ K cC)) (D_has_part_among:Own P w K mg base 1 "has_part_among" ["bits","parts"] (bZ K a_)):Own P w K mg base 2 "least_of" ["sets"] (bZ K bV):=by
 delta bV
 refine eM (g:=jM) D sc_least_of rfl rfl (by decide) fun f cdv A outer s H E hr=>?_
 delta jM
 exact(am (aO 1 sc_least_of.nd (eJ cB))
 (am (aO 2 sc_least_of.nd (eJ cB))
 (am (eL PassesOwn.never (by rfl) (b_ (au D_in_told_order (hr.mono (by decide)) (by rfl) (ai (ab 0) aq))) (by delta eC;exact(aK 3 sc_least_of.nd))
 (by delta c_;exact(am (aO 4 sc_least_of.nd (au D_bits_of (hr.mono (by decide)) (by rfl) (ai (ab 3) aq)))
 (ao (cW (jD (fT (au D_has_part_among (hr.mono (by decide)) (by rfl) (ai (ab 4) (ai (ab 2) aq)))))
 (am (gK (gf 2 (ab 4)))
 (ao (gK (gf 1 (ab 3)))))
 aX)))))
 (ao (aM (ab 1))))))
abbrev iA:Stmt:=jL 26
theorem sc_all_sets:FnScope ["nails","sets","nail"] ["nails"] (ah iA):=⟨rfl,rfl,rfl,by decide+kernel,rfl,by decide+kernel,by decide+kernel⟩
theorem vJ (D:Def K mg "all_sets" iA ["nails"]) (B:Bn mg):Own P w K mg base 1 "all_sets" ["nails"] (bZ K bj):=by
 delta bj
 refine eM (g:=jN) D sc_all_sets rfl rfl (by decide) fun f cdv A outer s H E hr=>?_
 delta jN
 exact(am (aO 1 sc_all_sets.nd (eJ (cu kM cB)))
 (am (eL PassesOwn.never (by rfl) (b_ (ab 0)) (by delta fJ;exact(aK 2 sc_all_sets.nd))
 (by delta fK;exact(ao (aO 1 sc_all_sets.nd (bv (ab 1) (fE (N:=["chosen","nail"]) (js:=[none,some 2]) eO (by rfl) (b_ (ab 1)) (fun _ _ _ _=>(by delta iK;exact(aK 0 (show(["chosen","nail"]:List Str).Nodup by decide+kernel)))) (fun _ _ _ _=>(by delta gC;exact(bv (ab 0) (ab 1))))))))))
 (ao (aM (ab 1)))))
abbrev gm:Stmt:=jL 27
theorem rR:FnScope ["nails"] ["nails"] (ah gm):=⟨rfl,rfl,rfl,by decide+kernel,rfl,by decide+kernel,by decide+kernel⟩
theorem rS (D:Def K mg "check_many" gm ["nails"]) (B:Bn mg) {t_MOST_NAILS:Tok} (G_MOST_NAILS:mg "MOST_NAILS"=some (.int 10 t_MOST_NAILS)):Own P w K mg base 1 "check_many" ["nails"] (bZ K cc):=by
 delta cc
 refine eM (g:=jn) D rR rfl rfl (by decide) fun f cdv A outer s H E hr=>?_
 delta jn
 exact(ao (cW (xS .gt (gw (by rfl) (by exact B.len) (ai (ab 0) aq)) (xY (by rfl) (by exact G_MOST_NAILS)))
 (ao jH)
 aX))
abbrev fN:Stmt:=jL 28
theorem qU:FnScope ["sets"] ["sets"] (ah fN):=⟨rfl,rfl,rfl,by decide+kernel,rfl,by decide+kernel,by decide+kernel⟩
theorem qV (D:Def K mg "nails_among" fN ["sets"]) (B:Bn mg) (D_set_of:Own P w K mg base 2 "set_of" ["nails"] (bZ K df)):Own P w K mg base 3 "nails_among" ["sets"] (bZ K cF):=by
 delta cF
 refine eM (g:=iL) D qU rfl rfl (by decide) fun f cdv A outer s H E hr=>?_
 delta iL
 exact(ao (aM (au D_set_of (hr.mono (by decide)) (by rfl) (ai (j5 (ab 0)) aq))))
abbrev gn:Stmt:=jL 29
theorem rT:FnScope ["family"] ["family"] (ah gn):=⟨rfl,rfl,rfl,by decide+kernel,rfl,by decide+kernel,by decide+kernel⟩
theorem rV (D:Def K mg "least_sets" gn ["family"]) (B:Bn mg) (D_set_of:Own P w K mg base 2 "set_of" ["nails"] (bZ K df)) (D_least_of:Own P w K mg base 2 "least_of" ["sets"] (bZ K bV)):Own P w K mg base 3 "least_sets" ["family"] (bZ K bi):=by
 delta bi
 refine eM (g:=jr) D rT rfl rfl (by decide) fun f cdv A outer s H E hr=>?_
 delta jr
 exact(ao (aM (au D_least_of (hr.mono (by decide)) (by rfl) (ai (fE (N:=["nails"]) (js:=[none]) gN (by rfl) (b_ (ab 0)) (fun _ _ _ _=>(by delta dQ;exact(aK 0 (show(["nails"]:List Str).Nodup by decide+kernel)))) (fun _ _ _ _=>(by delta dR;exact(au D_set_of (hr.mono (by decide)) (by rfl) (ai (ab 0) aq))))) aq))))
abbrev eZ:Stmt:=jL 30
theorem sc_meeting_sets:FnScope ["family","others","nails"] ["family"] (ah eZ):=⟨rfl,rfl,rfl,by decide+kernel,rfl,by decide+kernel,by decide+kernel⟩
theorem pF (D:Def K mg "meeting_sets" eZ ["family"]) (B:Bn mg) (D_least_sets:Own P w K mg base 3 "least_sets" ["family"] (bZ K bi)) (D_bits_of:Own P w K mg base 1 "bits_of" ["nails"] (bZ K cC)) (D_nails_among:Own P w K mg base 3 "nails_among" ["sets"] (bZ K cF)) (D_check_many:Own P w K mg base 1 "check_many" ["nails"] (bZ K cc)) (D_all_sets:Own P w K mg base 1 "all_sets" ["nails"] (bZ K bj)) (D_meets_each:Own P w K mg base 1 "meets_each" ["bits","others"] (bZ K cZ)) (D_least_of:Own P w K mg base 2 "least_of" ["sets"] (bZ K bV)):Own P w K mg base 4 "meeting_sets" ["family"] (bZ K aJ):=by
 delta aJ
 refine eM (g:=fV) D sc_meeting_sets rfl rfl (by decide) fun f cdv A outer s H E hr=>?_
 delta fV
 exact(am (aO 1 sc_meeting_sets.nd (fE (N:=["nails"]) (js:=[none]) gN (by rfl) (b_ (au D_least_sets (hr.mono (by decide)) (by rfl) (ai (ab 0) aq))) (fun _ _ _ _=>(by delta cK;exact(aK 0 (show(["nails"]:List Str).Nodup by decide+kernel)))) (fun _ _ _ _=>(by delta cL;exact(au D_bits_of (hr.mono (by decide)) (by rfl) (ai (ab 0) aq))))))
 (am (aO 2 sc_meeting_sets.nd (au D_nails_among (hr.mono (by decide)) (by rfl) (ai (ab 0) aq)))
 (am (gK (au D_check_many (hr.mono (by decide)) (by rfl) (ai (ab 2) aq)))
 (ao (aM (au D_least_of (hr.mono (by decide)) (by rfl) (ai (ko (N:=["chosen","others"]) (js:=[none,some 1]) eO (by rfl) (b_ (au D_all_sets (hr.mono (by decide)) (by rfl) (ai (ab 2) aq))) (fun _ _ _ _=>(by delta cM;exact(aK 0 (show(["chosen","others"]:List Str).Nodup by decide+kernel)))) (fun _ _ _ _=>(by delta cg;exact(fT (au D_meets_each (hr.mono (by decide)) (by rfl) (ai (au D_bits_of (hr.mono (by decide)) (by rfl) (ai (ab 0) aq)) (ai (ab 1) aq)))))) (fun _ _ _ _=>(by delta cN;exact(ab 0)))) aq)))))))
abbrev e9:Stmt:=jL 32
theorem sc_falling_sets:FnScope ["cord","nails"] ["cord"] (ah e9):=⟨rfl,rfl,rfl,by decide+kernel,rfl,by decide+kernel,by decide+kernel⟩
theorem pG (D:Def K mg "falling_sets" e9 ["cord"]) (B:Bn mg) (D_nails_of:Own P w K mg base 1 "nails_of" ["cord"] (bZ K fm)) (D_check_many:Own P w K mg base 1 "check_many" ["nails"] (bZ K cc)) (D_all_sets:Own P w K mg base 1 "all_sets" ["nails"] (bZ K bj)) (D_falls_without:Own P w K mg base 4 "falls_without" ["cord","nails"] (bZ K bh)) (D_least_of:Own P w K mg base 2 "least_of" ["sets"] (bZ K bV)):Own P w K mg base 5 "falling_sets" ["cord"] (bZ K aS):=by
 delta aS
 refine eM (g:=fW) D sc_falling_sets rfl rfl (by decide) fun f cdv A outer s H E hr=>?_
 delta fW
 exact(am (aO 1 sc_falling_sets.nd (au D_nails_of (hr.mono (by decide)) (by rfl) (ai (ab 0) aq)))
 (am (gK (au D_check_many (hr.mono (by decide)) (by rfl) (ai (ab 1) aq)))
 (ao (aM (au D_least_of (hr.mono (by decide)) (by rfl) (ai (ko (N:=["chosen","cord"]) (js:=[none,some 0]) eO (by rfl) (b_ (au D_all_sets (hr.mono (by decide)) (by rfl) (ai (ab 1) aq))) (fun _ _ _ _=>(by delta d8;exact(aK 0 (show(["chosen","cord"]:List Str).Nodup by decide+kernel)))) (fun _ _ _ _=>(by delta cO;exact(fT (au D_falls_without (hr.mono (by decide)) (by rfl) (ai (ab 1) (ai (ab 0) aq)))))) (fun _ _ _ _=>(by delta d_;exact(ab 0)))) aq))))))
abbrev e_:Stmt:=jL 33
theorem pH:FnScope ["cord"] ["cord"] (ah e_):=⟨rfl,rfl,rfl,by decide+kernel,rfl,by decide+kernel,by decide+kernel⟩
theorem pI (D:Def K mg "holding_sets" e_ ["cord"]) (B:Bn mg) (D_falling_sets:Own P w K mg base 5 "falling_sets" ["cord"] (bZ K aS)) (D_meeting_sets:Own P w K mg base 4 "meeting_sets" ["family"] (bZ K aJ)):Own P w K mg base 6 "holding_sets" ["cord"] (bZ K bT):=by
 delta bT
 refine eM (g:=fX) D pH rfl rfl (by decide) fun f cdv A outer s H E hr=>?_
 delta fX
 exact(ao (aM (au D_meeting_sets (hr.mono (by decide)) (by rfl) (ai (au D_falling_sets (hr.mono (by decide)) (by rfl) (ai (ab 0) aq)) aq))))
abbrev cE:Stmt:=jL 35
theorem mM:FnScope ["sets"] ["sets"] (ah cE):=⟨rfl,rfl,rfl,by decide+kernel,rfl,by decide+kernel,by decide+kernel⟩
theorem mN (D:Def K mg "least_or_no_rule" cE ["sets"]) (B:Bn mg) (D_least_sets:Own P w K mg base 3 "least_sets" ["family"] (bZ K bi)):Own P w K mg base 4 "least_or_no_rule" ["sets"] (bZ K bn):=by
 delta bn
 refine eM (g:=dD) D mM rfl rfl (by decide) fun f cdv A outer s H E hr=>?_
 delta dD
 exact(ao (FO rfl
 (ao (aM (au D_least_sets (hr.mono (by decide)) (by rfl) (ai (ab 0) aq))))))
abbrev gq:Stmt:=jL 36
theorem rW:FnScope ["thing"] ["thing"] (ah gq):=⟨rfl,rfl,rfl,by decide+kernel,rfl,by decide+kernel,by decide+kernel⟩
theorem rX (D:Def K mg "check_rule" gq ["thing"]) (B:Bn mg) (D_least_or_no_rule:Own P w K mg base 4 "least_or_no_rule" ["sets"] (bZ K bn)):Own P w K mg base 5 "check_rule" ["thing"] (bZ K eD):=by
 delta eD
 refine eM (g:=g8) D rW rfl rfl (by decide) fun f cdv A outer s H E hr=>?_
 delta g8
 exact(am (cW (u8 (qr (jD (fT (kN .list (by rfl) (by exact B.isinstance) (ab 0) (by rfl) (by exact B.list) PyProof.Rows.boot_list))) (ou (kj hr.units (gw (by rfl) (by exact B.len) (ai (ab 0) aq)) ar))))
 (ao jH)
 aX)
 (am (cW (lR hr.units (au D_least_or_no_rule (hr.mono (by decide)) (by rfl) (ai (ab 0) aq)) (ab 0))
 (ao jH)
 aX)
 (ao (cW (kj hr.units (h7 (ab 0) ar) kM)
 (ao jH)
 aX))))
abbrev gr:Stmt:=jL 39
theorem rY:FnScope ["number"] ["number"] (ah gr):=⟨rfl,rfl,rfl,by decide+kernel,rfl,by decide+kernel,by decide+kernel⟩
theorem rZ (D:Def K mg "first_half" gr ["number"]) (B:Bn mg):Own P w K mg base 1 "first_half" ["number"] (bZ K bA):=by
 delta bA
 refine eM (g:=jt) D rY rfl rfl (by decide) fun f cdv A outer s H E hr=>?_
 delta jt
 exact(ao (aM (iF (bv (ab 0) ar) ar)))
abbrev dI:Stmt:=jL 40
theorem sc_halves_round:FnScope ["nails","middle"] ["nails"] (ah dI):=⟨rfl,rfl,rfl,by decide+kernel,rfl,by decide+kernel,by decide+kernel⟩
theorem kF (D:Def K mg "halves_round" dI ["nails"]) (B:Bn mg) (D_first_half:Own P w K mg base 1 "first_half" ["number"] (bZ K bA)) (D_there_and_back:Own P w K mg base 2 "there_and_back" ["one","other"] (bZ K bN)):∀k:Nat,Own P w K mg base (2+k+1) "halves_round" ["nails"] (bZ K (dg k))
 | 0=>qD D sc_halves_round
 |k+1=>by
  have D_halves_round:=kF D B D_first_half D_there_and_back k
  show Own P w K mg base (2+k+1+1) "halves_round" ["nails"] (bZ K (dN 1 2 (cG (dg k))))
  generalize dg k=self at D_halves_round ⊢
  refine eM (k:=2+k+1) (g:=cG self) D sc_halves_round rfl rfl (by decide) fun f cdv A outer s H E hr=>?_
  delta cG
  exact(am (cW (kj hr.units (gw (by rfl) (by exact B.len) (ai (ab 0) aq)) ar)
 (ao (aM (eJ (cu (m5 (cu (ab 0) (cu ar cB))) cB))))
 aX)
 (am (aO 1 sc_halves_round.nd (au D_first_half (hr.mono (by omega)) (by rfl) (ai (gw (by rfl) (by exact B.len) (ai (ab 0) aq)) aq)))
 (ao (aM (au D_there_and_back (hr.mono (by omega)) (by rfl) (ai (au D_halves_round hr (by rfl) (ai (m7 (ab 0) nC (jg (ab 1))) aq)) (ai (au D_halves_round hr (by rfl) (ai (m7 (ab 0) (jg (ab 1)) nC) aq)) aq)))))))
theorem pJ (D:Def K mg "halves_round" dI ["nails"]) (B:Bn mg) (D_first_half:Own P w K mg base 1 "first_half" ["number"] (bZ K bA)) (D_there_and_back:Own P w K mg base 2 "there_and_back" ["one","other"] (bZ K bN)):Own P w K mg base 11 "halves_round" ["nails"] (bZ K dS):=kF D B D_first_half D_there_and_back 8
abbrev dJ:Stmt:=jL 41
theorem sc_round_pieces:FnScope ["number","middle"] ["number"] (ah dJ):=⟨rfl,rfl,rfl,by decide+kernel,rfl,by decide+kernel,by decide+kernel⟩
theorem kG (D:Def K mg "round_pieces" dJ ["number"]) (B:Bn mg) (D_first_half:Own P w K mg base 1 "first_half" ["number"] (bZ K bA)):∀k:Nat,Own P w K mg base (1+k+1) "round_pieces" ["number"] (bZ K (dh k))
 | 0=>qD D sc_round_pieces
 |k+1=>by
  have D_round_pieces:=kG D B D_first_half k
  show Own P w K mg base (1+k+1+1) "round_pieces" ["number"] (bZ K (dN 1 2 (cH (dh k))))
  generalize dh k=self at D_round_pieces ⊢
  refine eM (k:=1+k+1) (g:=cH self) D sc_round_pieces rfl rfl (by decide) fun f cdv A outer s H E hr=>?_
  delta cH
  exact(am (cW (kj hr.units (ab 0) ar)
 (ao (aM ar))
 aX)
 (am (aO 1 sc_round_pieces.nd (au D_first_half (hr.mono (by omega)) (by rfl) (ai (ab 0) aq)))
 (ao (aM (ii ar (bv (au D_round_pieces hr (by rfl) (ai (ab 1) aq)) (au D_round_pieces hr (by rfl) (ai (wt (ab 0) (ab 1)) aq))))))))
theorem pK (D:Def K mg "round_pieces" dJ ["number"]) (B:Bn mg) (D_first_half:Own P w K mg base 1 "first_half" ["number"] (bZ K bA)):Own P w K mg base 10 "round_pieces" ["number"] (bZ K jc):=kG D B D_first_half 8
abbrev dX:Stmt:=jL 42
theorem oK:FnScope ["rule"] ["rule"] (ah dX):=⟨rfl,rfl,rfl,by decide+kernel,rfl,by decide+kernel,by decide+kernel⟩
theorem oM (D:Def K mg "pieces_needed" dX ["rule"]) (B:Bn mg) (D_check_rule:Own P w K mg base 5 "check_rule" ["thing"] (bZ K eD)) (D_meeting_sets:Own P w K mg base 4 "meeting_sets" ["family"] (bZ K aJ)) (D_round_pieces:Own P w K mg base 10 "round_pieces" ["number"] (bZ K jc)):Own P w K mg base 11 "pieces_needed" ["rule"] (bZ K bI):=by
 delta bI
 refine eM (g:=fG) D oK rfl rfl (by decide) fun f cdv A outer s H E hr=>?_
 delta fG
 exact(am (gK (au D_check_rule (hr.mono (by decide)) (by rfl) (ai (ab 0) aq)))
 (ao (aM (FI (by rfl) (by rfl) (by exact B.sum) (ai (fE (N:=["nails"]) (js:=[none]) gN (by rfl) (b_ (au D_meeting_sets (hr.mono (by decide)) (by rfl) (ai (ab 0) aq))) (fun _ _ _ _=>(by delta gO;exact(aK 0 (show(["nails"]:List Str).Nodup by decide+kernel)))) (fun _ _ _ _=>(by delta fz;exact(au D_round_pieces (hr.mono (by decide)) (by rfl) (ai (gw (by rfl) (by exact B.len) (ai (ab 0) aq)) aq))))) aq)))))
abbrev jz:Stmt:=jL 43
theorem sc_cord_of:FnScope ["rule","cord","nails"] ["rule"] (ah jz):=⟨rfl,rfl,rfl,by decide+kernel,rfl,by decide+kernel,by decide+kernel⟩
theorem wW (D:Def K mg "cord_of" jz ["rule"]) (B:Bn mg) {t_MOST_PIECES:Tok} (G_MOST_PIECES:mg "MOST_PIECES"=some (.int 800 t_MOST_PIECES)) (D_pieces_needed:Own P w K mg base 11 "pieces_needed" ["rule"] (bZ K bI)) (D_meeting_sets:Own P w K mg base 4 "meeting_sets" ["family"] (bZ K aJ)) (D_halves_round:Own P w K mg base 11 "halves_round" ["nails"] (bZ K dS)) (D_joined:Own P w K mg base 1 "joined" ["one","other"] (bZ K iu)):Own P w K mg base 12 "cord_of" ["rule"] (bZ K cU):=by
 delta cU
 refine eM (g:=kA) D sc_cord_of rfl rfl (by decide) fun f cdv A outer s H E hr=>?_
 delta kA
 exact(am (cW (xS .gt (au D_pieces_needed (hr.mono (by decide)) (by rfl) (ai (ab 0) aq)) (xY (by rfl) (by exact G_MOST_PIECES)))
 (ao jH)
 aX)
 (am (aO 1 sc_cord_of.nd (eJ cB))
 (am (eL PassesOwn.never (by rfl) (b_ (au D_meeting_sets (hr.mono (by decide)) (by rfl) (ai (ab 0) aq))) (by delta g9;exact(aK 2 sc_cord_of.nd))
 (by delta gi;exact(ao (aO 1 sc_cord_of.nd (au D_joined (hr.mono (by decide)) (by rfl) (ai (ab 1) (ai (au D_halves_round (hr.mono (by decide)) (by rfl) (ai (ab 2) aq)) aq)))))))
 (ao (aM (ab 1))))))
abbrev kH:Stmt:=jL 45
theorem zR:FnScope ["_law_script","_law_k"] ["_law_script","_law_k"] (ah kH):=⟨rfl,rfl,rfl,by decide+kernel,rfl,by decide+kernel,by decide+kernel⟩
theorem zS (D:Def K mg "_law_at" kH ["_law_script","_law_k"]) (B:Bn mg):Own P w K mg base 1 "_law_at" ["_law_script","_law_k"] (bZ K bP):=by
 delta bP
 refine eM (g:=nW) D zR rfl rfl (by decide) fun f cdv A outer s H E hr=>?_
 delta nW
 exact(am (cW (xS .lt (ab 1) (gw (by rfl) (by exact B.len) (ai (ab 0) aq)))
 (ao (aM (h7 (ab 0) (ab 1))))
 aX)
 (ao (aM ar)))
abbrev jA:Stmt:=jL 46
theorem sc_law_mix:FnScope ["_law_cell","_law_k","_law_one"] ["_law_cell","_law_k"] (ah jA):=⟨rfl,rfl,rfl,by decide+kernel,rfl,by decide+kernel,by decide+kernel⟩
theorem wX (D:Def K mg "_law_mix" jA ["_law_cell","_law_k"]) (B:Bn mg):Own P w K mg base 1 "_law_mix" ["_law_cell","_law_k"] (bZ K ck):=by
 delta ck
 refine eM (g:=mI) D sc_law_mix rfl rfl (by decide) fun f cdv A outer s H E hr=>?_
 delta mI
 exact(am (aO 2 sc_law_mix.nd (ij (bv (bv (ii (ij (ab 0) (AM ar ar)) (bv ar (ii ar (ab 1)))) (ii ar (ab 1))) ar) ar))
 (ao (aM (ij (ii (ab 2) (bv (bv (iF (ab 2) ar) (ii ar (ab 1))) ar)) ar))))
abbrev fb:Stmt:=jL 47
theorem pL:FnScope ["_law_cord"] ["_law_cord"] (ah fb):=⟨rfl,rfl,rfl,by decide+kernel,rfl,by decide+kernel,by decide+kernel⟩
theorem pM (D:Def K mg "_law_contrary" fb ["_law_cord"]) (B:Bn mg):Own P w K mg base 1 "_law_contrary" ["_law_cord"] (bZ K bB):=by
 delta bB
 refine eM (g:=g_) D pL rfl rfl (by decide) fun f cdv A outer s H E hr=>?_
 delta g_
 exact(ao (aM (fE (N:=["_law_nail","_law_turns"]) (js:=[none,none]) gN (by rfl) (tX (by rfl) (by exact B.reversed) (ab 0)) (fun _ _ _ _=>(by delta fR;exact(qw (by rfl) (gz (aK 0 (show(["_law_nail","_law_turns"]:List Str).Nodup by decide+kernel)) (gz (aK 1 (show(["_law_nail","_law_turns"]:List Str).Nodup by decide+kernel)) nE))))) (fun _ _ _ _=>(by delta ee;exact(m5 (cu (ab 0) (cu (wt ar (ab 1)) cB))))))))
abbrev iB:Stmt:=jL 48
theorem sc_law_runs:FnScope ["_law_cord","_law_runs_here","_law_nail","_law_turns"] ["_law_cord"] (ah iB):=⟨rfl,rfl,rfl,by decide+kernel,rfl,by decide+kernel,by decide+kernel⟩
theorem vK (D:Def K mg "_law_runs" iB ["_law_cord"]) (B:Bn mg):Own P w K mg base 1 "_law_runs" ["_law_cord"] (bZ K fq):=by
 delta fq
 refine eM (g:=lg) D sc_law_runs rfl rfl (by decide) fun f cdv A outer s H E hr=>?_
 delta lg
 exact(am (aO 1 sc_law_runs.nd (eJ cB))
 (am (eL PassesOwn.never (by rfl) (tX (by rfl) (by exact B.reversed) (ab 0)) (by delta eG;exact(qw (by rfl) (gz (aK 2 sc_law_runs.nd) (gz (aK 3 sc_law_runs.nd) nE))))
 (by delta ce;exact(am (cW (u8 (AT (lR hr.units (ab 1) (eJ cB)) (xM (kj hr.units (h7 (h7 (ab 1) (wu ar)) ar) (ab 2)))))
 (ao (aO 3 sc_law_runs.nd (bv (ab 3) (h7 (AW 1) ar))))
 aX)
 (ao (cW (lR hr.units (ab 3) ar)
 (ao (gK (gf 1 (m5 (cu (ab 2) (cu (ab 3) cB))))))
 aX)))))
 (ao (aM (fE (N:=["_law_run"]) (js:=[none]) gN (by rfl) (tX (by rfl) (by exact B.reversed) (ab 1)) (fun _ _ _ _=>(by delta iM;exact(aK 0 (show(["_law_run"]:List Str).Nodup by decide+kernel)))) (fun _ _ _ _=>(by delta iN;exact(ab 0))))))))
abbrev fO:Stmt:=jL 49
theorem sc_law_is_cord:FnScope ["_law_found","_law_piece"] ["_law_found"] (ah fO):=⟨rfl,rfl,rfl,by decide+kernel,rfl,by decide+kernel,by decide+kernel⟩
theorem qW (D:Def K mg "_law_is_cord" fO ["_law_found"]) (B:Bn mg):Own P w K mg base 1 "_law_is_cord" ["_law_found"] (bZ K bR):=by
 delta bR
 refine eM (g:=iO) D sc_law_is_cord rfl rfl (by decide) fun f cdv A outer s H E hr=>?_
 delta iO
 exact(am (cW (jD (fT (kN .list (by rfl) (by exact B.isinstance) (ab 0) (by rfl) (by exact B.list) PyProof.Rows.boot_list)))
 (ao (aM jW))
 aX)
 (am (eL PassesOwn.never (by rfl) (b_ (ab 0)) (by delta eR;exact(aK 1 sc_law_is_cord.nd))
 (by delta eS;exact(am (cW (u8 (qr (jD (fT (kN .tuple (by rfl) (by exact B.isinstance) (ab 1) (by rfl) (by exact B.tuple) PyProof.Rows.boot_tuple))) (qr (lR hr.units (gw (by rfl) (by exact B.len) (ai (ab 1) aq)) ar) (ou (jD (fT (kN .str (by rfl) (by exact B.isinstance) (h7 (ab 1) ar) (by rfl) (by exact B.str) PyProof.Rows.boot_str)))))))
 (ao (aM jW))
 aX)
 (ao (cW (u8 (qr (jD (fT (kN .int (by rfl) (by exact B.isinstance) (h7 (ab 1) ar) (by rfl) (by exact B.int) PyProof.Rows.boot_int))) (ou (fT (kN .bool (by rfl) (by exact B.isinstance) (h7 (ab 1) ar) (by rfl) (by exact B.bool) PyProof.Rows.boot_bool)))))
 (ao (aM jW))
 aX)))))
 (ao (aM jW))))
abbrev iC:Stmt:=jL 50
theorem sc_law_sets:FnScope ["_law_nails_here","_law_found","_law_nail"] ["_law_nails_here"] (ah iC):=⟨rfl,rfl,rfl,by decide+kernel,rfl,by decide+kernel,by decide+kernel⟩
theorem vL (D:Def K mg "_law_sets" iC ["_law_nails_here"]) (B:Bn mg):Own P w K mg base 1 "_law_sets" ["_law_nails_here"] (bZ K cr):=by
 delta cr
 refine eM (g:=nq) D sc_law_sets rfl rfl (by decide) fun f cdv A outer s H E hr=>?_
 delta nq
 exact(am (aO 1 sc_law_sets.nd (eJ (cu kM cB)))
 (am (eL PassesOwn.never (by rfl) (b_ (ab 0)) (by delta mS;exact(aK 2 sc_law_sets.nd))
 (by delta mT;exact(ao (aO 1 sc_law_sets.nd (bv (ab 1) (fE (N:=["_law_one","_law_nail"]) (js:=[none,some 2]) eO (by rfl) (b_ (ab 1)) (fun _ _ _ _=>(by delta mQ;exact(aK 0 (show(["_law_one","_law_nail"]:List Str).Nodup by decide+kernel)))) (fun _ _ _ _=>(by delta mR;exact(bv (ab 0) (ab 1))))))))))
 (ao (aM (ab 1)))))
abbrev fe:Stmt:=jL 51
theorem sc_law_has_part:FnScope ["_law_one","_law_sets_here","_law_other"] ["_law_one","_law_sets_here"] (ah fe):=⟨rfl,rfl,rfl,by decide+kernel,rfl,by decide+kernel,by decide+kernel⟩
theorem pN (D:Def K mg "_law_has_part" fe ["_law_one","_law_sets_here"]) (B:Bn mg):Own P w K mg base 1 "_law_has_part" ["_law_one","_law_sets_here"] (bZ K be):=by
 delta be
 refine eM (g:=fY) D sc_law_has_part rfl rfl (by decide) fun f cdv A outer s H E hr=>?_
 delta fY
 exact(am (eL PassesOwn.never (by rfl) (b_ (ab 1)) (by delta bO;exact(aK 2 sc_law_has_part.nd))
 (by delta bp;exact(ao (cW (fT (Bj (by rfl) (by rfl) (by exact B.all) (ai (fE (N:=["_law_nail","_law_one"]) (js:=[none,some 0]) eO (by rfl) (b_ (ab 2)) (fun _ _ _ _=>(by delta ef;exact(aK 0 (show(["_law_nail","_law_one"]:List Str).Nodup by decide+kernel)))) (fun _ _ _ _=>(by delta cP;exact(Hb (ab 0) (ab 1))))) aq)))
 (ao (aM jW))
 aX))))
 (ao (aM jW)))
abbrev gT:Stmt:=jL 52
theorem sc_law_least:FnScope ["_law_sets_here","_law_kept","_law_size","_law_one"] ["_law_sets_here"] (ah gT):=⟨rfl,rfl,rfl,by decide+kernel,rfl,by decide+kernel,by decide+kernel⟩
theorem ur (D:Def K mg "_law_least" gT ["_law_sets_here"]) (B:Bn mg) (D_law_has_part:Own P w K mg base 1 "_law_has_part" ["_law_one","_law_sets_here"] (bZ K be)):Own P w K mg base 2 "_law_least" ["_law_sets_here"] (bZ K bJ):=by
 delta bJ
 refine eM (g:=iV) D sc_law_least rfl rfl (by decide) fun f cdv A outer s H E hr=>?_
 delta iV
 exact(am (aO 1 sc_law_least.nd (eJ cB))
 (am (eL PassesOwn.never (by rfl) (ze (by rfl) (by exact B.range) (ai ar (ai ar aq))) (by delta eU;exact(aK 2 sc_law_least.nd))
 (by delta eW;exact(ao (eL PassesOwn.never (by rfl) (b_ (wP (by rfl) (by exact B.sorted) (ko (N:=["_law_other","_law_size"]) (js:=[none,some 2]) eO (by rfl) (b_ (ab 0)) (fun _ _ _ _=>(by delta dE;exact(aK 0 (show(["_law_other","_law_size"]:List Str).Nodup by decide+kernel)))) (fun _ _ _ _=>(by delta dG;exact(kj hr.units (gw (by rfl) (by exact B.len) (ai (ab 0) aq)) (ab 1)))) (fun _ _ _ _=>(by delta dF;exact(ab 0)))))) (by delta eT;exact(aK 3 sc_law_least.nd))
 (by delta dH;exact(ao (cW (jD (fT (au D_law_has_part (hr.mono (by decide)) (by rfl) (ai (ab 3) (ai (ab 1) aq)))))
 (ao (gK (gf 1 (ab 3))))
 aX)))))))
 (ao (aM (ab 1)))))
abbrev iD:Stmt:=jL 53
theorem sc_law_rule:FnScope ["_law_script","_law_first","_law_nails_here","_law_sets_here","_law_cell","_law_k","_law_value","_law_one"] ["_law_script","_law_first","_law_nails_here"] (ah iD):=⟨rfl,rfl,rfl,by decide+kernel,rfl,by decide+kernel,by decide+kernel⟩
theorem vM (D:Def K mg "_law_rule" iD ["_law_script","_law_first","_law_nails_here"]) (B:Bn mg) (D_law_at:Own P w K mg base 1 "_law_at" ["_law_script","_law_k"] (bZ K bP)) (D_law_mix:Own P w K mg base 1 "_law_mix" ["_law_cell","_law_k"] (bZ K ck)) (D_law_least:Own P w K mg base 2 "_law_least" ["_law_sets_here"] (bZ K bJ)):Own P w K mg base 3 "_law_rule" ["_law_script","_law_first","_law_nails_here"] (bZ K fZ):=by
 delta fZ
 refine eM (g:=jO) D sc_law_rule rfl rfl (by decide) fun f cdv A outer s H E hr=>?_
 delta jO
 exact(am (aO 3 sc_law_rule.nd (eJ cB))
 (am (eL PassesOwn.never (by rfl) (b_ (bv (eJ (cu (au D_law_at (hr.mono (by decide)) (by rfl) (ai (ab 0) (ai (ab 1) aq))) cB)) (m7 (ab 0) (jg (bv (ab 1) ar)) (jg (bv (ab 1) ar))))) (by delta gH;exact(aK 4 sc_law_rule.nd))
 (by delta eH;exact(ao (eL PassesOwn.never (by rfl) (kn (by rfl) (by exact B.range) (ai (bv ar (ij (ab 4) ar)) aq)) (by delta gE;exact(aK 5 sc_law_rule.nd))
 (by delta gG;exact(am (aO 6 sc_law_rule.nd (Bf (iF (ab 4) ar) (ii ar (ab 5))))
 (am (cW (xS .lt (Fv (by rfl) (by exact B.abs) (ai (ab 4) aq)) (AM ar ar))
 (ao (aO 6 sc_law_rule.nd (au D_law_mix (hr.mono (by decide)) (by rfl) (ai (ab 4) (ai (bv ar (ab 5)) aq)))))
 aX)
 (am (aO 7 sc_law_rule.nd (j5 (ko (N:=["_law_j","_law_nails_here","_law_value"]) (js:=[none,some 2,some 6]) eO (by rfl) (kn (by rfl) (by exact B.range) (ai (gw (by rfl) (by exact B.len) (ai (ab 2) aq)) aq)) (fun _ _ _ _=>(by delta gD;exact(aK 0 (show(["_law_j","_law_nails_here","_law_value"]:List Str).Nodup by decide+kernel)))) (fun _ _ _ _=>(by delta fM;exact(kj hr.units (t5 (Bf (ab 2) (ab 0)) ar) ar))) (fun _ _ _ _=>(by delta fL;exact(h7 (ab 1) (ab 0)))))))
 (ao (cW (lR hr.units (ab 7) kM)
 (ao (gK (gf 3 (ab 7))))
 aX))))))))))
 (ao (aM (au D_law_least (hr.mono (by decide)) (by rfl) (ai (bv (ab 3) (eJ (cu (ab 2) cB))) aq))))))
abbrev gU:Stmt:=jL 54
theorem sc_law_nails:FnScope ["_law_cell","_law_most","_law_some","_law_many","_law_step","_law_at_here"] ["_law_cell","_law_most"] (ah gU):=⟨rfl,rfl,rfl,by decide+kernel,rfl,by decide+kernel,by decide+kernel⟩
theorem ut (D:Def K mg "_law_nails" gU ["_law_cell","_law_most"]) (B:Bn mg):Own P w K mg base 1 "_law_nails" ["_law_cell","_law_most"] (bZ K fA):=by
 delta fA
 refine eM (g:=iW) D sc_law_nails rfl rfl (by decide) fun f cdv A outer s H E hr=>?_
 refine wx 2 [1,3,5,7,9,11] rfl rfl fun es hes=>?_
 delta iW
 exact(am (aO 2 sc_law_nails.nd kM)
 (am (aO 3 sc_law_nails.nd (bv ar (ij (ab 0) (ab 1))))
 (am (aO 4 sc_law_nails.nd (h7 (eJ (xP hes)) (ij (iF (ab 0) (ab 1)) ar)))
 (am (aO 5 sc_law_nails.nd (ij (iF (iF (ab 0) (ab 1)) ar) ar))
 (ao (aM (j5 (zo (by rfl) (by exact B.sorted) (fE (N:=["_law_k","_law_some","_law_at_here","_law_step"]) (js:=[none,some 2,some 5,some 4]) eO (by rfl) (kn (by rfl) (by exact B.range) (ai (ab 3) aq)) (fun _ _ _ _=>(by delta f_;exact(aK 0 (show(["_law_k","_law_some","_law_at_here","_law_step"]:List Str).Nodup by decide+kernel)))) (fun _ _ _ _=>(by delta eX;exact(h7 (ab 1) (ij (bv (ab 2) (ii (ab 3) (ab 0))) ar)))))))))))))
abbrev fP:Stmt:=jL 55
theorem sc_law_meeting:FnScope ["_law_sets_here","_law_nails_here","_law_found","_law_one"] ["_law_sets_here","_law_nails_here"] (ah fP):=⟨rfl,rfl,rfl,by decide+kernel,rfl,by decide+kernel,by decide+kernel⟩
theorem qX (D:Def K mg "_law_meeting" fP ["_law_sets_here","_law_nails_here"]) (B:Bn mg) (D_law_sets:Own P w K mg base 1 "_law_sets" ["_law_nails_here"] (bZ K cr)) (D_law_least:Own P w K mg base 2 "_law_least" ["_law_sets_here"] (bZ K bJ)):Own P w K mg base 3 "_law_meeting" ["_law_sets_here","_law_nails_here"] (bZ K cm):=by
 delta cm
 refine eM (g:=gI) D sc_law_meeting rfl rfl (by decide) fun f cdv A outer s H E hr=>?_
 delta gI
 exact(am (aO 2 sc_law_meeting.nd (eJ cB))
 (am (eL PassesOwn.never (by rfl) (b_ (au D_law_sets (hr.mono (by decide)) (by rfl) (ai (ab 1) aq))) (by delta cD;exact(aK 3 sc_law_meeting.nd))
 (by delta bW;exact(ao (cW (fT (Bj (by rfl) (by rfl) (by exact B.all) (ai (fE (N:=["_law_other","_law_one"]) (js:=[none,some 3]) eO (by rfl) (b_ (ab 0)) (fun _ _ _ _=>(by delta eY;exact(aK 0 (show(["_law_other","_law_one"]:List Str).Nodup by decide+kernel)))) (fun _ _ _ _=>(by delta dr;exact(G_ .gt (gw (by rfl) (by exact B.len) (ai (ko (N:=["_law_nail","_law_one"]) (js:=[none,some 1]) eO (by rfl) (b_ (ab 0)) (fun _ _ _ _=>(by delta di;exact(aK 0 (show(["_law_nail","_law_one"]:List Str).Nodup by decide+kernel)))) (fun _ _ _ _=>(by delta dq;exact(El (ab 0) (ab 1)))) (fun _ _ _ _=>(by delta dm;exact(ab 0)))) aq)) ar)))) aq)))
 (ao (gK (gf 2 (ab 3))))
 aX))))
 (ao (aM (au D_law_least (hr.mono (by decide)) (by rfl) (ai (ab 2) aq))))))
abbrev gP:Stmt:=jL 56
theorem sc_law_plan:FnScope ["_law_nails_here","_law_half","_law_one","_law_other"] ["_law_nails_here"] (ah gP):=⟨rfl,rfl,rfl,by decide+kernel,rfl,by decide+kernel,by decide+kernel⟩
theorem n4 (D:Def K mg "_law_plan" gP ["_law_nails_here"]) (B:Bn mg) (D_law_contrary:Own P w K mg base 1 "_law_contrary" ["_law_cord"] (bZ K bB)):∀k:Nat,Own P w K mg base (1+k+1) "_law_plan" ["_law_nails_here"] (bZ K (gj k))
 | 0=>qD D sc_law_plan
 |k+1=>by
  have D_law_plan:=n4 D B D_law_contrary k
  show Own P w K mg base (1+k+1+1) "_law_plan" ["_law_nails_here"] (bZ K (dN 1 4 (ga (gj k))))
  generalize gj k=self at D_law_plan ⊢
  refine eM (k:=1+k+1) (g:=ga self) D sc_law_plan rfl rfl (by decide) fun f cdv A outer s H E hr=>?_
  delta ga
  exact(am (cW (kj hr.units (gw (by rfl) (by exact B.len) (ai (ab 0) aq)) ar)
 (ao (aM (eJ (cu (m5 (cu (ab 0) (cu ar cB))) cB))))
 aX)
 (am (aO 1 sc_law_plan.nd (wt (gw (by rfl) (by exact B.len) (ai (ab 0) aq)) (iF (gw (by rfl) (by exact B.len) (ai (ab 0) aq)) ar)))
 (am (aO 2 sc_law_plan.nd (au D_law_plan hr (by rfl) (ai (m7 (ab 0) nC (jg (ab 1))) aq)))
 (am (aO 3 sc_law_plan.nd (au D_law_plan hr (by rfl) (ai (m7 (ab 0) (jg (ab 1)) nC) aq)))
 (ao (aM (bv (bv (bv (ab 2) (ab 3)) (au D_law_contrary (hr.mono (by omega)) (by rfl) (ai (ab 2) aq))) (au D_law_contrary (hr.mono (by omega)) (by rfl) (ai (ab 3) aq)))))))))
theorem vN (D:Def K mg "_law_plan" gP ["_law_nails_here"]) (B:Bn mg) (D_law_contrary:Own P w K mg base 1 "_law_contrary" ["_law_cord"] (bZ K bB)):Own P w K mg base 10 "_law_plan" ["_law_nails_here"] (bZ K iX):=n4 D B D_law_contrary 8
abbrev jB:Stmt:=jL 57
theorem sc_law_two:FnScope ["_law_cell","_law_most","_law_letters","_law_pool","_law_sets_here","_law_k","_law_value","_law_one"] ["_law_cell","_law_most"] (ah jB):=⟨rfl,rfl,rfl,by decide+kernel,rfl,by decide+kernel,by decide+kernel⟩
theorem wY (D:Def K mg "_law_two" jB ["_law_cell","_law_most"]) (B:Bn mg) (D_law_mix:Own P w K mg base 1 "_law_mix" ["_law_cell","_law_k"] (bZ K ck)) (D_law_least:Own P w K mg base 2 "_law_least" ["_law_sets_here"] (bZ K bJ)):Own P w K mg base 3 "_law_two" ["_law_cell","_law_most"] (bZ K gb):=by
 delta gb
 refine eM (g:=kB) D sc_law_two rfl rfl (by decide) fun f cdv A outer s H E hr=>?_
 delta kB
 exact(am (aO 2 sc_law_two.nd kM)
 (am (Ba 3 sc_law_two.nd (N:=["_law_k","_law_letters","_law_cell"]) (js:=[none,some 2,some 0]) eO (by rfl) (kn (by rfl) (by exact B.range) (ai (ii ar (ab 1)) aq)) (fun _ _ _ _=>(by delta ju;exact(aK 0 (show(["_law_k","_law_letters","_law_cell"]:List Str).Nodup by decide+kernel)))) (fun _ _ _ _=>(by delta hJ;exact(h7 (ab 1) (ij (bv (ab 2) (ii ar (ab 0))) ar)))))
 (am (aO 4 sc_law_two.nd (eJ cB))
 (am (eL PassesOwn.never (by rfl) (kn (by rfl) (by exact B.range) (ai ar aq)) (by delta fB;exact(aK 5 sc_law_two.nd))
 (by delta em;exact(am (aO 6 sc_law_two.nd (au D_law_mix (hr.mono (by decide)) (by rfl) (ai (ab 0) (ai (bv ar (ab 5)) aq))))
 (am (aO 7 sc_law_two.nd (m7 (ab 3) (jg (ii (ab 5) (ab 1))) (jg (bv (bv (ii (ab 5) (ab 1)) ar) (ij (ab 6) (ab 1))))))
 (am (cW (kj hr.units (ij (iF (ab 6) ar) ar) ar)
 (ao (aO 7 sc_law_two.nd (bv (m7 (ab 7) (jg ar) nC) (eJ (cu (h7 (ab 3) (ij (iF (ab 6) ar) (gw (by rfl) (by exact B.len) (ai (ab 3) aq)))) cB)))))
 aX)
 (ao (gK (gf 4 (j5 (kT rfl (by rfl) (by exact B.sorted) (by rfl) (by exact B.set) (ab 7)))))))))))
 (ao (aM (au D_law_least (hr.mono (by decide)) (by rfl) (ai (ab 4) aq))))))))
abbrev n5:Stmt:=jL 58
theorem sc_law:FnScope ["_law_script","_law_nails_here","_law_rule_here","_law_meeting_here","_law_due","_law_one","_law_found","_law_left","_law_falls","_law_said"] ["_law_script"] (ah n5):=⟨rfl,rfl,rfl,by decide+kernel,rfl,by decide+kernel,by decide+kernel⟩
theorem FP {f0:Addr} {fd:FuncData} (D:Fun K "law" "law" n5 f0 fd) (B:Bn mg) (D_law_at:Own P w K mg base 1 "_law_at" ["_law_script","_law_k"] (bZ K bP)) (D_law_nails:Own P w K mg base 1 "_law_nails" ["_law_cell","_law_most"] (bZ K fA)) (D_law_rule:Own P w K mg base 3 "_law_rule" ["_law_script","_law_first","_law_nails_here"] (bZ K fZ)) (D_law_two:Own P w K mg base 3 "_law_two" ["_law_cell","_law_most"] (bZ K gb)) (D_law_meeting:Own P w K mg base 3 "_law_meeting" ["_law_sets_here","_law_nails_here"] (bZ K cm)) (D_law_plan:Own P w K mg base 10 "_law_plan" ["_law_nails_here"] (bZ K iX)) (D_cord_of:Own P w K mg base 12 "cord_of" ["rule"] (bZ K cU)) (D_law_is_cord:Own P w K mg base 1 "_law_is_cord" ["_law_found"] (bZ K bR)) (D_law_sets:Own P w K mg base 1 "_law_sets" ["_law_nails_here"] (bZ K cr)) (D_law_has_part:Own P w K mg base 1 "_law_has_part" ["_law_one","_law_sets_here"] (bZ K be)) (D_law_runs:Own P w K mg base 1 "_law_runs" ["_law_cord"] (bZ K fq)) (D_falls_without:Own P w K mg base 4 "falls_without" ["cord","nails"] (bZ K bh)) (D_falling_sets:Own P w K mg base 5 "falling_sets" ["cord"] (bZ K aS)) (D_holding_sets:Own P w K mg base 6 "holding_sets" ["cord"] (bZ K bT)):FnOk P w K mg base yY 13 f0 fd ["_law_script"] (bZ K nr):=by
 delta nr
 refine IV (g:=vD) D sc_law rfl rfl (by decide) fun cdv A outer s H E hr=>?_
 delta vD
 exact(am (aO 1 sc_law.nd (au D_law_nails (hr.mono (by decide)) (by rfl) (ai (au D_law_at (hr.mono (by decide)) (by rfl) (ai (ab 0) (ai ar aq))) (ai ar aq))))
 (am (aO 2 sc_law.nd (au D_law_rule (hr.mono (by decide)) (by rfl) (ai (ab 0) (ai ar (ai (ab 1) aq)))))
 (am (cW (kj hr.units (ij (iF (au D_law_at (hr.mono (by decide)) (by rfl) (ai (ab 0) (ai ar aq))) ar) ar) ar)
 (am (aO 2 sc_law.nd (au D_law_two (hr.mono (by decide)) (by rfl) (ai (au D_law_at (hr.mono (by decide)) (by rfl) (ai (ab 0) (ai ar aq))) (ai ar aq))))
 (ao (aO 1 sc_law.nd (j5 (kT rfl (by rfl) (by exact B.sorted) (by rfl) (by exact B.set) (j5 (ab 2)))))))
 aX)
 (am (aO 3 sc_law.nd (au D_law_meeting (hr.mono (by decide)) (by rfl) (ai (ab 2) (ai (ab 1) aq))))
 (am (aO 4 sc_law.nd (eJ cB))
 (am (eL PassesOwn.never (by rfl) (b_ (ab 3)) (by delta kC;exact(aK 5 sc_law.nd))
 (by delta jP;exact(ao (aO 4 sc_law.nd (bv (ab 4) (au D_law_plan (hr.mono (by decide)) (by rfl) (ai (ab 5) aq)))))))
 (am (aO 6 sc_law.nd (au D_cord_of (hr.mono (by decide)) (by rfl) (ai (pT (by rfl) (by exact B.list) (ab 2)) aq)))
 (am (cW (u8 (qr (jD (fT (au D_law_is_cord (hr.mono (by decide)) (by rfl) (ai (ab 6) aq)))) (ou (lR hr.units (ab 6) (ab 4)))))
 (ao (aM jW))
 aX)
 (am (eL PassesOwn.never (by rfl) (b_ (au D_law_sets (hr.mono (by decide)) (by rfl) (ai (ab 1) aq))) (by delta jQ;exact(aK 5 sc_law.nd))
 (by delta jR;exact(am (Bb 7 sc_law.nd (N:=["_law_piece","_law_one"]) (js:=[none,some 5]) eO (by rfl) (b_ (ab 4)) (fun _ _ _ _=>(by delta qS;exact(aK 0 (show(["_law_piece","_law_one"]:List Str).Nodup by decide+kernel)))) (fun _ _ _ _=>(by delta lY;exact(Bh (h7 (ab 0) ar) (ab 1)))) (fun _ _ _ _=>(by delta qT;exact(ab 0))))
 (am (aO 8 sc_law.nd (au D_law_has_part (hr.mono (by decide)) (by rfl) (ai (ab 5) (ai (ab 2) aq))))
 (am (cW (lR hr.units (xK hr.units (au D_law_runs (hr.mono (by decide)) (by rfl) (ai (ab 7) aq)) (eJ cB)) (ab 8))
 (ao (aM jW))
 aX)
 (am (aO 9 sc_law.nd (au D_falls_without (hr.mono (by decide)) (by rfl) (ai (pT (by rfl) (by exact B.list) (ab 4)) (ai (ab 5) aq))))
 (ao (cW (u8 (qr (jD (fT (kN .bool (by rfl) (by exact B.isinstance) (ab 9) (by rfl) (by exact B.bool) PyProof.Rows.boot_bool))) (ou (lR hr.units (ab 9) (ab 8)))))
 (ao (aM jW))
 aX))))))))
 (am (cW (u8 (qr (lR hr.units (au D_falling_sets (hr.mono (by decide)) (by rfl) (ai (pT (by rfl) (by exact B.list) (ab 4)) aq)) (ab 2)) (ou (lR hr.units (au D_holding_sets (hr.mono (by decide)) (by rfl) (ai (pT (by rfl) (by exact B.list) (ab 4)) aq)) (ab 3)))))
 (ao (aM jW))
 aX)
 (am (gK (gf 6 (m5 (cu kM (cu ar cB)))))
 (ao (aM (xK hr.units (au D_cord_of (hr.mono (by decide)) (by rfl) (ai (ab 2) aq)) (ab 4)))))))))))))))
end
end Nhk53
namespace Nhk53
open PySem L2 Nh PL
theorem yh(w:List Nat):(⟨w.toArray⟩:Str).length=w.length:=by show w.toArray.size=_;simp
theorem ti(ns:List Int)(k:Nat):bP [.list (ns.map .int),.int k]=some (.sh (.int (ns.getD k 0))):=by
 simp only[bP,dN,List.length_cons,List.length_nil,Nat.zero_add,Nat.reduceAdd,gA,nW,aA,bg,cV,ag,aa,bd,List.map_cons,List.map_nil,Nat.sub_self,List.replicate,List.cons_append,List.nil_append,List.getElem?_cons_succ,List.getElem?_cons_zero,Sl.isBr,Bool.false_and,Bool.false_eq_true,bY,ae,ak,Option.map_some,if_false,eK,fD,look,Sl.val,iQ,Cm.i,Cm.s,Option.bind_some,cb,aN,jf,gJ,dO,aL,pC,bS,bF,if_true]
 by_cases h:k < ns.length
 ·simp[h,jG,dL]
 ·simp[h,List.getElem?_eq_none (Nat.le_of_not_lt h),dL]
theorem qY(cell:Int)(k:Nat)(h:k≤1000000):∃z:Int,ck [.int cell,.int k]=some (.sh (.int z)):=by
 have a1:∀i:Int,gW i (62089911+2*(k:Int))=true:=fun i=>pX (by omega) (by omega)
 have a2:gW 982451653 (k:Int)=true:=pX (by omega) (by omega)
 have a3:gW 2 (k:Int)=true:=pX (by omega) (by omega)
 have a4:∀i j:Int,gW (i % 4294967291) j=true:=fun i j=>kU (by have:=Int.emod_nonneg i (show(4294967291:Int)≠0 by decide);omega) (by have:=Int.emod_lt_of_pos i (show(0:Int) < 4294967291 by decide);omega)
 have d1:oX 1024=true:=by decide
 simp only[ck,dN,List.length_cons,List.length_nil,Nat.zero_add,Nat.reduceAdd,gA,mI,aA,aB,ag,aa,bd,List.map_cons,List.map_nil,Nat.reduceSub,List.replicate,List.cons_append,List.nil_append,List.getElem?_cons_zero,Sl.isBr,Bool.false_and,Bool.false_eq_true,pC,qo,fD,look,Sl.val,pS,Int.reducePow,Int.reduceNeg,Option.bind_some,if_false,Int.reduceLE,Int.reduceLT,and_self,decide_true,Int.reduceToNat,if_true,Option.map_some,gd,hW,gJ,dO,Bool.not_false,Bool.true_or,Bool.and_true,aT,List.getElem?_cons_succ,a3,a1,a2,PL.settle,frz,frzAll,Nat.reduceLT,List.set_cons_succ,List.set_cons_zero,aN,cJ,d1,a4,bS,bF,dL]
 exact⟨_,rfl⟩
theorem aE{f g:de}{E E1:List Sl}(h:f E=some (E1,.nx)):aA f g E=g E1:=by
 unfold aA
 rw[h]
 rfl
theorem h9{c:mq}{a b:de}{E E1:List Sl}{r:Option (List Sl×Fl)}(h:c E=some (false,E1))(k:b E1=r):bg c a b E=r:=by
 unfold bg
 rw[h,←k]
 rfl
theorem jS{c:mq}{a b:de}{E E1:List Sl}{r:Option (List Sl×Fl)}(h:c E=some (true,E1))(k:a E1=r):bg c a b E=r:=by
 unfold bg
 rw[h,←k]
 rfl
theorem lh{tg:gS}{elt:bC}{d r:PyData}{ds rs:List PyData}{E E1:List Sl}(t:tg d E=some E1)(el:elt E1=some (.sh r,E1))(h:cf tg bK elt ds E1=some rs):cf tg bK elt (d::ds) E=some (r::rs):=by
 rw[cf,t,Option.bind_some]
 simp only[bK,Option.bind_some,el,frz,h,Option.map_some,if_true]
def cX(a:Nat):PyData:=.str ⟨#[a]⟩
theorem kI:∀w:List Nat,bE (w.map cX)=true
 |[]=>rfl
 |a::w=>by simp[bE,dL,kI w,cX]
def az(a:Nat):Prop:=97≤a∧a < 123
theorem gQ{a:Nat}(h:az a):a∈List.range' 97 26:=List.mem_range'_1.mpr ⟨h.1,h.2⟩
theorem aG{c:List PyData→Option Sl}{g:uM}{E E1:List Sl}{ss:List Sl}{ds:List PyData}{r:Sl}(h:g E=some (ss,E1))(hl:cb E1 ss=some ds)(hc:c ds=some r):aj c g E=some (r,E1):=by
 unfold aj
 rw[h,Option.bind_some]
 show(cb E1 ss).bind _=_
 rw[hl,Option.bind_some,hc]
 rfl
theorem qZ{x:Int}{f:bC}{E:List Sl}{y:Int}{g:bC}(hf:g E=some (.sh (.int x),E))(h:f E=some (.sh (.int y),E))(ok:gW x y=true):ag hW false g f E=some (.sh (.int (x*y)),E):=by
 simp only[ag,hW,hf,h,Option.bind_some,look,Sl.val,ok,Bool.false_and,Bool.false_eq_true,if_false,if_true]
theorem jT{x:Int}{f:bC}{E:List Sl}{y:Int}{g:bC}(hf:g E=some (.sh (.int x),E))(h:f E=some (.sh (.int y),E)):ag aT false g f E=some (.sh (.int (x+y)),E):=by
 simp only[ag,aT,hf,h,Option.bind_some,look,Sl.val,Bool.false_and,Bool.false_eq_true,if_false]
theorem gR{f:bC}{E E1:List Sl}{d:PyData}{i:Nat}(h:f E=some (.sh d,E1))(hi:i < E1.length):aB i f E=some (E1.set i (.sh d),.nx):=by
 unfold aB
 rw[h]
 simp only[Option.bind_some,PL.settle,hi,if_true]
theorem BN{a b:mq}{E E1:List Sl}{r:Option (Bool×List Sl)}(h:a E=some (false,E1))(k:b E1=r):lS a b E=r:=by
 unfold lS
 rw[h,Option.bind_some]
 exact k
theorem p_(w:List Nat)(a:Nat):(Builtin.Str.occurrences ⟨w.toArray⟩ ⟨#[a]⟩ 0 (⟨w.toArray⟩:Str).length 1).isEmpty= !decide (a∈w):=by
 have h:=PySem.StrLaws.found_one ⟨w.toArray⟩ a
 rw[List.toList_toArray]at h
 rw[←h,Bool.not_not]
def gu(a:Nat):Str:=⟨#[a]⟩
theorem BO{a b:Nat}(h:gu a=gu b):a=b:=by
 simp[gu]at h;exact h
theorem DA{a b:Nat}(h:a≤b):t7 (gu a) (gu b)=true:=by
 have:[a]≤[b]:=by
  rcases Nat.lt_or_ge a b with k |k
  ·exact List.le_of_lt (List.Lex.rel k)
  ·rw[Nat.le_antisymm h k];exact List.le_refl _
 exact decide_eq_true this
theorem DB(ks:List Str)(x y:Str):y∈CA ks x↔y∈ks∨y=x:=by
 unfold CA
 split
 ·rename_i h
  exact⟨.inl,fun z=>z.elim id fun e=>e▸h⟩
 ·simp
theorem zT{ks:List Str}(h:ks.Nodup)(x:Str):(CA ks x).Nodup:=by
 unfold CA
 split
 ·exact h
 ·rename_i k
  rw[List.nodup_append]
  refine⟨h,by simp,fun a ha b hb=>?_⟩
  rw[List.mem_singleton.mp hb]
  exact fun e=>k (e▸ha)
theorem uv:∀(ss ks:List Str),ks.Nodup→(ss.foldl CA ks).Nodup∧∀y,y∈ss.foldl CA ks↔y∈ks∨y∈ss
 |[],ks,h=>⟨h,fun y=>by simp⟩
 |s::ss,ks,h=>by
  obtain⟨a,b⟩:=uv ss (CA ks s) (zT h s)
  refine⟨a,fun y=>?_⟩
  rw[List.foldl_cons,b y,DB,List.mem_cons,or_assoc]
theorem zU(ss:List Str):(kQ ss).Nodup:=(uv ss [] List.nodup_nil).1
theorem DC(ss:List Str)(y:Str):y∈kQ ss↔y∈ss:=by
 rw[kQ,(uv ss [] List.nodup_nil).2 y];simp
def aD(w:List Nat):List Nat:=(List.range' 97 26).filter fun a=>decide (a∈w)
theorem inOrd_mem{w:List Nat}{a:Nat}:a∈aD w↔a∈List.range' 97 26∧a∈w:=by simp[aD]
theorem lj{α:Type}[DecidableEq α]:∀{l m:List α},l.Nodup→m.Nodup→(∀a,a∈l↔a∈m)→l.Perm m
 |[],m,_,_,h=>by
  have:m=[]:=by
   cases m with
   |nil=>rfl
   |cons b m=>exact absurd ((h b).mpr (by simp)) (by simp)
  rw[this]
 |a::l,m,hl,hm,h=>by
  have ha:a∈m:=(h a).mp (by simp)
  have hl':=List.nodup_cons.mp hl
  have p:=List.perm_cons_erase ha
  refine((lj hl'.2 (hm.erase a) fun b=>?_).cons a).trans p.symm
  rw[List.Nodup.mem_erase_iff hm,←h b,List.mem_cons]
  exact⟨fun k=>⟨fun e=>hl'.1 (e▸k),.inr k⟩,fun k=>k.2.resolve_left k.1⟩
theorem nt{w:List Nat}(h:w.Nodup):(w.map gu).Nodup:=by
 rw[List.Nodup,List.pairwise_map]
 exact h.imp fun k e=>k (BO e)
theorem lZ(w:List Nat):(aD w).Nodup:=List.Nodup.sublist List.filter_sublist (List.nodup_range' ..)
theorem n8(w:List Nat):((aD w).map gu).Pairwise fun a b=>t7 a b=true:=by
 rw[List.pairwise_map]
 have h:(List.range' 97 26).Pairwise (· < ·):=List.pairwise_lt_range'
 exact(h.sublist List.filter_sublist).imp fun k=>DA (Nat.le_of_lt k)
theorem l_{w:List Nat}(hw:∀a∈w,a∈List.range' 97 26):iR (kQ (w.map gu))=(aD w).map gu:=by
 refine(List.Perm.eq_of_pairwise (fun _ _ _ _ h k=>nG h k) (n8 w) (List.pairwise_mergeSort kt mz _) ?_).symm
 refine List.Perm.trans ?_ (List.mergeSort_perm _ t7).symm
 refine lj (nt (lZ w)) (zU _) fun y=>?_
 rw[DC,List.mem_map,List.mem_map]
 constructor
 ·rintro⟨a,ha,rfl⟩
  exact⟨a,(inOrd_mem.mp ha).2,rfl⟩
 ·rintro⟨a,ha,rfl⟩
  exact⟨a,inOrd_mem.mpr ⟨hw a ha,ha⟩,rfl⟩
theorem qa{w:List Nat}(hw:∀a∈w,a∈List.range' 97 26):(kQ (w.map gu)).length≤26:=by
 rw[←mB,l_ hw,List.length_map]
 refine Nat.le_trans (List.length_filter_le _ _) (by simp)
theorem DD{a:Nat}(h:az a):decide ([a] < (Str.ofString "a").cps.toList)=false:=by
 have e:(Str.ofString "a").cps.toList=[97]:=by decide+kernel
 rw[e]
 refine decide_eq_false fun k=>?_
 have:a < 97:=by
  cases k with
  |rel k=>exact k
  |cons k=>cases k
 exact absurd this (Nat.not_lt.mpr h.1)
theorem DE{a:Nat}(h:az a):decide ((Str.ofString "z").cps.toList < [a])=false:=by
 have e:(Str.ofString "z").cps.toList=[122]:=by decide+kernel
 rw[e]
 refine decide_eq_false fun k=>?_
 have:122 < a:=by
  cases k with
  |rel k=>exact k
  |cons k=>cases k
 exact absurd this (Nat.not_lt.mpr (Nat.le_of_lt_succ h.2))
theorem wZ{a:Nat}(h:az a):iq [.str ⟨#[a]⟩]=some (.sh (.bool true)):=by
 have l:(⟨#[a]⟩:Str).length=1:=rfl
 have t:(#[a]:Array Nat).toList=[a]:=rfl
 have lo:=DD h
 have hi:=DE h
 simp only[iq,dN,List.length_cons,List.length_nil,Nat.zero_add,gA,mE,aN,xL,ki,aa,bd,List.map_cons,List.map_nil,Nat.sub_self,List.replicate,List.cons_append,List.nil_append,List.getElem?_cons_zero,look,Sl.val,lG,Ty.is,Cz,Option.map_some,Option.bind_some,ag,bY,ae,Sl.isBr,Bool.false_and,Bool.false_eq_true,ak,if_false,eK,pC,hZ,fD,qp,Bool.or_false,iQ,Cm.i,Cm.s,cb,l,Nat.reduceLeDiff,Int.cast_ofNat_Int,if_true,bX,decide_true,hi,Bool.not_false,lo,bS,bF,dL]
theorem tj(x0:Sl):∀(w:List Nat) (a:Sl),(∀y∈w,az y)→∃a',bb iT iU (w.map cX) [x0,a]=some ([x0,a'],.nx)
 |[],a,_=>⟨a,rfl⟩
 |y::w,a,h=>by
  have n:=wZ (h y (List.mem_cons_self ..))
  have e:(iT (cX y) [x0,a]).bind iU=some ([x0,.sh (cX y)],.nx):=by
   simp only[iT,aI,List.length_cons,List.length_nil,Nat.zero_add,Nat.reduceAdd,Nat.reduceLT,cX,List.set_cons_succ,List.set_cons_zero,if_true,iU,Option.bind_some,bg,d0,dw,aj,ae,aa,List.getElem?_cons_succ,List.getElem?_cons_zero,Sl.isBr,Bool.false_and,Bool.false_eq_true,ak,Option.map_some,if_false,cb,look,Sl.val,n,i_,Bool.not_true,aL]
  obtain⟨a',ih⟩:=tj x0 w (.sh (cX y)) fun z hz=>h z (List.mem_cons_of_mem _ hz)
  refine⟨a',?_⟩
  rw[List.map_cons,bb,e]
  exact ih
theorem uw(w:List Nat):j7 ⟨w.toArray⟩=w.map cX:=by simp[j7,cX]
theorem Er(w:List Nat):nK ⟨w.toArray⟩=w.map gu:=by simp[nK,gu]
theorem n_:∀(w:List Nat),lA (w.map cX)=some (w.map gu)
 |[]=>rfl
 |a::w=>by simp only[List.map_cons,cX,lA];rw[n_ w];rfl
theorem q_(w:List Nat):jb ((w.map gu).map PyData.str)=some (w.map gu):=by
 induction w with
 |nil=>rfl
 |cons a w ih=>simp only[List.map_cons,jb,ih,Option.map_some]
theorem pc:∀(w:List Nat),jb (w.map cX)=some (w.map gu)
 |[]=>rfl
 |a::w=>by simp only[List.map_cons,cX,jb];rw[pc w];rfl
theorem uz(w:List Nat):((w.map gu).map (·.length)).sum+(w.map gu).length*(Str.ofString "").length=w.length:=by
 have:(Str.ofString "").length=0:=rfl
 rw[this,Nat.mul_zero,Nat.add_zero]
 induction w with
 |nil=>rfl
 |cons a w ih=>simp only[List.map_cons,List.sum_cons,ih,List.length_cons];show 1+_=_;omega
theorem rc:∀(w:List Nat),Txt.join "" (w.map gu)=⟨w.toArray⟩:=by
 intro w
 show Builtin.Str.glued "" _=_
 rw[StrLaws.glued_eq_join]
 induction w with
 |nil=>rfl
 |cons a w ih=>
  cases w with
  |nil=>rfl
  |cons b w=>
   have e:Str.join "" ((a::b::w).map gu)=(⟨#[a]⟩:Str)++""++Str.join "" ((b::w).map gu):=rfl
   rw[e,ih]
   show(⟨(#[a]++(Str.ofString "").cps)++(b::w).toArray⟩:Str)=_
   rw[show(Str.ofString "").cps=#[] by decide+kernel]
   simp
theorem mJ(w:List Nat):(aD w).length≤1000000:=Nat.le_trans (List.length_filter_le _ _) (by simp)
theorem oN{w:List Nat}(h:∀y∈w,az y)(hl:w.length≤3900):df [.str ⟨w.toArray⟩]=some (.sh (.str ⟨(aD w).toArray⟩)):=by
 obtain⟨a,e⟩:=tj (.sh (.str ⟨w.toArray⟩)) w .no h
 have d:=l_ fun y hy=>gQ (h y hy)
 have d2:(w.map gu).length < 4000∧(kQ (w.map gu)).length < 64:=⟨by rw[List.length_map];omega,Nat.lt_of_le_of_lt (qa fun y hy=>gQ (h y hy)) (by decide)⟩
 have l:=uz (aD w)
 have l2:=mJ w
 simp only[df,dN,List.length_cons,List.length_nil,Nat.zero_add,gA,nV,aA,bg,d0,dw,ki,aa,bd,List.map_cons,List.map_nil,Nat.reduceSub,List.replicate,List.cons_append,List.nil_append,List.getElem?_cons_zero,look,Sl.val,lG,Ty.is,Cz,Option.map_some,Option.bind_some,i_,Bool.not_true,aL,Bool.false_eq_true,if_false,cw,aQ,frz,aN,eN,dC,qC,uw,e,Er,d2,and_self,d,if_true,q_,l,l2,rc,bS,bF,dL]
theorem zV:(Str.ofString "abcdefghijklmnopqrstuvwxyz")=(⟨(List.range' 97 26).toArray⟩:Str):=by decide+kernel
theorem BP(w:List Nat)(a:Nat):Ek (.str ⟨#[a]⟩) (.str ⟨w.toArray⟩)=some (decide (a∈w)):=by
 show some (!(Builtin.Str.occurrences ⟨w.toArray⟩ ⟨#[a]⟩ 0 (⟨w.toArray⟩:Str).length 1).isEmpty)=_
 rw[p_,Bool.not_not]
theorem Es{E:List Sl}{f g:bC}{d1 d2:PyData}{b:Bool}(hf:f E=some (.sh d1,E))(hg:g E=some (.sh d2,E))(hd:Ek d1 d2=some b):cV (ag (xT false) false f g) E=some (b,E):=by
 simp only[cV,ag,xT,fD,hf,hg,hd,Option.bind_some,look,Sl.val,Option.map_some,Bool.false_and,Bool.false_eq_true,if_false]
theorem DF(w:List Nat)(n:Nat)(c:Nat)(hc:c=97+n)(p:Int)(hp:p=2 ^ n)(a:Sl):(gZ (.str ⟨#[c]⟩) [.sh (.str ⟨w.toArray⟩),.sh (.int (NH.fv w n)),.sh (.int p),a]).bind g5=some ([.sh (.str ⟨w.toArray⟩),.sh (.int (NH.fv w (n+1))),.sh (.int (p*2)),.sh (.str ⟨#[c]⟩)],.nx):=by
 have i1:=BP w c
 have ok:gW p 2=true:=pX (by decide) (by decide)
 have b:(NH.fv w (n+1):Int)=if c∈w then (NH.fv w n:Int)+p else (NH.fv w n:Int):=by
  rw[NH.fv,hc,hp]
  split
  ·push_cast;rfl
  ·simp
 generalize (NH.fv w (n+1):Int)=B1 at b ⊢
 generalize (NH.fv w n:Int)=B0 at b ⊢
 have tg:gZ (.str ⟨#[c]⟩) [.sh (.str ⟨w.toArray⟩),.sh (.int B0),.sh (.int p),a]=some [.sh (.str ⟨w.toArray⟩),.sh (.int B0),.sh (.int p),.sh (.str ⟨#[c]⟩)]:=rfl
 have t1:cV (ag (xT false) false (aa 3) (aa 0)) [.sh (.str ⟨w.toArray⟩),.sh (.int B0),.sh (.int p),.sh (.str ⟨#[c]⟩)]=some (decide (c∈w),[.sh (.str ⟨w.toArray⟩),.sh (.int B0),.sh (.int p),.sh (.str ⟨#[c]⟩)]):=Es rfl rfl i1
 have s2:∀x:Int,aB 2 (ag hW false (aa 2) (pC (.int 2))) [.sh (.str ⟨w.toArray⟩),.sh (.int x),.sh (.int p),.sh (.str ⟨#[c]⟩)]=some ([.sh (.str ⟨w.toArray⟩),.sh (.int x),.sh (.int (p*2)),.sh (.str ⟨#[c]⟩)],.nx):=fun x=>gR (qZ (g:=aa 2) (f:=pC (.int 2)) rfl rfl ok) (show 2 < 4 by decide)
 rw[tg,Option.bind_some,g5]
 by_cases h:c∈w
 ·rw[if_pos h]at b
  rw[decide_eq_true h]at t1
  have s1:aB 1 (ag aT false (aa 1) (aa 2)) [.sh (.str ⟨w.toArray⟩),.sh (.int B0),.sh (.int p),.sh (.str ⟨#[c]⟩)]=some ([.sh (.str ⟨w.toArray⟩),.sh (.int B1),.sh (.int p),.sh (.str ⟨#[c]⟩)],.nx):=by
   rw[b]
   exact gR (jT (g:=aa 1) (f:=aa 2) rfl rfl) (show 1 < 4 by decide)
  rw[aE (jS t1 s1)]
  exact s2 B1
 ·rw[if_neg h]at b
  rw[decide_eq_false h]at t1
  rw[aE (h9 (b:=aL) t1 rfl),b]
  exact s2 B0
theorem yi(w:List Nat):∀(k n:Nat) (a:Sl),n+k=26→∃a' b',bb gZ g5 ((List.range' (97+n) k).map fun c=>.str ⟨#[c]⟩) [.sh (.str ⟨w.toArray⟩),.sh (.int (NH.fv w n)),.sh (.int (2 ^ n)),a]=some ([.sh (.str ⟨w.toArray⟩),.sh (.int (NH.cy w)),b',a'],.nx)
 | 0,n,a,h=>⟨a,.sh (.int (2 ^ n)),by rw[show n=26 by omega];rfl⟩
 |k+1,n,a,h=>by
  have s:=DF w n (97+n) rfl (2 ^ n) rfl a
  rw[(Int.pow_succ 2 n).symm]at s
  obtain⟨a',b',e⟩:=yi w k (n+1) (.sh (.str ⟨#[97+n]⟩)) (by omega)
  refine⟨a',b',?_⟩
  rw[List.range'_succ,List.map_cons,bb,s]
  exact e
theorem nu(w:List Nat):cC [.str ⟨w.toArray⟩]=some (.sh (.int (NH.cy w))):=by
 obtain⟨a,b,e⟩:=yi w 26 0 .no rfl
 have z0:((NH.fv w 0:Nat):Int)=0:=rfl
 have z1:(2:Int) ^ 0=1:=rfl
 rw[z0,z1,Nat.add_zero]at e
 have sg:j7 (⟨(List.range' 97 26).toArray⟩:Str)=(List.range' 97 26).map fun c=>.str ⟨#[c]⟩:=by simp[j7]
 simp only[cC,dN,List.length_cons,List.length_nil,Nat.zero_add,gA,mH,aA,aB,pC,bd,List.map_cons,List.map_nil,Nat.reduceSub,List.replicate,List.cons_append,List.nil_append,PL.settle,frz,frzAll,Option.bind_some,Nat.reduceAdd,Nat.reduceLT,List.set_cons_succ,List.set_cons_zero,if_true,cw,aQ,zV,sg,aN,aa,e,List.getElem?_cons_succ,List.getElem?_cons_zero,bS,bF,dL]
theorem w5(a b:Nat):Builtin.bitAnd (a:Int) (b:Int)=((a &&& b:Nat):Int):=by
 simp[Builtin.bitAnd]
theorem BQ{E:List Sl}{f g:bC}{x y:Nat}(hf:f E=some (.sh (.int x),E))(hg:g E=some (.sh (.int y),E)):ag tZ false f g E=some (.sh (.int ((x &&& y:Nat):Int)),E):=by
 simp only[ag,tZ,fD,pS,hf,hg,Option.bind_some,look,Sl.val,Option.map_some,Bool.false_and,Bool.false_eq_true,if_false,if_true,w5]
theorem vO{E:List Sl}{f g:bC}{x y:Int}(hf:f E=some (.sh (.int x),E))(hg:g E=some (.sh (.int y),E)):cV (ag hZ false f g) E=some (decide (x=y),E):=by
 simp only[cV,ag,hZ,fD,hf,hg,Option.bind_some,look,Sl.val,Option.map_some,Bool.false_and,Bool.false_eq_true,if_false,bX]
def oa(n:Nat):PyData:=.int n
theorem yj(x1:Sl)(b:Nat):∀(ps:List Nat) (a:Sl),∃E,bb cq bL (ps.map oa) [.sh (.int b),x1,a]=some (E,if ps.any (fun p=>decide (p &&& b=p))then .rt (.sh (.bool true))else .nx)
 |[],a=>⟨_,rfl⟩
 |p::ps,a=>by
  have t1:cV (ag hZ false (ag tZ false (aa 2) (aa 0)) (aa 2)) [.sh (.int b),x1,.sh (.int p)]=some (decide (((p &&& b:Nat):Int)=(p:Int)),[.sh (.int b),x1,.sh (.int p)]):=vO (BQ (f:=aa 2) (g:=aa 0) (x:=p) (y:=b) rfl rfl) rfl
  have tg:cq (oa p) [.sh (.int b),x1,a]=some [.sh (.int b),x1,.sh (.int p)]:=rfl
  by_cases h:p &&& b=p
  ·rw[decide_eq_true (by rw[h])]at t1
   refine⟨[.sh (.int b),x1,.sh (.int p)],?_⟩
   have st:(cq (oa p) [.sh (.int b),x1,a]).bind bL=some ([.sh (.int b),x1,.sh (.int p)],.rt (.sh (.bool true))):=by
    rw[tg,Option.bind_some,bL]
    exact jS t1 rfl
   rw[List.map_cons,bb,st,List.any_cons,decide_eq_true h]
   rfl
  ·rw[decide_eq_false (by omega)]at t1
   obtain⟨E,ih⟩:=yj x1 b ps (.sh (.int p))
   refine⟨E,?_⟩
   have st:(cq (oa p) [.sh (.int b),x1,a]).bind bL=some ([.sh (.int b),x1,.sh (.int p)],.nx):=by
    rw[tg,Option.bind_some,bL]
    exact h9 t1 rfl
   rw[List.map_cons,bb,st,List.any_cons,decide_eq_false h,Bool.false_or]
   exact ih
theorem DG(b:Nat)(ps:List Nat):a_ [.int b,.list (ps.map oa)]=some (.sh (.bool (ps.any fun p=>decide (p &&& b=p)))):=by
 obtain⟨E,e⟩:=yj (.sh (.list (ps.map oa))) b ps .no
 cases h:ps.any (fun p=>decide (p &&& b=p))with
 |true=>
  rw[h]at e
  simp only[if_true]at e
  simp only[a_,dN,List.length_cons,List.length_nil,Nat.zero_add,Nat.reduceAdd,gA,eQ,aA,cw,aQ,aa,bd,List.map_cons,List.map_nil,Nat.reduceSub,List.replicate,List.cons_append,List.nil_append,List.getElem?_cons_succ,List.getElem?_cons_zero,frz,Option.bind_some,e,aN,pC,bS,bF,dL,if_true]
 |false=>
  rw[h]at e
  simp only[Bool.false_eq_true,if_false]at e
  simp only[a_,dN,List.length_cons,List.length_nil,Nat.zero_add,Nat.reduceAdd,gA,eQ,aA,cw,aQ,aa,bd,List.map_cons,List.map_nil,Nat.reduceSub,List.replicate,List.cons_append,List.nil_append,List.getElem?_cons_succ,List.getElem?_cons_zero,frz,Option.bind_some,e,aN,pC,bS,bF,dL,if_true]
theorem vP(x1:Sl)(b:Nat):∀(ps:List Nat) (a:Sl),∃E,bb dP cS (ps.map oa) [.sh (.int b),x1,a]=some (E,if ps.all (fun p=> !decide (p &&& b=0))then .nx else .rt (.sh (.bool false)))
 |[],a=>⟨_,rfl⟩
 |p::ps,a=>by
  have t1:cV (ag hZ false (ag tZ false (aa 2) (aa 0)) (pC (.int 0))) [.sh (.int b),x1,.sh (.int p)]=some (decide (((p &&& b:Nat):Int)=0),[.sh (.int b),x1,.sh (.int p)]):=vO (BQ (f:=aa 2) (g:=aa 0) (x:=p) (y:=b) rfl rfl) rfl
  have tg:dP (oa p) [.sh (.int b),x1,a]=some [.sh (.int b),x1,.sh (.int p)]:=rfl
  by_cases h:p &&& b=0
  ·rw[decide_eq_true (by rw[h];rfl)]at t1
   refine⟨[.sh (.int b),x1,.sh (.int p)],?_⟩
   have st:(dP (oa p) [.sh (.int b),x1,a]).bind cS=some ([.sh (.int b),x1,.sh (.int p)],.rt (.sh (.bool false))):=by
    rw[tg,Option.bind_some,cS]
    exact jS t1 rfl
   rw[List.map_cons,bb,st,List.all_cons,decide_eq_true h]
   rfl
  ·rw[decide_eq_false (by omega)]at t1
   obtain⟨E,ih⟩:=vP x1 b ps (.sh (.int p))
   refine⟨E,?_⟩
   have st:(dP (oa p) [.sh (.int b),x1,a]).bind cS=some ([.sh (.int b),x1,.sh (.int p)],.nx):=by
    rw[tg,Option.bind_some,cS]
    exact h9 t1 rfl
   rw[List.map_cons,bb,st,List.all_cons,decide_eq_false h,Bool.not_false,Bool.true_and]
   exact ih
theorem BR(b:Nat)(ps:List Nat):cZ [.int b,.list (ps.map oa)]=some (.sh (.bool (ps.all fun p=> !decide (p &&& b=0)))):=by
 obtain⟨E,e⟩:=vP (.sh (.list (ps.map oa))) b ps .no
 cases h:ps.all (fun p=> !decide (p &&& b=0))with
 |true=>
  rw[h]at e
  simp only[if_true]at e
  simp only[cZ,dN,List.length_cons,List.length_nil,Nat.zero_add,Nat.reduceAdd,gA,g7,aA,cw,aQ,aa,bd,List.map_cons,List.map_nil,Nat.reduceSub,List.replicate,List.cons_append,List.nil_append,List.getElem?_cons_succ,List.getElem?_cons_zero,frz,Option.bind_some,e,aN,pC,bS,bF,dL,if_true]
 |false=>
  rw[h]at e
  simp only[Bool.false_eq_true,if_false]at e
  simp only[cZ,dN,List.length_cons,List.length_nil,Nat.zero_add,Nat.reduceAdd,gA,g7,aA,cw,aQ,aa,bd,List.map_cons,List.map_nil,Nat.reduceSub,List.replicate,List.cons_append,List.nil_append,List.getElem?_cons_succ,List.getElem?_cons_zero,frz,Option.bind_some,e,aN,pC,bS,bF,dL,if_true]
def af(w:List Nat):PyData:=.str ⟨w.toArray⟩
def DH(w:List Nat):List (List Nat):=w.foldl (fun acc a=>acc++acc.map (· ++[a])) [[]]
theorem cA(l:List (List Nat)):bE (l.map af)=true:=by
 induction l with
 |nil=>rfl
 |cons a l ih=>show(dL (af a)&&bE (l.map af))=true;rw[ih];rfl
theorem FQ(u v:List Nat):(⟨u.toArray⟩:Str)++(⟨v.toArray⟩:Str)=⟨(u++v).toArray⟩:=by
 show(⟨u.toArray++v.toArray⟩:Str)=_
 simp
theorem nv(w:List Nat):(⟨w.toArray⟩:Str).length=w.length:=by show w.toArray.size=_;simp
theorem BS(a:Nat):∀(l:List (List Nat)) (x0:Sl),(∀u∈l,u.length≤1000)→cf iK bK gC (l.map af) [x0,.sh (.str ⟨#[a]⟩)]=some ((l.map (· ++[a])).map af)
 |[],x0,_=>rfl
 |u::l,x0,h=>by
  have hu:=h u (List.mem_cons_self ..)
  have ap:(⟨u.toArray⟩:Str)++(⟨#[a]⟩:Str)=⟨(u++[a]).toArray⟩:=FQ u [a]
  have l1:(⟨#[a]⟩:Str).length=1:=rfl
  have lb:u.length+1≤1000000:=by omega
  have e:iK (af u) [x0,.sh (.str ⟨#[a]⟩)]=some [.sh (.str ⟨u.toArray⟩),.sh (.str ⟨#[a]⟩)]:=rfl
  have e2:gC [.sh (.str ⟨u.toArray⟩),.sh (.str ⟨#[a]⟩)]=some (.sh (.str ⟨(u++[a]).toArray⟩),[.sh (.str ⟨u.toArray⟩),.sh (.str ⟨#[a]⟩)]):=by
   simp only[gC,ag,aa,List.getElem?_cons_zero,Sl.isBr,Bool.false_and,Bool.false_eq_true,aT,look,Sl.val,gJ,dO,if_false,Option.bind_some,List.getElem?_cons_succ,Bool.not_false,Bool.true_or,Bool.and_true,nv,l1,lb,ap,if_true]
  rw[List.map_cons,cf,e,Option.bind_some]
  simp only[bK,frz,Option.bind_some,e2,BS a l _ fun v hv=>h v (List.mem_cons_of_mem _ hv),Option.map_some,if_true,List.map_cons]
  rfl
theorem BT(x0:Sl):∀(w:List Nat) (l:List (List Nat)) (n:Nat) (a:Sl),l.length*2 ^ w.length≤100000→n+w.length≤1000→(∀u∈l,u.length≤n)→∃a',bb fJ fK (w.map fun c=>.str ⟨#[c]⟩) [x0,.ow (l.map af),a]=some ([x0,.ow ((w.foldl (fun acc a=>acc++acc.map (· ++[a])) l).map af),a'],.nx)
 |[],l,n,a,_,_,_=>⟨a,rfl⟩
 |c::w,l,n,a,hb,hn,hl=>by
  have p1:1≤2 ^ w.length:=Nat.one_le_two_pow
  have lle:l.length≤100000:=by
   rw[List.length_cons,Nat.pow_succ]at hb
   have:l.length*1≤l.length*(2 ^ w.length*2):=Nat.mul_le_mul_left _ (by omega)
   omega
  have k:=BS c l .no fun u hu=>by have:=hl u hu;simp at hn;omega
  have lb:(l.map (· ++[c])).length≤1000000:=by simp;omega
  have lb2:l.length+(l.map (· ++[c])).length≤1000000:=by simp;omega
  have fl:=cA (l.map (· ++[c]))
  have lb3:l.length≤1000000:=by omega
  have lb4:l.length+l.length≤1000000:=by omega
  have st:(fJ (.str ⟨#[c]⟩) [x0,.ow (l.map af),a]).bind fK=some ([x0,.ow ((l++l.map (· ++[c])).map af),.sh (.str ⟨#[c]⟩)],.nx):=by
   simp only[fJ,aI,List.length_cons,List.length_nil,Nat.zero_add,Nat.reduceAdd,Nat.reduceLT,List.set_cons_succ,List.set_cons_zero,if_true,fK,Option.bind_some,aB,ag,aa,List.getElem?_cons_succ,List.getElem?_cons_zero,Sl.isBr,Bool.false_and,Bool.false_eq_true,ba,aQ,frz,ja,List.map_cons,o5,List.map_nil,aT,look,Sl.val,gJ,dO,if_false,k,fl,List.length_map,lb3,decide_true,Bool.and_true,Option.any_some,Bool.not_false,Bool.true_or,lb4,←List.map_append,PL.settle,frzAll]
  obtain⟨a',e⟩:=BT x0 w (l++l.map (· ++[c])) (n+1) (.sh (.str ⟨#[c]⟩)) (by
   rw[List.length_append,List.length_map,←Nat.two_mul,Nat.mul_assoc]
   rw[List.length_cons,Nat.pow_succ]at hb
   have e1:2*(l.length*2 ^ w.length)=l.length*(2 ^ w.length*2):=by rw[Nat.mul_comm 2,Nat.mul_assoc]
   omega) (by simp at hn;omega) (fun u hu=>by
    rcases List.mem_append.mp hu with q |q
    ·have:=hl u q;omega
    ·obtain⟨v,hv,rfl⟩:=List.mem_map.mp q
     have:=hl v hv
     simp;omega)
  refine⟨a',?_⟩
  rw[List.map_cons,bb,st]
  exact e
theorem uA(w:List Nat)(hw:w.length≤10):bj [.str ⟨w.toArray⟩]=some (.ow ((DH w).map af)):=by
 have p:2 ^ w.length≤2 ^ 10:=Nat.pow_le_pow_right (by decide) hw
 obtain⟨a,e⟩:=BT (.sh (.str ⟨w.toArray⟩)) w [[]] 0 .no (by simp;omega) (by omega) (fun u hu=>by rw[List.mem_singleton.mp hu];simp)
 have e0:[PyData.str ""]=([[]]:List (List Nat)).map af:=rfl
 have sg:j7 (⟨w.toArray⟩:Str)=w.map fun c=>.str ⟨#[c]⟩:=by simp[j7]
 have fl:=cA (DH w)
 unfold DH at fl ⊢
 have s1:aB 1 (bD (aV (pC (.str "")) aZ)) [.sh (.str ⟨w.toArray⟩),.no,.no]=some ([.sh (.str ⟨w.toArray⟩),.ow (([[]]:List (List Nat)).map af),.no],.nx):=by
  rw[←e0]
  simp only[aB,bD,aV,pC,frz,aZ,Option.map_some,Option.bind_some,List.length_cons,List.length_nil,Nat.zero_add,Nat.reduceLeDiff,if_true,PL.settle,frzAll,Nat.reduceAdd,Nat.reduceLT,List.set_cons_succ,List.set_cons_zero]
 have it:∀y:Sl,aQ (aa 0) [.sh (.str ⟨w.toArray⟩),y,.no]=some (w.map fun c=>.str ⟨#[c]⟩,[.sh (.str ⟨w.toArray⟩),y,.no]):=fun y=>by
  simp only[aQ,aa,List.getElem?_cons_zero,frz,Option.bind_some,sg]
 have fo:cw (aQ (aa 0)) fJ fK [.sh (.str ⟨w.toArray⟩),.ow (([[]]:List (List Nat)).map af),.no]=some ([.sh (.str ⟨w.toArray⟩),.ow ((w.foldl (fun acc a=>acc++acc.map (· ++[a])) [[]]).map af),a],.nx):=by
  unfold cw
  rw[it,Option.bind_some]
  exact e
 have g:bj [.str ⟨w.toArray⟩]=(jN [.sh (.str ⟨w.toArray⟩),.no,.no]).bind fun a=>match a.2 with |.rt r=>bS r |.nx=>some (.sh .none) |_=>none:=rfl
 rw[g,jN,aE s1,aE fo]
 simp only[aN,aa,List.getElem?_cons_succ,List.getElem?_cons_zero,Option.bind_some,List.set_cons_succ,List.set_cons_zero,Option.map_some,bS,bF,fl,if_true]
open NhFam in
theorem yk(w:List Nat):NhSG.kX ⟨w.toArray⟩=key w:=by
 show(((⟨w.toArray⟩:Str).length:Int),w.toArray.toList)=((w.length:Int),w)
 rw[nv]
theorem re:∀F:List (List Nat),lA (F.map af)=some (F.map fun w=>(⟨w.toArray⟩:Str))
 |[]=>rfl
 |w::F=>by
  show(lA (F.map af)).map ((⟨w.toArray⟩:Str):: ·)=_
  rw[re F]
  rfl
theorem BU(F:List (List Nat)):NhSG.mP (F.map fun w=>(⟨w.toArray⟩:Str))=(NhFam.j6 F).map fun w=>(⟨w.toArray⟩:Str):=by
 refine(NhSG.sS ((List.mergeSort_perm F _).map _) ?_).symm
 rw[List.pairwise_map]
 exact(NhFam.sX F).imp fun {a b} h=>by
  unfold NhSG.uN
  rw[yk,yk]
  have:NhSG.ji (NhFam.key b) (NhFam.key a)=false:=by simpa[NhFam.lU]using h
  rw[this];rfl
theorem DI(F:List (List Nat)):(F.map fun w=>(⟨w.toArray⟩:Str)).map PyData.str=F.map af:=by rw[List.map_map];rfl
def Fit(F:List (List Nat)):Prop:=F.length < 1100∧∀w∈F,NH.qL w∧w.length≤1000
theorem Fit.chk{F:List (List Nat)}(h:Fit F):(decide ((F.map fun w=>(⟨w.toArray⟩:Str)).length < 65536)&&(F.map fun w=>(⟨w.toArray⟩:Str)).all fun z=>decide (z.length≤1000))=true:=by
 simp only[Bool.and_eq_true,decide_eq_true_eq,List.all_eq_true,List.length_map]
 refine⟨Nat.lt_trans h.1 (by decide),fun z hz=>?_⟩
 obtain⟨w,hw,rfl⟩:=List.mem_map.mp hz
 rw[nv]
 exact(h.2 w hw).2
theorem r8{F:List (List Nat)}(h:Fit F):bH [.list (F.map af)]=some (.ow ((NhFam.j6 F).map af)):=by
 have a:um (aa 0) [.sh (.list (F.map af))]=some (.ow ((NhFam.j6 F).map af),[.sh (.list (F.map af))]):=by
  unfold um
  simp only[aa,List.getElem?_cons_zero,Option.bind_some,look,Sl.val,re,h.chk,if_true,BU,DI]
 have fl:=cA (NhFam.j6 F)
 simp only[bH,gM,dN,gA,bd,aN,a,Option.bind_some,Option.map_some,bS,bF,fl,if_true,List.length_cons,List.length_nil,Nat.sub_self,List.replicate,List.map_cons,List.map_nil,List.append_nil,Nat.zero_add,Nat.reduceAdd]
def cI(w:List Nat):PyData:=oa (NH.cy w)
theorem zW(l:List (List Nat)):bE (l.map cI)=true:=by
 induction l with
 |nil=>rfl
 |cons a l ih=>show(dL (cI a)&&bE (l.map cI))=true;rw[ih];rfl
theorem vQ(K:List (List Nat)):K.map cI=(K.map NH.cy).map oa:=by rw[List.map_map];rfl
theorem BV{K:List (List Nat)}(h:∀k∈K,NH.qL k)(w:List Nat):(K.map NH.cy).any (fun p=>decide (p &&& NH.cy w=p))=K.any (fun k=>decide (NhFam.le k w)):=by
 induction K with
 |nil=>rfl
 |cons k K ih=>
  rw[List.map_cons,List.any_cons,List.any_cons,ih fun k hk=>h k (List.mem_cons_of_mem _ hk)]
  congr 1
  exact decide_eq_decide.mpr (NH.zB (h k (List.mem_cons_self ..)))
theorem rf(x0:Sl):∀(S K:List (List Nat)) (a b:Sl),(∀w∈S,NH.qL w)→(∀w∈K,NH.qL w)→K.length+S.length≤2000→∃y a' b',bb eC c_ (S.map af) [x0,.ow (K.map af),.ow (K.map cI),a,b]=some ([x0,.ow ((NhFam.d7 K S).map af),y,a',b'],.nx)
 |[],K,a,b,_,_,_=>⟨_,a,b,rfl⟩
 |w::S,K,a,b,hS,hK,hl=>by
  have tg:eC (af w) [x0,.ow (K.map af),.ow (K.map cI),a,b]=some [x0,.ow (K.map af),.ow (K.map cI),.sh (af w),b]:=rfl
  have c1:aj cC (ae false (aa 3) ak) [x0,.ow (K.map af),.ow (K.map cI),.sh (af w),b]=some (.sh (.int (NH.cy w)),[x0,.ow (K.map af),.ow (K.map cI),.sh (af w),b]):=aG (ss:=[.sh (af w)]) rfl rfl (nu w)
  have s1:aB 4 (aj cC (ae false (aa 3) ak)) [x0,.ow (K.map af),.ow (K.map cI),.sh (af w),b]=some ([x0,.ow (K.map af),.ow (K.map cI),.sh (af w),.sh (.int (NH.cy w))],.nx):=gR c1 (show 4 < 5 by decide)
  have pp:=DG (NH.cy w) (K.map NH.cy)
  rw[←vQ,BV hK w]at pp
  have c2:dw (aj a_ (ae false (aa 4) (ae false (aa 2) ak))) [x0,.ow (K.map af),.ow (K.map cI),.sh (af w),.sh (.int (NH.cy w))]=some (K.any (fun k=>decide (NhFam.le k w)),[x0,.ow (K.map af),.ow (K.map cI),.sh (af w),.sh (.int (NH.cy w))]):=by
   have c3:aj a_ (ae false (aa 4) (ae false (aa 2) ak)) [x0,.ow (K.map af),.ow (K.map cI),.sh (af w),.sh (.int (NH.cy w))]=some (.sh (.bool (K.any (fun k=>decide (NhFam.le k w)))),[x0,.ow (K.map af),.ow (K.map cI),.sh (af w),.sh (.int (NH.cy w))]):=aG (ss:=[.sh (.int (NH.cy w)),.al 2]) rfl rfl pp
   simp only[dw,c3,Option.bind_some,look,Sl.val,i_,Option.map_some]
  by_cases h:K.any (fun k=>decide (NhFam.le k w))=true
  ·rw[h]at c2
   have st:(eC (af w) [x0,.ow (K.map af),.ow (K.map cI),a,b]).bind c_=some ([x0,.ow (K.map af),.ow (K.map cI),.sh (af w),.sh (.int (NH.cy w))],.nx):=by
    rw[tg,Option.bind_some,c_,aE s1]
    refine h9 ?_ rfl
    simp only[d0,c2,Option.map_some,Bool.not_true]
   obtain⟨y,a',b',e⟩:=rf x0 S K (.sh (af w)) (.sh (.int (NH.cy w))) (fun v hv=>hS v (List.mem_cons_of_mem _ hv)) hK (by simp at hl;omega)
   refine⟨y,a',b',?_⟩
   rw[List.map_cons,bb,st,NhFam.d7,if_pos h]
   exact e
  ·have h':K.any (fun k=>decide (NhFam.le k w))=false:=by simpa using h
   rw[h']at c2
   have b1:K.length < 1000000:=by simp at hl;omega
   have st:(eC (af w) [x0,.ow (K.map af),.ow (K.map cI),a,b]).bind c_=some ([x0,.ow ((K++[w]).map af),.ow ((K++[w]).map cI),.sh (af w),.sh (.int (NH.cy w))],.nx):=by
    rw[tg,Option.bind_some,c_,aE s1]
    have n2:d0 (dw (aj a_ (ae false (aa 4) (ae false (aa 2) ak)))) [x0,.ow (K.map af),.ow (K.map cI),.sh (af w),.sh (.int (NH.cy w))]=some (true,[x0,.ow (K.map af),.ow (K.map cI),.sh (af w),.sh (.int (NH.cy w))]):=by
     simp only[d0,c2,Option.map_some,Bool.not_false]
    refine jS n2 ?_
    have a1:bU (aU 2 (aa 4)) [x0,.ow (K.map af),.ow (K.map cI),.sh (af w),.sh (.int (NH.cy w))]=some ([x0,.ow (K.map af),.ow ((K++[w]).map cI),.sh (af w),.sh (.int (NH.cy w))],.nx):=by
     simp only[bU,aU,List.getElem?_cons_succ,List.getElem?_cons_zero,aa,frz,Option.bind_some,List.length_map,b1,List.set_cons_succ,List.set_cons_zero,if_true,Option.map_some,List.map_append,List.map_cons,List.map_nil]
     rfl
    rw[aE a1]
    simp only[bU,aU,List.map_append,List.map_cons,List.map_nil,List.getElem?_cons_succ,List.getElem?_cons_zero,aa,frz,Option.bind_some,List.length_map,b1,List.set_cons_succ,List.set_cons_zero,if_true,Option.map_some]
   obtain⟨y,a',b',e⟩:=rf x0 S (K++[w]) (.sh (af w)) (.sh (.int (NH.cy w))) (fun v hv=>hS v (List.mem_cons_of_mem _ hv)) (fun v hv=>by
    rcases List.mem_append.mp hv with q |q
    ·exact hK v q
    ·rw[List.mem_singleton.mp q];exact hS w (List.mem_cons_self ..)) (by simp at hl ⊢;omega)
   refine⟨y,a',b',?_⟩
   rw[List.map_cons,bb,st,NhFam.d7,if_neg h]
   exact e
theorem ma{F:List (List Nat)}(h:Fit F):bV [.list (F.map af)]=some (.ow ((NhFam.aH F).map af)):=by
 obtain⟨y,a,b,e⟩:=rf (.sh (.list (F.map af))) (NhFam.j6 F) [] .no .no (fun w hw=>(h.2 w (NhFam.sortT_mem.mp hw)).1) (fun w hw=>by cases hw) (by
  have:(NhFam.j6 F).length=F.length:=(List.mergeSort_perm F _).length_eq
  have:=h.1
  simp;omega)
 have it:aQ (aj bH (ae false (aa 0) ak)) [.sh (.list (F.map af)),.ow [],.ow [],.no,.no]=some ((NhFam.j6 F).map af,[.sh (.list (F.map af)),.ow [],.ow [],.no,.no]):=by
  have c:aj bH (ae false (aa 0) ak) [.sh (.list (F.map af)),.ow [],.ow [],.no,.no]=some (.ow ((NhFam.j6 F).map af),[.sh (.list (F.map af)),.ow [],.ow [],.no,.no]):=aG (ss:=[.sh (.list (F.map af))]) rfl rfl (r8 h)
  unfold aQ
  rw[c]
  rfl
 have fo:cw (aQ (aj bH (ae false (aa 0) ak))) eC c_ [.sh (.list (F.map af)),.ow [],.ow [],.no,.no]=some ([.sh (.list (F.map af)),.ow ((NhFam.aH F).map af),y,a,b],.nx):=by
  unfold cw
  rw[it,Option.bind_some]
  exact e
 have g:bV [.list (F.map af)]=(jM [.sh (.list (F.map af)),.no,.no,.no,.no]).bind fun a=>match a.2 with |.rt r=>bS r |.nx=>some (.sh .none) |_=>none:=rfl
 have s1:aB 1 (bD aZ) [.sh (.list (F.map af)),.no,.no,.no,.no]=some ([.sh (.list (F.map af)),.ow [],.no,.no,.no],.nx):=by simp only[aB,bD,aZ,Option.bind_some,List.length_nil,Nat.reduceLeDiff,if_true,PL.settle,frz,frzAll,List.length_cons,Nat.zero_add,Nat.reduceAdd,Nat.reduceLT,List.set_cons_succ,List.set_cons_zero]
 have s2:aB 2 (bD aZ) [.sh (.list (F.map af)),.ow [],.no,.no,.no]=some ([.sh (.list (F.map af)),.ow [],.ow [],.no,.no],.nx):=by simp only[aB,bD,aZ,Option.bind_some,List.length_nil,Nat.reduceLeDiff,if_true,PL.settle,frz,frzAll,List.length_cons,Nat.zero_add,Nat.reduceAdd,Nat.reduceLT,List.set_cons_succ,List.set_cons_zero]
 have fl:=cA (NhFam.aH F)
 rw[g,jM,aE s1,aE s2,aE fo]
 simp only[aN,aa,List.getElem?_cons_succ,List.getElem?_cons_zero,Option.bind_some,List.set_cons_succ,List.set_cons_zero,Option.map_some,bS,bF,fl,if_true]
def wa(w:List Nat):Str:=⟨w.toArray⟩
theorem bQ(w:List Nat):NhFam.Srt (aD w):=List.Pairwise.sublist List.filter_sublist (List.pairwise_lt_range' ..)
theorem BW{w:List Nat}(h:NhFam.Srt w)(a:∀y∈w,az y):aD w=w:=
 (bQ w).ext h (fun x hx=>(inOrd_mem.mp hx).2) fun x hx=>inOrd_mem.mpr ⟨gQ (a x hx),hx⟩
theorem ym:∀F:List (List Nat),Txt.join "" (F.map wa)=⟨F.flatten.toArray⟩:=by
 intro F
 show Builtin.Str.glued "" _=_
 rw[StrLaws.glued_eq_join]
 induction F with
 |nil=>rfl
 |cons a F ih=>
  cases F with
  |nil=>simp[Str.join,wa]
  |cons b F=>
   have e:Str.join "" ((a::b::F).map wa)=(wa a)++""++Str.join "" ((b::F).map wa):=rfl
   rw[e,ih]
   show(⟨(a.toArray++(Str.ofString "").cps)++(b::F).flatten.toArray⟩:Str)=_
   rw[show(Str.ofString "").cps=#[] by decide+kernel]
   simp
theorem oO:∀F:List (List Nat),jb (F.map af)=some (F.map wa)
 |[]=>rfl
 |w::F=>by
  show(jb (F.map af)).map (wa w:: ·)=_
  rw[oO F]
  rfl
theorem vR:∀F:List (List Nat),((F.map wa).map (·.length)).sum+(F.map wa).length*(Str.ofString "").length=F.flatten.length:=by
 intro F
 have:(Str.ofString "").length=0:=rfl
 rw[this,Nat.mul_zero,Nat.add_zero]
 induction F with
 |nil=>rfl
 |cons a F ih=>
  simp only[List.map_cons,List.sum_cons,ih,List.flatten_cons,List.length_append]
  rw[show(wa a).length=a.length from nv a]
theorem mU{w:List Nat}(h:w.length≤10):cc [af w]=some (.sh .none):=by
 have l:=nv w
 have lt:¬((w.length:Int) > 10):=by omega
 have lb:w.length≤1000000:=by omega
 simp only[cc,dN,af,List.length_cons,List.length_nil,Nat.zero_add,gA,jn,bg,cV,ag,bY,ae,aa,bd,List.map_cons,List.map_nil,Nat.sub_self,List.replicate,List.cons_append,List.nil_append,List.getElem?_cons_zero,Sl.isBr,Bool.false_and,Bool.false_eq_true,ak,Option.map_some,if_false,Option.bind_some,eK,cb,look,Sl.val,l,lb,if_true,pC,fD,iQ,Cm.i,Cm.s,lt,decide_false,aL,bS,bF]
theorem gv{js:List (Option Nat)}{it:pB}{tg:gS}{c:mq}{el:bC}{E E1:List Sl}{ds rs:List PyData}(hi:it E=some (ds,E1))(hl:cf tg c el ds (ja js E1)=some rs)(fl:bE rs=true)(ll:rs.length≤1000000):ba js it tg c el E=some (.ow rs,E1):=by
 simp only[ba,hi,Option.bind_some,hl,fl,ll,if_true,and_self,Option.map_some,decide_true,Bool.and_self,Bool.true_and,Bool.and_true]
theorem tm:∀(F:List (List Nat)) (x:Sl),cf cK bK cL (F.map af) [x]=some (F.map cI)
 |[],x=>rfl
 |v::F,x=>by
  have t:cK (af v) [x]=some [.sh (af v)]:=rfl
  have e:cL [.sh (af v)]=some (.sh (.int (NH.cy v)),[.sh (af v)]):=aG (ss:=[.sh (af v)]) rfl rfl (nu v)
  exact lh t e (tm F _)
theorem BX{K:List (List Nat)}(h:∀k∈K,NH.qL k)(w:List Nat):(K.map NH.cy).all (fun p=> !decide (p &&& NH.cy w=0))=NhFam.fk K w:=by
 unfold NhFam.fk
 induction K with
 |nil=>rfl
 |cons k K ih=>
  rw[List.map_cons,List.all_cons,List.all_cons,ih fun k hk=>h k (List.mem_cons_of_mem _ hk)]
  congr 1
  exact congrArg not (decide_eq_decide.mpr (NH.zC (h k (List.mem_cons_self ..))))
theorem vS{tg:gS}{cond:mq}{elt:bC}{d r:PyData}{ds rs:List PyData}{E E1:List Sl}{b:Bool}(t:tg d E=some E1)(c:cond E1=some (b,E1))(el:elt E1=some (.sh r,E1))(h:cf tg cond elt ds E1=some rs):cf tg cond elt (d::ds) E=some (if b then r::rs else rs):=by
 cases b with
 |true=>simp only[cf,t,c,el,h,Option.bind_some,Option.map_some,if_true,frz]
 |false=>simp only[cf,t,c,h,Option.bind_some,Bool.false_eq_true,if_false]
theorem yn{K:List (List Nat)}(hK:∀k∈K,NH.qL k):∀(F:List (List Nat)) (x:Sl),cf cM cg cN (F.map af) [x,.sh (.list (K.map cI))]=some ((F.filter (NhFam.fk K)).map af)
 |[],x=>rfl
 |v::F,x=>by
  have t:cM (af v) [x,.sh (.list (K.map cI))]=some [.sh (af v),.sh (.list (K.map cI))]:=rfl
  have el:cN [.sh (af v),.sh (.list (K.map cI))]=some (.sh (af v),[.sh (af v),.sh (.list (K.map cI))]):=rfl
  have c1:aj cC (ae false (aa 0) ak) [.sh (af v),.sh (.list (K.map cI))]=some (.sh (.int (NH.cy v)),[.sh (af v),.sh (.list (K.map cI))]):=aG (ss:=[.sh (af v)]) rfl rfl (nu v)
  have pm:=BR (NH.cy v) (K.map NH.cy)
  rw[←vQ,BX hK v]at pm
  have c2:aj cZ (ae false (aj cC (ae false (aa 0) ak)) (ae false (aa 1) ak)) [.sh (af v),.sh (.list (K.map cI))]=some (.sh (.bool (NhFam.fk K v)),[.sh (af v),.sh (.list (K.map cI))]):=aG (ss:=[.sh (.int (NH.cy v)),.sh (.list (K.map cI))]) (by simp only[ae,ak,c1,Option.bind_some,Option.map_some,Bool.false_and,Bool.false_eq_true,if_false,aa,List.getElem?_cons_succ,List.getElem?_cons_zero]) rfl pm
  have c:cg [.sh (af v),.sh (.list (K.map cI))]=some (NhFam.fk K v,[.sh (af v),.sh (.list (K.map cI))]):=by
   unfold cg
   simp only[dw,c2,Option.bind_some,look,Sl.val,i_,Option.map_some]
  rw[List.map_cons,vS t c el (yn hK F _),List.filter_cons]
  split <;> rfl
theorem uB{f:bC}{E E1:List Sl}{r:Sl}(h:f E=some (r,E1)):bU f E=some (E1,.nx):=by
 simp only[bU,h,Option.map_some]
theorem jd{f:bC}{E E1:List Sl}{ds:List PyData}{i:Nat}(h:f E=some (.ow ds,E1))(hi:i < E1.length):aB i f E=some (E1.set i (.ow ds),.nx):=by
 simp only[aB,h,Option.bind_some,PL.settle,Sl.isAl,Bool.false_eq_true,if_false,hi,if_true,Option.map_some]
theorem zX{w:List Nat}(n:w.Nodup)(a:∀y∈w,az y):iR (w.map gu)=(aD w).map gu:=by
 refine(List.Perm.eq_of_pairwise (fun _ _ _ _ h k=>nG h k) (n8 w) (List.pairwise_mergeSort kt mz _) ?_).symm
 refine List.Perm.trans ?_ (List.mergeSort_perm _ _).symm
 refine lj (nt (lZ w)) (nt n) fun y=>?_
 constructor
 ·intro h
  obtain⟨a,ha,rfl⟩:=List.mem_map.mp h
  exact List.mem_map.mpr ⟨a,(inOrd_mem.mp ha).2,rfl⟩
 ·intro h
  obtain⟨b,hb,rfl⟩:=List.mem_map.mp h
  exact List.mem_map.mpr ⟨b,inOrd_mem.mpr ⟨gQ (a b hb),hb⟩,rfl⟩
theorem pe{w:List Nat}(n:w.Nodup)(a:∀y∈w,az y):(aD w).length=w.length:=
 (lj (lZ w) n fun y=>⟨fun h=>(inOrd_mem.mp h).2,fun h=>inOrd_mem.mpr ⟨gQ (a y h),h⟩⟩).length_eq
theorem FR{f g:bC}{E:List Sl}{s1 s2:Sl}(hf:f E=some (s1,E))(hg:g E=some (s2,E)):ae false f (ae false g ak) E=some ([s1,s2],E):=by
 simp only[ae,ak,hf,hg,Option.bind_some,Option.map_some,Bool.false_and,Bool.false_eq_true,if_false]
theorem mf{E:List Sl}{f g:bC}{x y:Int}(hf:f E=some (.sh (.int x),E))(hg:g E=some (.sh (.int y),E))(h:0 < y):ag gd false f g E=some (.sh (.int (x % y)),E):=by
 simp only[ag,hf,hg,Option.bind_some,Bool.false_and,Bool.false_eq_true,if_false,gd,fD,pS,look,Sl.val,h,decide_true,if_true,Option.map_some]
theorem mK{E:List Sl}{f g:bC}{x y:Int}(hf:f E=some (.sh (.int x),E))(hg:g E=some (.sh (.int y),E))(h:oX y=true):ag cJ false f g E=some (.sh (.int (x / y)),E):=by
 simp only[ag,hf,hg,Option.bind_some,Bool.false_and,Bool.false_eq_true,if_false,cJ,fD,pS,look,Sl.val,h,if_true,Option.map_some]
theorem Et{f:bC}{E:List Sl}{s1:Sl}(hf:f E=some (s1,E)):ae false f ak E=some ([s1],E):=by
 simp only[ae,ak,hf,Option.bind_some,Option.map_some,Bool.false_and,Bool.false_eq_true,if_false]
structure Uni (U:List Nat):Prop where
 srt:NhFam.Srt U
 lt:∀a∈U,az a
 len:U.length≤10
theorem Uni.ltrs{U w:List Nat}(h:Uni U)(s:NhFam.Sub U w):NH.qL w:=fun a ha=>by
 have:=h.lt a (s.2 a ha)
 exact⟨this.1,this.2⟩
theorem Uni.azw{U w:List Nat}(h:Uni U)(s:NhFam.Sub U w):∀a∈w,az a:=fun a ha=>h.lt a (s.2 a ha)
theorem Uni.short{U w:List Nat}(h:Uni U)(s:NhFam.Sub U w):w.length≤10:=Nat.le_trans (NhFam.fH s.1 h.srt s.2).length_le h.len
theorem Uni.small{U V:List Nat}(u:Uni U)(hV:NhFam.Sub U V):Uni V:=⟨hV.1,u.azw hV,u.short hV⟩
structure Wrt (U:List Nat) (W:List (List Nat)):Prop where
 sub:∀t∈W,NhFam.le t U
 tl:∀t∈W,t.length≤20
 len:W.length≤190
def ie(W:List (List Nat)):List (List Nat):=W.map aD
theorem DJ{U t:List Nat}(u:Uni U)(h:NhFam.le t U):NhFam.Sub U (aD t):=⟨bQ t,fun x hx=>h x (inOrd_mem.mp hx).2⟩
theorem Wrt.sets{U:List Nat}{W:List (List Nat)}(u:Uni U)(h:Wrt U W):∀v∈ie W,NhFam.Sub U v:=fun v hv=>by
 obtain⟨t,ht,rfl⟩:=List.mem_map.mp hv
 exact DJ u (h.sub t ht)
theorem BY{U:List Nat}{F:List (List Nat)}(u:Uni U)(h:∀v∈F,NhFam.Sub U v)(hl:F.length < 1100):Fit F:=⟨hl,fun w hw=>⟨u.ltrs (h w hw),by have:=u.short (h w hw);omega⟩⟩
theorem mV{U:List Nat}(u:Uni U):∀(W:List (List Nat)) (x:Sl),(∀t∈W,NhFam.le t U)→(∀t∈W,t.length≤20)→cf dQ bK dR (W.map af) [x]=some ((ie W).map af)
 |[],x,_,_=>rfl
 |v::W,x,h,hl=>by
  have t:dQ (af v) [x]=some [.sh (af v)]:=rfl
  have so:=oN (w:=v) (fun y hy=>u.lt y (h v (List.mem_cons_self ..) y hy)) (by have:=hl v (List.mem_cons_self ..);omega)
  have e:dR [.sh (af v)]=some (.sh (af (aD v)),[.sh (af v)]):=aG (ss:=[.sh (af v)]) rfl rfl so
  exact lh t e (mV u W _ (fun v hv=>h v (List.mem_cons_of_mem _ hv)) fun v hv=>hl v (List.mem_cons_of_mem _ hv))
theorem mW{U:List Nat}{W:List (List Nat)}(u:Uni U)(h:Wrt U W):bi [.list (W.map af)]=some (.ow ((NhFam.aH (ie W)).map af)):=by
 have ls:(ie W).length=W.length:=by unfold ie;rw[List.length_map]
 have hl:=h.len
 have c:ba [none] (aQ (aa 0)) dQ bK dR [.sh (.list (W.map af))]=some (.ow ((ie W).map af),[.sh (.list (W.map af))]):=gv rfl (mV u W _ h.sub h.tl) (cA _) (by rw[List.length_map];omega)
 have b:aj bV (ae false (ba [none] (aQ (aa 0)) dQ bK dR) ak) [.sh (.list (W.map af))]=some (.ow ((NhFam.aH (ie W)).map af),[.sh (.list (W.map af))]):=aG (ss:=[.ow ((ie W).map af)]) (by simp only[ae,ak,c,Option.bind_some,Option.map_some,Bool.false_and,Bool.false_eq_true,if_false]) rfl (ma (BY u (h.sets u) (by omega)))
 have fl:=cA (NhFam.aH (ie W))
 simp only[bi,jr,dN,gA,bd,aN,b,Option.bind_some,Option.map_some,bS,bF,fl,if_true,List.length_cons,List.length_nil,Nat.sub_self,List.replicate,List.map_cons,List.map_nil,List.append_nil,Nat.zero_add,Nat.reduceAdd]
theorem vT{W:List (List Nat)}(h:∀t∈W,t.length≤20):W.flatten.length≤W.length*20:=by
 induction W with
 |nil=>simp
 |cons a W ih=>
  have:=ih fun v hv=>h v (List.mem_cons_of_mem _ hv)
  have:=h a (List.mem_cons_self ..)
  simp only[List.flatten_cons,List.length_append,List.length_cons]
  omega
theorem rh{U:List Nat}{W:List (List Nat)}(u:Uni U)(h:Wrt U W):cF [.list (W.map af)]=some (.sh (af (aD W.flatten))):=by
 have fl:=vT h.tl
 have hl:=h.len
 have e:=oN (w:=W.flatten) (fun y hy=>by
  obtain⟨v,hv,hy⟩:=List.mem_flatten.mp hy
  exact u.lt y (h.sub v hv y hy)) (by omega)
 have l:=vR W
 have l2:W.flatten.length≤1000000:=by omega
 have j:=ym W
 have a:eN "" (aa 0) [.sh (.list (W.map af))]=some (.sh (.str ⟨W.flatten.toArray⟩),[.sh (.list (W.map af))]):=by
  simp only[eN,ki,qC,aa,List.getElem?_cons_zero,Option.bind_some,look,Sl.val,oO,l,l2,if_true,Option.map_some,j]
 have b:aj df (ae false (eN "" (aa 0)) ak) [.sh (.list (W.map af))]=some (.sh (af (aD W.flatten)),[.sh (.list (W.map af))]):=aG (ss:=[.sh (.str ⟨W.flatten.toArray⟩)]) (by simp only[ae,ak,a,Option.bind_some,Option.map_some,Bool.false_and,Bool.false_eq_true,if_false]) rfl e
 have fx:dL (af (aD W.flatten))=true:=rfl
 simp only[cF,iL,dN,gA,bd,aN,b,Option.bind_some,Option.map_some,bS,bF,fx,if_true,List.length_cons,List.length_nil,Nat.sub_self,List.replicate,List.map_cons,List.map_nil,List.append_nil,Nat.zero_add,Nat.reduceAdd]
theorem oP{U:List Nat}{W:List (List Nat)}(u:Uni U)(h:Wrt U W):NhFam.Sub U (aD W.flatten):=⟨bQ _,fun x hx=>by
 obtain⟨v,hv,hx⟩:=List.mem_flatten.mp (inOrd_mem.mp hx).2
 exact h.sub v hv x hx⟩
theorem zY{U:List Nat}{W:List (List Nat)}(u:Uni U)(h:Wrt U W):∀v∈ie W,NhFam.le v (aD W.flatten):=fun v hv x hx=>by
 obtain⟨t,ht,rfl⟩:=List.mem_map.mp hv
 obtain⟨a,b⟩:=inOrd_mem.mp hx
 exact inOrd_mem.mpr ⟨a,List.mem_flatten.mpr ⟨t,ht,b⟩⟩
theorem oQ(L M:List (List Nat))(hn:L.Nodup)(hm:∀w∈L,w∈M):L.length≤M.length:=by
 induction L generalizing M with
 |nil=>simp
 |cons a L ih=>
  have hn':=List.nodup_cons.mp hn
  have:=ih (M.erase a) hn'.2 fun w hw=>(List.mem_erase_of_ne (a:=w) (b:=a) (fun e=>hn'.1 (by rw[←e];exact hw))).mpr (hm w (List.mem_cons_of_mem _ hw))
  rw[List.length_erase_of_mem (hm a (List.mem_cons_self ..))]at this
  have pos:0 < M.length:=List.length_pos_of_mem (hm a (List.mem_cons_self ..))
  simp only[List.length_cons]
  omega
theorem vU{U:List Nat}{L:List (List Nat)}{f:List Nat→Prop}(u:Uni U)(t:NhFam.Told U L f):L.length≤1024:=by
 have:=oQ L (NhFam.eP U) (NhFam.mC t.srt) fun w hw=>(NhFam.gY u.srt).mpr (t.sub w hw)
 rw[NhFam.nT]at this
 have p:2 ^ U.length≤2 ^ 10:=Nat.pow_le_pow_right (by decide) u.len
 omega
theorem uC{V:List Nat}(u:Uni V)(p:List Nat→Bool):((NhFam.eP V).filter p).length≤1024:=by
 have:=List.length_filter_le p (NhFam.eP V)
 rw[NhFam.nT]at this
 have q:2 ^ V.length≤2 ^ 10:=Nat.pow_le_pow_right (by decide) u.len
 omega
theorem pO{U:List Nat}{W:List (List Nat)}(u:Uni U)(h:Wrt U W):aJ [.list (W.map af)]=some (.ow ((NhFam.qR (ie W) (aD W.flatten)).map af)):=by
 have tl:=NhFam.fj (h.sets u)
 have lL:=vU u tl
 have hV:=oP u h
 have uV:=u.small hV
 have hK:∀k∈NhFam.aH (ie W),NH.qL k:=fun k hk=>u.ltrs (tl.sub k hk)
 have cnt:=uC uV (NhFam.fk (NhFam.aH (ie W)))
 generalize eV:aD W.flatten=V at hV uV cnt
 generalize eF:ie W=F at tl lL hK cnt
 have pl:=mW u h
 rw[eF]at pl
 have pn:=rh u h
 rw[eV]at pn
 have c1:aj bi (ae false (aa 0) ak) [.sh (.list (W.map af)),.no,.no]=some (.ow ((NhFam.aH F).map af),[.sh (.list (W.map af)),.no,.no]):=aG (ss:=[.sh (.list (W.map af))]) rfl rfl pl
 have i1:aQ (aj bi (ae false (aa 0) ak)) [.sh (.list (W.map af)),.no,.no]=some ((NhFam.aH F).map af,[.sh (.list (W.map af)),.no,.no]):=by
  unfold aQ
  rw[c1]
  rfl
 have p1:ba [none] (aQ (aj bi (ae false (aa 0) ak))) cK bK cL [.sh (.list (W.map af)),.no,.no]=some (.ow ((NhFam.aH F).map cI),[.sh (.list (W.map af)),.no,.no]):=gv i1 (tm _ _) (zW _) (by rw[List.length_map];omega)
 have s1:aB 1 (ba [none] (aQ (aj bi (ae false (aa 0) ak))) cK bK cL) [.sh (.list (W.map af)),.no,.no]=some ([.sh (.list (W.map af)),.ow ((NhFam.aH F).map cI),.no],.nx):=jd p1 (show 1 < 3 by decide)
 have c2:aj cF (ae false (aa 0) ak) [.sh (.list (W.map af)),.ow ((NhFam.aH F).map cI),.no]=some (.sh (af V),[.sh (.list (W.map af)),.ow ((NhFam.aH F).map cI),.no]):=aG (ss:=[.sh (.list (W.map af))]) rfl rfl pn
 have s2:aB 2 (aj cF (ae false (aa 0) ak)) [.sh (.list (W.map af)),.ow ((NhFam.aH F).map cI),.no]=some ([.sh (.list (W.map af)),.ow ((NhFam.aH F).map cI),.sh (af V)],.nx):=gR c2 (show 2 < 3 by decide)
 have c3:bU (aj cc (ae false (aa 2) ak)) [.sh (.list (W.map af)),.ow ((NhFam.aH F).map cI),.sh (af V)]=some ([.sh (.list (W.map af)),.ow ((NhFam.aH F).map cI),.sh (af V)],.nx):=uB (aG (ss:=[.sh (af V)]) rfl rfl (mU (by have:=uV.len;omega)))
 have c4:aj bj (ae false (aa 2) ak) [.sh (.list (W.map af)),.ow ((NhFam.aH F).map cI),.sh (af V)]=some (.ow ((DH V).map af),[.sh (.list (W.map af)),.ow ((NhFam.aH F).map cI),.sh (af V)]):=aG (ss:=[.sh (af V)]) rfl rfl (uA _ (by have:=uV.len;omega))
 have i4:aQ (aj bj (ae false (aa 2) ak)) [.sh (.list (W.map af)),.ow ((NhFam.aH F).map cI),.sh (af V)]=some ((NhFam.eP V).map af,[.sh (.list (W.map af)),.ow ((NhFam.aH F).map cI),.sh (af V)]):=by
  unfold aQ
  rw[c4]
  rfl
 have fit:Fit ((NhFam.eP V).filter (NhFam.fk (NhFam.aH F))):=BY uV (fun v hv=>(NhFam.gY uV.srt).mp (List.mem_filter.mp hv).1) (by omega)
 have p4:ba [none,some 1] (aQ (aj bj (ae false (aa 2) ak))) cM cg cN [.sh (.list (W.map af)),.ow ((NhFam.aH F).map cI),.sh (af V)]=some (.ow (((NhFam.eP V).filter (NhFam.fk (NhFam.aH F))).map af),[.sh (.list (W.map af)),.ow ((NhFam.aH F).map cI),.sh (af V)]):=gv i4 (yn hK _ _) (cA _) (by rw[List.length_map];omega)
 have c5:aj bV (ae false (ba [none,some 1] (aQ (aj bj (ae false (aa 2) ak))) cM cg cN) ak) [.sh (.list (W.map af)),.ow ((NhFam.aH F).map cI),.sh (af V)]=some (.ow ((NhFam.qR F V).map af),[.sh (.list (W.map af)),.ow ((NhFam.aH F).map cI),.sh (af V)]):=aG (ss:=[.ow (((NhFam.eP V).filter (NhFam.fk (NhFam.aH F))).map af)]) (by simp only[ae,ak,p4,Option.bind_some,Option.map_some,Bool.false_and,Bool.false_eq_true,if_false]) rfl (ma fit)
 have g:aJ [.list (W.map af)]=(fV [.sh (.list (W.map af)),.no,.no]).bind fun a=>match a.2 with |.rt r=>bS r |.nx=>some (.sh .none) |_=>none:=rfl
 have fl:=cA (NhFam.qR F V)
 rw[g,fV,aE s1,aE s2,aE c3]
 simp only[aN,c5,Option.map_some,Option.bind_some,bS,bF,fl,if_true]
theorem oF{U:List Nat}{W:List (List Nat)}(u:Uni U)(h:Wrt U W):NhFam.Told U (NhFam.qR (ie W) (aD W.flatten)) (NhFam.jK (ie W)):=by
 have s:=oP u h
 exact(NhFam.oF u.srt s.1 s.2 (h.sets u) (zY u h)).congr fun w hw=>(NhFam.mD (h.sets u)).symm
theorem FS{w:List Nat}(h:∀a∈w,az a):(af w).canLay0=true:=by
 have:∀a∈w,a < 1114112:=fun a ha=>by have:=h a ha;unfold az at this;omega
 simp only[af,PyData.canLay0,PyData.strOk]
 simpa using this
theorem BZ:∀{L:List (List Nat)},(∀w∈L,∀a∈w,az a)→PyData.canLayAll0 (L.map af)=true∧PyData.depthAll (L.map af)=0
 |[],_=>by simp[PyData.canLayAll0,PyData.depthAll]
 |w::L,h=>by
  obtain⟨x,y⟩:=BZ (L:=L) fun v hv=>h v (List.mem_cons_of_mem _ hv)
  have h1:=FS (h w (List.mem_cons_self ..))
  have h2:(af w).depth=0:=by simp[af,PyData.depth]
  simp only[List.map_cons,PyData.canLayAll0,PyData.depthAll,h1,h2,x,y,Bool.and_self,true_and]
  rfl
theorem zZ{L:List (List Nat)}(h:∀w∈L,∀a∈w,az a):SeqAt.shaped (.list (L.map af))=true:=by
 obtain⟨x,y⟩:=BZ h
 unfold SeqAt.shaped
 simp only[PyData.canLay0,PyData.depth,x,y,Bool.true_and]
 decide
theorem B3:∀L:List (List Nat),PyData.eqvAll (L.map af) (L.map af)=true
 |[]=>by simp[PyData.eqvAll]
 |w::L=>by
  simp only[List.map_cons,PyData.eqvAll,B3 L,Bool.and_true]
  simp[af,PyData.eqv]
theorem FT{L:List (List Nat)}(h:∀w∈L,∀a∈w,az a):wv (.list (L.map af)) (.list (L.map af))=some true:=by
 have e:wv (.list (L.map af)) (.list (L.map af))=(if SeqAt.shaped (.list (L.map af))&&SeqAt.shaped (.list (L.map af))then some (PyData.eqv (.list (L.map af)) (.list (L.map af)))else none):=rfl
 rw[e,zZ h]
 simp only[PyData.eqv,B3,Bool.and_self,if_true]
theorem rj{E:List Sl}{f:bC}{z:Int}{c:Nat}(hf:f E=some (.sh (.int z),E))(h1:z=(c:Int))(h2:c≤1000):il (ae false f ak) E=some (kl 0 c,E):=by
 have o1:(-1000000:Int)≤z:=by omega
 have o2:z≤1000000:=by omega
 have t:z.toNat=c:=by omega
 simp only[il,ae,ak,hf,Option.bind_some,Option.map_some,Bool.false_and,Bool.false_eq_true,if_false,cb,look,Sl.val,o1,o2,and_self,if_true,decide_true,t]
theorem z_{E:List Sl}{f:bC}{w:List Nat}(hf:f E=some (.ow (w.map cX),E))(hl:w.length < 64)(n:w.Nodup)(a:∀y∈w,az y):pW f E=some (.ow ((aD w).map cX),E):=by
 have l:(w.map gu).length < 64:=by rw[List.length_map];exact hl
 have m:((aD w).map gu).map PyData.str=(aD w).map cX:=by rw[List.map_map];rfl
 simp only[pW,hf,Option.bind_some,look,Sl.val,n_,l,if_true,zX n a,m]
theorem B4{L:List (List Nat)}{E:List Sl}{f g:bC}{s1 s2:Sl}(hf:f E=some (s1,E))(hg:g E=some (s2,E))(l1:look E s1=some (.list (L.map af)))(l2:look E s2=some (.list (L.map af)))(h:∀w∈L,∀a∈w,az a):cV (ag jX false f g) E=some (false,E):=by
 have d:=FT h
 simp only[cV,ag,hf,hg,Option.bind_some,Bool.false_and,Bool.false_eq_true,if_false,jX,fD,l1,l2,d,Option.map_some,Bool.not_true]
def je:Nat→List Nat→List Pc
 | 0,_=>[]
 |k+1,w=>if w.length=1 then w.map fun a=>((a,1):Pc)else
  je k (w.take (w.length - w.length / 2))++je k (w.drop (w.length - w.length / 2))++NH.aR (je k (w.take (w.length - w.length / 2)))++NH.aR (je k (w.drop (w.length - w.length / 2)))
def yo:Nat→Nat→Nat
 | 0,_=>0
 |k+1,n=>if n=1 then 1 else 2*(yo k (n - n / 2)+yo k (n / 2))
theorem fg(w:List Nat):(w.take (w.length - w.length / 2)).length=w.length - w.length / 2:=by rw[List.length_take];omega
theorem fi(w:List Nat):(w.drop (w.length - w.length / 2)).length=w.length / 2:=by rw[List.length_drop];omega
theorem lm:∀(k:Nat) (w:List Nat),(je k w).length=yo k w.length:=by
 intro k
 induction k with
 |zero=>intro w;rfl
 |succ k ih=>
  intro w
  unfold je yo
  by_cases h:w.length=1
  ·rw[if_pos h,if_pos h,List.length_map,h]
  ·rw[if_neg h,if_neg h,List.length_append,List.length_append,List.length_append,NH.cY,NH.cY,ih,ih,fg,fi]
   omega
theorem uD:∀(k n:Nat),1≤n→n≤2 ^ k→yo (k+1) n≤4 ^ k:=by
 intro k
 induction k with
 |zero=>
  intro n h1 h2
  have:n=1:=by omega
  subst this
  decide
 |succ k ih=>
  intro n h1 h2
  unfold yo
  by_cases h:n=1
  ·rw[if_pos h];exact Nat.one_le_pow _ _ (by decide)
  ·rw[if_neg h]
   rw[Nat.pow_succ]at h2
   have a:=ih (n - n / 2) (by omega) (by omega)
   have b:=ih (n / 2) (by omega) (by omega)
   rw[Nat.pow_succ]
   omega
theorem rk{c:List Pc}{p:Pc}(h:p∈NH.aR c):∃q∈c,p.1=q.1:=by
 obtain⟨q,hq,rfl⟩:=List.mem_map.mp h
 exact⟨q,List.mem_reverse.mp hq,rfl⟩
theorem oe(x:Nat)(c:List Pc):(NH.aR c).filter (fun p=> !decide (p.1=x))=NH.aR (c.filter fun p=> !decide (p.1=x)):=by
 unfold NH.aR
 rw[List.filter_map,List.filter_reverse]
 rfl
theorem rn{x:Nat}{c:List Pc}{w:List Nat}(h:∀p∈c,p.1∈w)(hx:x∉w):c.filter (fun p=> !decide (p.1=x))=c:=by
 refine List.filter_eq_self.mpr fun p hp=>?_
 simp only[Bool.not_eq_true',decide_eq_false_iff_not]
 rintro rfl
 exact hx (h p hp)
structure Pl (w:List Nat) (c:List Pc):Prop where
 ne:c≠[]
 red:NH.Red c
 nails:∀p∈c,p.1∈w
 fall:∀x∈w,NH.short (c.filter fun p=> !decide (p.1=x))=[]
theorem B5(a:Nat):Pl [a] [((a,1):Pc)]:=by
 refine⟨by simp,?_,fun p hp=>by simp at hp;simp[hp],fun x hx=>?_⟩
 ·exact NH.Red.cons (show(1:Int)≠0 by decide) (fun q hq=>by simp at hq) trivial
 ·simp only[List.mem_singleton]at hx
  subst hx
  simp[NH.short,NH.stk]
theorem vV{α:Type}(x:List α){y:List α}(h:y≠[]):(x++y).getLast? =y.getLast? :=by
 rw[List.getLast?_append]
 cases e:y.getLast? with
 |none=>exact absurd (List.getLast?_eq_none_iff.mp e) h
 |some z=>rfl
theorem FU{A B:List Nat}{a b:List Pc}(ha:Pl A a)(hb:Pl B b)(dj:∀x∈A,x∉B):Pl (A++B) (a++b++NH.aR a++NH.aR b):=by
 have ca:NH.aR a≠[]:=fun z=>ha.ne (List.length_eq_zero_iff.mp (by rw[←NH.cY,z];rfl))
 have na:∀p∈NH.aR a,p.1∈A:=fun p hp=>by
  obtain⟨q,hq,e⟩:=rk hp
  rw[e];exact ha.nails q hq
 have nb:∀p∈NH.aR b,p.1∈B:=fun p hp=>by
  obtain⟨q,hq,e⟩:=rk hp
  rw[e];exact hb.nails q hq
 refine⟨?_,?_,fun p hp=>?_,fun x hx=>?_⟩
 ·intro z
  simp only[List.append_eq_nil_iff]at z
  exact ha.ne z.1.1.1
 ·refine NH.p9 (NH.p9 (NH.p9 ha.red hb.red fun x y h1 h2 e=>?_) (NH.sO ha.red) fun x y h1 h2 e=>?_) (NH.sO hb.red) fun x y h1 h2 e=>?_
  ·exact dj x.1 (ha.nails x (List.mem_of_getLast? h1)) (e▸hb.nails y (List.mem_of_head? h2))
  ·rw[vV _ hb.ne]at h1
   exact dj y.1 (na y (List.mem_of_head? h2)) (e▸hb.nails x (List.mem_of_getLast? h1))
  ·rw[vV _ ca]at h1
   exact dj x.1 (na x (List.mem_of_getLast? h1)) (e▸nb y (List.mem_of_head? h2))
 ·simp only[List.mem_append]at hp
  rcases hp with((hp |hp) |hp) |hp
  ·exact List.mem_append_left _ (ha.nails p hp)
  ·exact List.mem_append_right _ (hb.nails p hp)
  ·exact List.mem_append_left _ (na p hp)
  ·exact List.mem_append_right _ (nb p hp)
 ·rw[List.filter_append,List.filter_append,List.filter_append,oe,oe]
  rcases List.mem_append.mp hx with hx |hx
  ·have e:=ha.fall x hx
   rw[rn hb.nails (dj x hx)]
   have e0:NH.short (a.filter fun p=> !decide (p.1=x))=NH.short ([]:List Pc):=e
   have k:=NH.jj (NH.jj (NH.jj e0 (rfl:NH.short b=NH.short b)) (NH.td e0)) (rfl:NH.short (NH.aR b)=NH.short (NH.aR b))
   rw[k]
   have z:NH.aR ([]:List Pc)=[]:=rfl
   rw[z,List.nil_append,List.append_nil]
   exact NH.qj b
  ·have e:=hb.fall x hx
   rw[rn ha.nails (fun z=>dj x z hx)]
   have e0:NH.short (b.filter fun p=> !decide (p.1=x))=NH.short ([]:List Pc):=e
   have k:=NH.jj (NH.jj (NH.jj (rfl:NH.short a=NH.short a) e0) (rfl:NH.short (NH.aR a)=NH.short (NH.aR a))) (NH.td e0)
   rw[k]
   have z:NH.aR ([]:List Pc)=[]:=rfl
   rw[z,List.append_nil,List.append_nil]
   exact NH.qj a
theorem FV:∀(k:Nat) (w:List Nat),w.Nodup→1≤w.length→w.length≤2 ^ k→Pl w (je (k+1) w):=by
 intro k
 induction k with
 |zero=>
  intro w _ h1 h2
  obtain⟨a,rfl⟩:=List.length_eq_one_iff.mp (show w.length=1 by omega)
  exact B5 a
 |succ k ih=>
  intro w nd h1 h2
  by_cases h:w.length=1
  ·obtain⟨a,rfl⟩:=List.length_eq_one_iff.mp h
   exact B5 a
  ·unfold je
   rw[if_neg h]
   rw[Nat.pow_succ]at h2
   have e:w.take (w.length - w.length / 2)++w.drop (w.length - w.length / 2)=w:=List.take_append_drop _ _
   have nd':=nd
   rw[←e]at nd'
   obtain⟨n1,n2,n3⟩:=List.nodup_append.mp nd'
   have p:=FU (ih _ n1 (by rw[fg];omega) (by rw[fg];omega)) (ih _ n2 (by rw[fi];omega) (by rw[fi];omega)) fun x h1 h2=>n3 x h1 x h2 rfl
   rw[e]at p
   exact p
theorem pf:∀(d:List Pc) (x0 x1:Sl),cf iH bK gB (d.map aC) [x0,x1]=some ((d.map fun p=>((p.1,-p.2):Pc)).map aC)
 |[],x0,x1=>rfl
 |p::d,x0,x1=>by
  have e:(iH (aC p) [x0,x1])=some [.sh (.str ⟨#[p.1]⟩),.sh (.int p.2)]:=rfl
  have e2:gB [.sh (.str ⟨#[p.1]⟩),.sh (.int p.2)]=some (.sh (aC (p.1,-p.2)),[.sh (.str ⟨#[p.1]⟩),.sh (.int p.2)]):=by
   simp only[gB,gX,aV,aa,List.getElem?_cons_zero,frz,ki,look,Sl.val,lE,aZ,Option.map_some,Option.bind_some,List.getElem?_cons_succ,List.length_cons,List.length_nil,Nat.zero_add,Nat.reduceAdd,Nat.reduceLeDiff,if_true,aC]
  rw[List.map_cons,cf,e,Option.bind_some]
  simp only[bK,frz,Option.bind_some,e2,pf d,Option.map_some,if_true,List.map_cons]
theorem ph(c:List Pc)(h:c.length≤1000000):fU [.list (c.map aC)]=some (.ow ((NH.aR c).map aC)):=by
 have hl:(NH.aR c).length=c.length:=NH.cY c
 have e:(c.reverse.map fun p=>((p.1,-p.2):Pc))=NH.aR c:=rfl
 have k:=pf c.reverse .no .no
 rw[e,List.map_reverse]at k
 simp only[fU,dN,List.length_cons,List.length_nil,Nat.zero_add,gA,kZ,aN,ba,o4,aa,bd,List.map_cons,List.map_nil,Nat.sub_self,List.replicate,List.cons_append,List.nil_append,List.getElem?_cons_zero,frz,Option.bind_some,ja,o5,k,fF,List.length_map,hl,h,decide_true,Bool.and_true,if_true,bS,bF]
theorem rq(x:Str)(l u:Option Int):Txt.slice x l u=PySem.StrLaws.sliceText x l u:=rfl
theorem rz(w:List Nat)(i:Nat)(h:i≤w.length):Txt.slice (⟨w.toArray⟩:Str) (some (i:Int)) none=⟨(w.drop i).toArray⟩:=by
 have e:(⟨w.toArray⟩:Str).cps.toList=w:=by simp
 rw[rq,PySem.StrLaws.sliceText_from ⟨by omega,by rw[e];omega⟩,e]
 rw[show((w.length:Int) - (i:Int)).toNat=w.length - i by omega,Int.toNat_natCast,List.take_of_length_le (by simp)]
theorem B6{u v:List Nat}:((⟨u.toArray⟩:Str)=⟨v.toArray⟩)↔u=v:=by
 constructor
 ·intro h
  have:=congrArg (fun x:Str=>x.cps.toList) h
  simpa using this
 ·intro h;rw[h]
theorem rA(w:List Nat)(i:Nat)(h:i≤w.length):Txt.slice (⟨w.toArray⟩:Str) none (some (i:Int))=⟨(w.take i).toArray⟩:=by
 have e:(⟨w.toArray⟩:Str).cps.toList=w:=by simp
 have ln:(⟨w.toArray⟩:Str).length=w.length:=by show w.toArray.size=_;simp
 rw[rq,PySem.StrLaws.sliceText_to ⟨by omega,by rw[e];omega⟩,e,Int.sub_zero,Int.toNat_natCast,List.drop_zero]
theorem mX(n:Nat):bA [.int (n:Int)]=some (.sh (.int ((n - n / 2:Nat):Int))):=by
 have d:oX 2=true:=by decide
 have e:((n:Int)+1) / 2=((n - n / 2:Nat):Int):=by omega
 simp only[bA,dN,List.length_cons,List.length_nil,Nat.zero_add,gA,jt,aN,ag,aa,bd,List.map_cons,List.map_nil,Nat.sub_self,List.replicate,List.cons_append,List.nil_append,List.getElem?_cons_zero,Sl.isBr,Bool.false_and,Bool.false_eq_true,pC,aT,look,Sl.val,gJ,dO,Option.bind_some,Bool.not_false,Bool.true_or,Bool.and_true,if_false,cJ,fD,pS,d,e,if_true,Option.map_some,bS,bF,dL]
theorem B7(a b:List Pc)(h:a.length+b.length≤100000):bN [.list (a.map aC),.list (b.map aC)]=some (.ow ((a++b++NH.aR a++NH.aR b).map aC)):=by
 have ea:=ph a (by omega)
 have eb:=ph b (by omega)
 have l1:a.length+b.length≤1000000:=by omega
 have l2:a.length+b.length+a.length≤1000000:=by omega
 have l3:a.length+b.length+a.length+b.length≤1000000:=by omega
 have la:(NH.aR a).length=a.length:=NH.cY a
 have lb:(NH.aR b).length=b.length:=NH.cY b
 simp only[bN,dN,List.length_cons,List.length_nil,Nat.zero_add,Nat.reduceAdd,gA,gg,aN,ag,aa,bd,List.map_cons,List.map_nil,Nat.sub_self,List.replicate,List.cons_append,List.nil_append,List.getElem?_cons_zero,Sl.isBr,Bool.false_and,Bool.false_eq_true,aT,look,Sl.val,gJ,dO,if_false,Option.bind_some,List.getElem?_cons_succ,Bool.not_false,Bool.true_or,Bool.and_true,List.length_map,l1,decide_true,if_true,aj,ae,ak,Option.map_some,cb,ea,List.length_append,la,l2,eb,lb,l3,bS,bF,kO,fF,List.map_append]
theorem rB(self:List PyData→Option Sl)(a:Nat):dN 1 2 (cG self) [.str ⟨#[a]⟩]=some (.ow [aC (a,1)]):=by
 have l:(⟨#[a]⟩:Str).length=1:=rfl
 simp only[dN,List.length_cons,List.length_nil,Nat.zero_add,gA,cG,aA,bg,cV,ag,bY,ae,aa,bd,List.map_cons,List.map_nil,Nat.reduceSub,List.replicate,List.cons_append,List.nil_append,List.getElem?_cons_zero,Sl.isBr,Bool.false_and,Bool.false_eq_true,ak,Option.map_some,if_false,Option.bind_some,eK,cb,look,Sl.val,l,Nat.reduceLeDiff,Int.cast_ofNat_Int,if_true,pC,hZ,fD,bX,decide_true,aN,bD,aV,gX,frz,aZ,aL,Nat.reduceAdd,aB,aj,PL.settle,frzAll,jU,jY,eI,gJ,dO,bS,bF,bE,dL,Bool.and_true,aC]
theorem w6(self:List PyData→Option Sl)(w:List Nat)(h N:Int)(u v:Str)(A B C:List PyData)(hl:w.length≤1000000)(hN:(w.length:Int)=N)(n1:N≠1)(e0:bA [.int N]=some (.sh (.int h)))(eu:Txt.slice (⟨w.toArray⟩:Str) none (some h)=u)(ev:Txt.slice (⟨w.toArray⟩:Str) (some h) none=v)(ea:self [.str u]=some (.ow A))(eb:self [.str v]=some (.ow B))(ec:bN [.list A,.list B]=some (.ow C))(fc:bE C=true):
  dN 1 2 (cG self) [.str ⟨w.toArray⟩]=some (.ow C):=by
 simp only[dN,List.length_cons,List.length_nil,Nat.zero_add,gA,cG,aA,bg,cV,ag,bY,ae,aa,bd,List.map_cons,List.map_nil,Nat.reduceSub,List.replicate,List.cons_append,List.nil_append,List.getElem?_cons_zero,Sl.isBr,Bool.false_and,Bool.false_eq_true,ak,Option.map_some,if_false,Option.bind_some,eK,cb,look,Sl.val,yh,hl,hN,if_true,pC,hZ,fD,bX,n1,decide_false,aN,bD,aV,gX,frz,aZ,aL,Nat.reduceAdd,Nat.reduceLeDiff,aB,aj,PL.settle,frzAll,jU,jY,eI,gJ,dO,e0,Nat.reduceLT,List.set_cons_succ,List.set_cons_zero,List.getElem?_cons_succ,eu,ea,ev,eb,ec,bS,bF,fc]
theorem Aa:∀(k:Nat) (w:List Nat),k≤8→1≤w.length→w.length≤2 ^ k→dg (k+1) [.str ⟨w.toArray⟩]=some (.ow ((je (k+1) w).map aC)):=by
 intro k
 induction k with
 |zero=>
  intro w _ h1 h2
  obtain⟨a,rfl⟩:=List.length_eq_one_iff.mp (show w.length=1 by omega)
  exact rB _ a
 |succ k ih=>
  intro w hk h1 h2
  by_cases h:w.length=1
  ·obtain⟨a,rfl⟩:=List.length_eq_one_iff.mp h
   exact rB _ a
  ·have p8:2 ^ (k+1)≤2 ^ 8:=Nat.pow_le_pow_right (by decide) hk
   have h3:=h2
   rw[Nat.pow_succ]at h3
   have la:=lm (k+1) (w.take (w.length - w.length / 2))
   have lb:=lm (k+1) (w.drop (w.length - w.length / 2))
   have sa:=uD k (w.take (w.length - w.length / 2)).length (by rw[fg];omega) (by rw[fg];omega)
   have sb:=uD k (w.drop (w.length - w.length / 2)).length (by rw[fi];omega) (by rw[fi];omega)
   have p4:4 ^ k≤4 ^ 7:=Nat.pow_le_pow_right (by decide) (by omega)
   have ec:=B7 (je (k+1) (w.take (w.length - w.length / 2))) (je (k+1) (w.drop (w.length - w.length / 2))) (by omega)
   have e:je (k+1+1) w=je (k+1) (w.take (w.length - w.length / 2))++je (k+1) (w.drop (w.length - w.length / 2))++NH.aR (je (k+1) (w.take (w.length - w.length / 2)))++NH.aR (je (k+1) (w.drop (w.length - w.length / 2))):=by
    rw[je,if_neg h]
   rw[e]
   exact w6 _ w ((w.length - w.length / 2:Nat):Int) w.length _ _ _ _ _ (by omega) rfl (by omega) (mX w.length) (rA w _ (by omega)) (rz w _ (by omega)) (ih _ (by omega) (by rw[fg];omega) (by rw[fg];omega)) (ih _ (by omega) (by rw[fi];omega) (by rw[fi];omega)) ec (fF _)
theorem lC:∀(d:List Pc) (x0 x1:Sl),cf fR bK ee (d.map aC) [x0,x1]=some ((d.map fun p=>((p.1,-p.2):Pc)).map aC)
 |[],x0,x1=>rfl
 |p::d,x0,x1=>by
  have e:(fR (aC p) [x0,x1])=some [.sh (.str ⟨#[p.1]⟩),.sh (.int p.2)]:=rfl
  have e2:ee [.sh (.str ⟨#[p.1]⟩),.sh (.int p.2)]=some (.sh (aC (p.1,-p.2)),[.sh (.str ⟨#[p.1]⟩),.sh (.int p.2)]):=by
   simp only[ee,gX,aV,aa,List.getElem?_cons_zero,frz,ag,pC,Sl.isBr,Bool.false_and,Bool.false_eq_true,tV,fD,look,Sl.val,pS,if_true,if_false,Option.bind_some,aZ,Option.map_some,List.getElem?_cons_succ,Int.zero_sub,List.length_cons,List.length_nil,Nat.zero_add,Nat.reduceAdd,Nat.reduceLeDiff,aC]
  rw[List.map_cons,cf,e,Option.bind_some]
  simp only[bK,frz,Option.bind_some,e2,lC d,Option.map_some,if_true,List.map_cons]
theorem lD(c:List Pc)(h:c.length≤1000000):bB [.list (c.map aC)]=some (.ow ((NH.aR c).map aC)):=by
 have hl:(NH.aR c).length=c.length:=NH.cY c
 have e:(c.reverse.map fun p=>((p.1,-p.2):Pc))=NH.aR c:=rfl
 have k:=lC c.reverse .no .no
 rw[e,List.map_reverse]at k
 simp only[bB,dN,List.length_cons,List.length_nil,Nat.zero_add,gA,g_,aN,ba,o4,aa,bd,List.map_cons,List.map_nil,Nat.sub_self,List.replicate,List.cons_append,List.nil_append,List.getElem?_cons_zero,frz,Option.bind_some,ja,o5,k,fF,List.length_map,hl,h,decide_true,Bool.and_true,if_true,bS,bF]
theorem pi(x0:Sl):∀(c:List Pc) (st:List Pc) (a b:Sl),st.length+c.length≤100000→NailsOk st→NailsOk c→∃a' b',bb eG ce (c.map aC) [x0,.ow (st.reverse.map aC),a,b]=some ([x0,.ow ((c.foldl NH.stp st).reverse.map aC),a',b'],.nx)
 |[],st,a,b,_,_,_=>⟨a,b,rfl⟩
 |p::c,st,a,b,h,hs,hc=>by
  have step:∃a' b',(eG (aC p) [x0,.ow (st.reverse.map aC),a,b]).bind ce=some ([x0,.ow ((NH.stp st p).reverse.map aC),a',b'],.nx):=by
   have e0:=nP hs.reverse
   cases st with
   |nil=>
    simp only[List.reverse_nil,List.map_nil]at e0
    by_cases z:p.2=0
    ·simp only[eG,jF,aC,z,List.length_cons,List.length_nil,Nat.zero_add,Nat.reduceAdd,fu,aI,List.reverse_nil,List.map_nil,Nat.reduceLT,List.set_cons_succ,List.set_cons_zero,if_true,Option.bind_some,jE,List.isEmpty_nil,ce,jX,hZ,aA,bg,jC,cV,ag,aa,List.getElem?_cons_succ,List.getElem?_cons_zero,Sl.isBr,Bool.false_and,Bool.false_eq_true,bD,aZ,Nat.reduceLeDiff,fD,look,Sl.val,if_false,e0,decide_true,Option.map_some,Bool.not_true,ki,pC,lE,jf,gJ,dO,Option.any_some,aB,Bool.true_and,mL,aT,PL.settle,frz,frzAll,aL,Nat.reduceSub,Bool.not_false,Bool.true_or,Bool.and_true,bU,aU,gX,aV,bX,List.nil_append,NH.stp]
     exact⟨_,_,rfl⟩
    ·simp only[eG,jF,aC,List.length_cons,List.length_nil,Nat.zero_add,Nat.reduceAdd,fu,aI,List.reverse_nil,List.map_nil,Nat.reduceLT,List.set_cons_succ,List.set_cons_zero,if_true,Option.bind_some,jE,List.isEmpty_nil,ce,jX,hZ,aA,bg,jC,cV,ag,aa,List.getElem?_cons_succ,List.getElem?_cons_zero,Sl.isBr,Bool.false_and,Bool.false_eq_true,bD,aZ,Nat.reduceLeDiff,fD,look,Sl.val,if_false,e0,decide_true,Option.map_some,Bool.not_true,ki,pC,lE,jf,gJ,dO,Option.any_some,aB,Bool.true_and,mL,aT,PL.settle,frz,frzAll,aL,Nat.reduceSub,Bool.not_false,Bool.true_or,Bool.and_true,bU,aU,gX,aV,bX,z,decide_false,List.nil_append,NH.stp]
     exact⟨_,_,rfl⟩
   |cons q st=>
    have lb:st.length < 1000000∧st.length+1 < 1000000:=by simp at h;omega
    simp only[List.reverse_cons,List.map_append,List.map_cons,List.map_nil]at e0
    have et:∀ds,eG (aC p) [x0,.ow ds,a,b]=some [x0,.ow ds,.sh (.str ⟨#[p.1]⟩),.sh (.int p.2)]:=fun _=>rfl
    rw[et,Option.bind_some]
    by_cases e:q.1=p.1
    ·by_cases z:q.2+p.2=0
     ·simp only[ce,aA,bg,jC,cV,ag,aa,List.reverse_cons,List.map_append,List.map_cons,List.map_nil,List.getElem?_cons_succ,List.getElem?_cons_zero,Sl.isBr,Bool.false_and,Bool.false_eq_true,bD,aZ,Option.bind_some,List.length_nil,Nat.reduceLeDiff,if_true,jX,fD,look,Sl.val,if_false,e0,List.append_eq_nil_iff,reduceCtorEq,and_false,decide_false,Option.map_some,Bool.not_false,ki,pC,lE,jf,gJ,dO,hZ,Option.any_some,jZ,aB,Bool.true_and,mL,aT,PL.settle,frz,frzAll,aL,bU,aU,gX,aV,NH.stp]
      simp only[aC,e,lz,Option.map_some,Option.bind_some,List.getElem?_cons_succ,List.getElem?_cons_zero,jh,decide_true,Bool.false_eq_true,List.dropLast_concat,List.set_cons_succ,List.set_cons_zero,mv,Bool.false_and,if_false,qz,Bool.not_false,Bool.true_or,Bool.and_true,Int.add_comm p.2 q.2,z,List.length_cons,List.length_nil,Nat.zero_add,Nat.reduceAdd,Nat.reduceLT,if_true,bX,Bool.not_true,Nat.reduceLeDiff]
      simp[aC]
     ·simp only[ce,aA,bg,jC,cV,ag,aa,List.reverse_cons,List.map_append,List.map_cons,List.map_nil,List.getElem?_cons_succ,List.getElem?_cons_zero,Sl.isBr,Bool.false_and,Bool.false_eq_true,bD,aZ,Option.bind_some,List.length_nil,Nat.reduceLeDiff,if_true,jX,fD,look,Sl.val,if_false,e0,List.append_eq_nil_iff,reduceCtorEq,and_false,decide_false,Option.map_some,Bool.not_false,ki,pC,lE,jf,gJ,dO,hZ,Option.any_some,jZ,aB,Bool.true_and,mL,aT,PL.settle,frz,frzAll,aL,bU,aU,gX,aV,NH.stp]
      simp only[aC,e,lz,Option.map_some,Option.bind_some,List.getElem?_cons_succ,List.getElem?_cons_zero,jh,decide_true,Bool.false_eq_true,List.dropLast_concat,List.set_cons_succ,List.set_cons_zero,mv,Bool.false_and,if_false,qz,Bool.not_false,Bool.true_or,Bool.and_true,Int.add_comm p.2 q.2,List.length_cons,List.length_nil,Nat.zero_add,Nat.reduceAdd,Nat.reduceLT,if_true,bX,z,decide_false,Nat.reduceLeDiff,List.length_map,List.length_reverse,lb]
      simp[aC]
    ·by_cases z:p.2=0
     ·simp only[ce,aA,bg,jC,cV,ag,aa,List.reverse_cons,List.map_append,List.map_cons,List.map_nil,List.getElem?_cons_succ,List.getElem?_cons_zero,Sl.isBr,Bool.false_and,Bool.false_eq_true,bD,aZ,Option.bind_some,List.length_nil,Nat.reduceLeDiff,if_true,jX,fD,look,Sl.val,if_false,e0,List.append_eq_nil_iff,reduceCtorEq,and_false,decide_false,Option.map_some,Bool.not_false,ki,pC,lE,jf,gJ,dO,hZ,Option.any_some,jZ,aB,Bool.true_and,mL,aT,PL.settle,frz,frzAll,aL,bU,aU,gX,aV,NH.stp]
      simp only[aC,z,lz,Option.map_some,Option.bind_some,List.getElem?_cons_succ,List.getElem?_cons_zero,jh,pY,e,decide_false,Bool.false_eq_true,List.dropLast_concat,List.set_cons_succ,List.set_cons_zero,mv,Bool.false_and,if_false,qz,Bool.not_false,Bool.true_or,Bool.and_true,List.length_cons,List.length_nil,Nat.zero_add,Nat.reduceAdd,Nat.reduceLT,if_true,bX,decide_true,Bool.not_true,Nat.reduceLeDiff]
      simp[aC]
     ·simp only[ce,aA,bg,jC,cV,ag,aa,List.reverse_cons,List.map_append,List.map_cons,List.map_nil,List.getElem?_cons_succ,List.getElem?_cons_zero,Sl.isBr,Bool.false_and,Bool.false_eq_true,bD,aZ,Option.bind_some,List.length_nil,Nat.reduceLeDiff,if_true,jX,fD,look,Sl.val,if_false,e0,List.append_eq_nil_iff,reduceCtorEq,and_false,decide_false,Option.map_some,Bool.not_false,ki,pC,lE,jf,gJ,dO,hZ,Option.any_some,jZ,aB,Bool.true_and,mL,aT,PL.settle,frz,frzAll,aL,bU,aU,gX,aV,NH.stp]
      simp only[aC,lz,Option.map_some,Option.bind_some,List.getElem?_cons_succ,List.getElem?_cons_zero,jh,pY,e,decide_false,Bool.false_eq_true,List.dropLast_concat,List.set_cons_succ,List.set_cons_zero,List.length_append,List.length_map,List.length_reverse,List.length_cons,List.length_nil,Nat.zero_add,Bool.not_false,Bool.true_or,Bool.and_true,if_false,bX,z,Nat.reduceAdd,Nat.reduceLeDiff,if_true,lb]
      simp[aC]
  obtain⟨a',b',e⟩:=step
  have ih:=pi x0 c (NH.stp st p) a' b' (by have:=NH.tP st p;simp at h;omega) (hs.stp (hc p (List.mem_cons_self ..))) fun q hq=>hc q (List.mem_cons_of_mem _ hq)
  obtain⟨a2,b2,e2⟩:=ih
  refine⟨a2,b2,?_⟩
  rw[List.map_cons,bb,e]
  exact e2
theorem pj:∀(c:List Pc) (x:Sl),cf iM bK iN (c.map aC) [x]=some (c.map aC)
 |[],x=>rfl
 |p::c,x=>by
  have e:iM (aC p) [x]=some [.sh (aC p)]:=rfl
  have e2:iN [.sh (aC p)]=some (.sh (aC p),[.sh (aC p)]):=rfl
  rw[List.map_cons,cf,e,Option.bind_some]
  simp only[bK,frz,Option.bind_some,e2,pj c,Option.map_some,if_true]
theorem vW(c:List Pc)(h:c.length≤100000)(hN:NailsOk c):fq [.list (c.map aC)]=some (.ow ((NH.qg c).map aC)):=by
 obtain⟨a,b,e⟩:=pi (.sh (.list (c.map aC))) c.reverse [] .no .no (by simpa using h) sM hN.reverse
 simp only[List.reverse_nil,List.map_nil,List.map_reverse]at e
 rw[sN]at e
 have hl:=NH.sr c.reverse ([]:List Pc)
 rw[sN]at hl
 have lb:(NH.qg c).length≤1000000:=by simp at hl;omega
 have k:=pj (NH.qg c) .no
 simp only[fq,dN,List.length_cons,List.length_nil,Nat.zero_add,gA,lg,aA,aB,bD,aZ,bd,List.map_cons,List.map_nil,Nat.reduceSub,List.replicate,List.cons_append,List.nil_append,Option.bind_some,Nat.reduceLeDiff,if_true,PL.settle,frz,frzAll,Nat.reduceAdd,Nat.reduceLT,List.set_cons_succ,List.set_cons_zero,cw,o4,aa,aN,ba,ja,o5,List.getElem?_cons_zero,e,List.getElem?_cons_succ,List.reverse_reverse,k,fF,List.length_map,lb,decide_true,Bool.and_true,bS,bF]
theorem mh(x0:Sl):∀(c:List Pc) (a:Sl),∃a',bb eR eS (c.map aC) [x0,a]=some ([x0,a'],.nx)
 |[],a=>⟨a,rfl⟩
 |p::c,a=>by
  have e:(eR (aC p) [x0,a]).bind eS=some ([x0,.sh (aC p)],.nx):=by
   simp only[eR,aI,List.length_cons,List.length_nil,Nat.zero_add,Nat.reduceAdd,Nat.reduceLT,aC,List.set_cons_succ,List.set_cons_zero,if_true,eS,jX,Option.bind_some,aA,bg,lS,d0,dw,ki,aa,List.getElem?_cons_succ,List.getElem?_cons_zero,look,Sl.val,lG,Ty.is,Cz,Option.map_some,i_,Bool.not_true,cV,ag,bY,ae,Sl.isBr,Bool.false_and,Bool.false_eq_true,ak,if_false,eK,pC,fD,jf,gJ,dO,cb,Int.cast_ofNat_Int,bX,decide_true,lz,aN,aL,qz]
  obtain⟨a',ih⟩:=mh x0 c (.sh (aC p))
  refine⟨a',?_⟩
  rw[List.map_cons,bb,e]
  exact ih
theorem rC(c:List Pc):bR [.list (c.map aC)]=some (.sh (.bool true)):=by
 obtain⟨a,e⟩:=mh (.sh (.list (c.map aC))) c .no
 simp only[bR,dN,List.length_cons,List.length_nil,Nat.zero_add,gA,iO,aA,bg,d0,dw,ki,aa,bd,List.map_cons,List.map_nil,Nat.reduceSub,List.replicate,List.cons_append,List.nil_append,List.getElem?_cons_zero,look,Sl.val,lG,Ty.is,Cz,Option.map_some,Option.bind_some,i_,Bool.not_true,aN,pC,aL,Bool.false_eq_true,if_false,cw,aQ,frz,e,bS,bF,dL,if_true]
theorem vX(self:List PyData→Option Sl)(a:Nat):dN 1 4 (ga self) [.str ⟨#[a]⟩]=some (.ow [aC (a,1)]):=by
 have l:(⟨#[a]⟩:Str).length=1:=rfl
 simp only[dN,List.length_cons,List.length_nil,Nat.zero_add,gA,ga,aA,bg,cV,ag,bY,ae,aa,bd,List.map_cons,List.map_nil,Nat.reduceSub,List.replicate,List.cons_append,List.nil_append,List.getElem?_cons_zero,Sl.isBr,Bool.false_and,Bool.false_eq_true,ak,Option.map_some,if_false,Option.bind_some,eK,cb,look,Sl.val,l,Nat.reduceLeDiff,Int.cast_ofNat_Int,if_true,pC,hZ,fD,bX,decide_true,aN,bD,aV,gX,frz,aZ,aL,Nat.reduceAdd,aB,cJ,pS,tV,PL.settle,frzAll,aj,jU,jY,eI,gJ,dO,aT,bS,bF,bE,dL,Bool.and_true,aC]
theorem B8(self:List PyData→Option Sl)(w:List Nat)(h N:Int)(u v:Str)(a b:List Pc)(hl:w.length≤1000000)(hN:(w.length:Int)=N)(n1:N≠1)(d:oX 2=true)(e0:N - N / 2=h)(eu:Txt.slice (⟨w.toArray⟩:Str) none (some h)=u)(ev:Txt.slice (⟨w.toArray⟩:Str) (some h) none=v)(ea:self [.str u]=some (.ow (a.map aC)))(eb:self [.str v]=some (.ow (b.map aC)))
  (ka:bB [.list (a.map aC)]=some (.ow ((NH.aR a).map aC))) (kb:bB [.list (b.map aC)]=some (.ow ((NH.aR b).map aC))) (la:(NH.aR a).length=a.length) (lb:(NH.aR b).length=b.length) (l1:a.length+b.length≤1000000) (l2:a.length+b.length+a.length≤1000000) (l3:a.length+b.length+a.length+b.length≤1000000):
  dN 1 4 (ga self) [.str ⟨w.toArray⟩]=some (.ow ((a++b++NH.aR a++NH.aR b).map aC)):=by
 simp only[dN,List.length_cons,List.length_nil,Nat.zero_add,gA,ga,aA,bg,cV,ag,bY,ae,aa,bd,List.map_cons,List.map_nil,Nat.reduceSub,List.replicate,List.cons_append,List.nil_append,List.getElem?_cons_zero,Sl.isBr,Bool.false_and,Bool.false_eq_true,ak,Option.map_some,if_false,Option.bind_some,eK,cb,look,Sl.val,yh,hl,hN,if_true,pC,hZ,fD,bX,n1,decide_false,aN,bD,aV,gX,frz,aZ,aL,Nat.reduceAdd,Nat.reduceLeDiff,aB,cJ,pS,tV,PL.settle,frzAll,aj,jU,jY,eI,gJ,dO,aT,d,e0,Nat.reduceLT,List.set_cons_succ,List.set_cons_zero,List.getElem?_cons_succ,eu,ea,ev,eb,Option.any_some,Bool.not_false,Bool.true_or,Bool.and_true,List.length_map,l1,decide_true,ka,List.length_append,la,l2,kb,lb,l3,bS,bF,kO,fF,List.map_append]
theorem DK:∀(k:Nat) (w:List Nat),k≤8→1≤w.length→w.length≤2 ^ k→gj (k+1) [.str ⟨w.toArray⟩]=some (.ow ((je (k+1) w).map aC)):=by
 intro k
 induction k with
 |zero=>
  intro w _ h1 h2
  obtain⟨a,rfl⟩:=List.length_eq_one_iff.mp (show w.length=1 by omega)
  exact vX _ a
 |succ k ih=>
  intro w hk h1 h2
  by_cases h:w.length=1
  ·obtain⟨a,rfl⟩:=List.length_eq_one_iff.mp h
   exact vX _ a
  ·have p8:2 ^ (k+1)≤2 ^ 8:=Nat.pow_le_pow_right (by decide) hk
   have h3:=h2
   rw[Nat.pow_succ]at h3
   have la:=lm (k+1) (w.take (w.length - w.length / 2))
   have lb:=lm (k+1) (w.drop (w.length - w.length / 2))
   have sa:=uD k (w.take (w.length - w.length / 2)).length (by rw[fg];omega) (by rw[fg];omega)
   have sb:=uD k (w.drop (w.length - w.length / 2)).length (by rw[fi];omega) (by rw[fi];omega)
   have p4:4 ^ k≤4 ^ 7:=Nat.pow_le_pow_right (by decide) (by omega)
   have e:je (k+1+1) w=je (k+1) (w.take (w.length - w.length / 2))++je (k+1) (w.drop (w.length - w.length / 2))++NH.aR (je (k+1) (w.take (w.length - w.length / 2)))++NH.aR (je (k+1) (w.drop (w.length - w.length / 2))):=by
    rw[je,if_neg h]
   rw[e]
   exact B8 _ w ((w.length - w.length / 2:Nat):Int) w.length _ _ _ _ (by omega) rfl (by omega) (by decide) (by omega) (rA w _ (by omega)) (rz w _ (by omega)) (ih _ (by omega) (by rw[fg];omega) (by rw[fg];omega)) (ih _ (by omega) (by rw[fi];omega) (by rw[fi];omega)) (lD _ (by omega)) (lD _ (by omega)) (NH.cY _) (NH.cY _) (by omega) (by omega) (by omega)
theorem Hl(self:List PyData→Option Sl)(n h h' A B:Int)(n1:n≠1)(e0:bA [.int n]=some (.sh (.int h)))(hh:n - h=h')(ea:self [.int h]=some (.sh (.int A)))(eb:self [.int h']=some (.sh (.int B)))(ok:gW 2 (A+B)=true):dN 1 2 (cH self) [.int n]=some (.sh (.int (2*(A+B)))):=by
 simp only[dN,List.length_cons,List.length_nil,Nat.zero_add,gA,cH,aA,bg,cV,ag,aa,bd,List.map_cons,List.map_nil,Nat.reduceSub,List.replicate,List.cons_append,List.nil_append,List.getElem?_cons_zero,Sl.isBr,Bool.false_and,Bool.false_eq_true,pC,hZ,fD,look,Sl.val,Option.bind_some,if_false,bX,n1,decide_false,Option.map_some,aN,aL,aB,aj,ae,ak,PL.settle,frz,frzAll,tV,pS,if_true,aT,gJ,dO,hW,Bool.not_false,Bool.true_or,Bool.and_true,cb,e0,Nat.reduceAdd,Nat.reduceLT,List.set_cons_succ,List.set_cons_zero,List.getElem?_cons_succ,ea,hh,eb,ok,bS,bF,dL]
theorem B9(self:List PyData→Option Sl):dN 1 2 (cH self) [.int 1]=some (.sh (.int 1)):=by
 simp only[dN,List.length_cons,List.length_nil,Nat.zero_add,gA,cH,aA,bg,cV,ag,aa,bd,List.map_cons,List.map_nil,Nat.reduceSub,List.replicate,List.cons_append,List.nil_append,List.getElem?_cons_zero,Sl.isBr,Bool.false_and,Bool.false_eq_true,pC,hZ,fD,look,Sl.val,Option.bind_some,if_false,bX,decide_true,Option.map_some,aN,aL,if_true,aB,aj,ae,ak,PL.settle,frz,frzAll,tV,pS,aT,gJ,dO,hW,Bool.not_false,Bool.true_or,Bool.and_true,bS,bF,dL]
theorem Hm:∀(k n:Nat),1≤n→n≤2 ^ k→dh (k+1) [.int (n:Int)]=some (.sh (.int ((yo (k+1) n:Nat):Int))):=by
 intro k
 induction k with
 |zero=>
  intro n h1 h2
  have:n=1:=by omega
  subst this
  exact B9 _
 |succ k ih=>
  intro n h1 h2
  by_cases h:n=1
  ·subst h
   exact B9 _
  ·rw[Nat.pow_succ]at h2
   have e:yo (k+1+1) n=2*(yo (k+1) (n - n / 2)+yo (k+1) (n / 2)):=by rw[yo,if_neg h]
   rw[e,Int.natCast_mul,Int.natCast_add]
   exact Hl _ n ((n - n / 2:Nat):Int) ((n / 2:Nat):Int) _ _ (by omega) (mX n) (by omega) (ih _ (by omega) (by omega)) (ih _ (by omega) (by omega)) (kU (by decide) (by decide))
def HC(F:List (List Nat)):Prop:=∀w∈F,1≤w.length∧w.length≤10
def sz(w:List Nat):Nat:=yo 8 w.length
def DL(w:List Nat):PyData:=.int ((sz w:Nat):Int)
theorem B_(l:List (List Nat)):bE (l.map DL)=true:=by
 induction l with
 |nil=>rfl
 |cons a l ih=>show(dL (DL a)&&bE (l.map DL))=true;rw[ih];rfl
theorem yp:∀l:List (List Nat),sH (l.map DL)=some (l.map fun w=>((sz w:Nat):Int))
 |[]=>rfl
 |a::l=>by
  show(sH (l.map DL)).map (((sz a:Nat):Int):: ·)=_
  rw[yp l]
  rfl
theorem Ca(l:List (List Nat)):(l.map fun w=>((sz w:Nat):Int)).sum=(((l.map sz).sum:Nat):Int):=by
 induction l with
 |nil=>rfl
 |cons a l ih=>simp[ih]
theorem w_{E:List Sl}{w:List Nat}{f:bC}(hf:f E=some (.sh (af w),E))(hl:w.length≤1000000):bY eK (ae false f ak) E=some (.sh (.int (w.length:Int)),E):=by
 unfold af at hf
 simp only[bY,ae,hf,Sl.isBr,Bool.false_and,Bool.false_eq_true,ak,Option.map_some,if_false,Option.bind_some,eK,cb,look,Sl.val,nv,hl,if_true]
theorem tw:∀(F:List (List Nat)) (x:Sl),HC F→cf gO bK fz (F.map af) [x]=some (F.map DL)
 |[],x,_=>rfl
 |w::F,x,h=>by
  have hw:=h w (List.mem_cons_self ..)
  have l:=w_ (E:=[.sh (af w)]) (f:=aa 0) rfl (show w.length≤1000000 by omega)
  have c:fz [.sh (af w)]=some (.sh (DL w),[.sh (af w)]):=aG (ss:=[.sh (.int (w.length:Int))]) (Et l) rfl (Hm 7 w.length hw.1 (by omega))
  exact lh (E1:=[.sh (af w)]) rfl c (tw F _ fun v hv=>h v (List.mem_cons_of_mem _ hv))
theorem FW{it:pB}{tg:gS}{el:bC}{E:List Sl}{ds:List PyData}{F:List (List Nat)}(hi:it E=some (ds,E))(hl:cf tg bK el ds (ja [none] E)=some (F.map DL))(ll:F.length≤1000000):bY zk (ae false (ba [none] it tg bK el) ak) E=some (.sh (.int (((F.map sz).sum:Nat):Int)),E):=by
 have p:ba [none] it tg bK el E=some (.ow (F.map DL),E):=gv hi hl (B_ _) (by rw[List.length_map];exact ll)
 simp only[bY,ae,ak,p,Option.bind_some,Option.map_some,cb,look,Sl.val,zk,yp,Ca,Bool.false_and,Bool.false_eq_true,if_false]
theorem Hn:(Str.ofString "")=⟨([]:List Nat).toArray⟩:=by decide+kernel
theorem Ho(u v:List Nat):wv (.str ⟨u.toArray⟩) (.str ⟨v.toArray⟩)=some (decide (u=v)):=by
 rw[jh]
 congr 1
 exact decide_eq_decide.mpr B6
theorem yq(u:List Nat):wv (.str ⟨u.toArray⟩) (.str "")=some (decide (u=[])):=by
 rw[Hn]
 exact Ho u []
theorem xa{U:List Nat}{L:List (List Nat)}{f:List Nat→Prop}(t:NhFam.Told U L f)(m:NhFam.wN U f):NhFam.aH L=L:=(NhFam.fj t.sub).uniq t fun w hw=>t.up_iff m hw
theorem oR{U:List Nat}{L:List (List Nat)}(u:Uni U)(h:∀w∈L,NhFam.Sub U w):ie L=L:=by
 unfold ie
 induction L with
 |nil=>rfl
 |cons w L ih=>
  rw[List.map_cons,ih fun v hv=>h v (List.mem_cons_of_mem _ hv),BW (h w (List.mem_cons_self ..)).1 (u.azw (h w (List.mem_cons_self ..)))]
structure Rul (U:List Nat) (L:List (List Nat)):Prop where
 u:Uni U
 w:Wrt U L
 sub:∀v∈L,NhFam.Sub U v
 least:NhFam.aH L=L
 ne:∀v∈L,v≠[]
 nil:L≠[]
theorem FX{E:List Sl}{f:bC}{u:List Nat}(hf:f E=some (.sh (af u),E)):cV (ag hZ false f (pC (.str ""))) E=some (decide (u=[]),E):=by
 have q:=yq u
 unfold af at hf
 simp only[cV,ag,hf,Sl.isBr,Bool.false_and,Bool.false_eq_true,pC,hZ,fD,look,Sl.val,Option.bind_some,if_false,q,Option.map_some]
theorem xb{U:List Nat}{L:List (List Nat)}(r:Rul U L):bn [.list (L.map af)]=some (.ow (L.map af)):=by
 have a:=mW r.u r.w
 rw[oR r.u r.sub,r.least]at a
 have c:aj bi (ae false (aa 0) ak) [.sh (.list (L.map af))]=some (.ow (L.map af),[.sh (.list (L.map af))]):=aG (ss:=[.sh (.list (L.map af))]) rfl rfl a
 have g:bn [.list (L.map af)]=(dD [.sh (.list (L.map af))]).bind fun a=>match a.2 with |.rt r=>bS r |.nx=>some (.sh .none) |_=>none:=rfl
 have fl:=cA L
 rw[g,dD]
 simp only[aN,c,Option.map_some,Option.bind_some,bS,bF,fl,if_true]
theorem r_{U:List Nat}{L:List (List Nat)}(r:Rul U L):eD [.list (L.map af)]=some (.sh .none):=by
 obtain⟨w,L',e⟩:∃w L',L=w::L':=by
  cases L with
  |nil=>exact absurd rfl r.nil
  |cons w L'=>exact⟨w,L',rfl⟩
 have hw:w≠[]:=r.ne w (by rw[e];exact List.mem_cons_self ..)
 have ll:=r.w.len
 have n0:¬((L.length:Int)=0):=by rw[e];simp;omega
 have lb:L.length≤1000000:=by omega
 have az':∀w∈L,∀a∈w,az a:=fun w hw=>r.u.azw (r.sub w hw)
 have g:eD [.list (L.map af)]=(g8 [.sh (.list (L.map af))]).bind fun a=>match a.2 with |.rt r=>bS r |.nx=>some (.sh .none) |_=>none:=rfl
 have s1:bg (lS (d0 (dw (ki (lG .list) (aa 0)))) (cV (ag hZ false (bY eK (ae false (aa 0) ak)) (pC (.int 0))))) jI aL [.sh (.list (L.map af))]=some ([.sh (.list (L.map af))],.nx):=by
  simp only[bg,lS,d0,dw,ki,aa,List.getElem?_cons_zero,look,Sl.val,lG,Ty.is,Cz,Option.map_some,Option.bind_some,i_,Bool.not_true,cV,ag,bY,ae,Sl.isBr,Bool.false_and,Bool.false_eq_true,ak,if_false,eK,pC,hZ,fD,cb,List.length_map,bX,n0,decide_false,aL]
 have c:aj bn (ae false (aa 0) ak) [.sh (.list (L.map af))]=some (.ow (L.map af),[.sh (.list (L.map af))]):=aG (ss:=[.sh (.list (L.map af))]) rfl rfl (xb r)
 have s2:bg (cV (ag jX false (aj bn (ae false (aa 0) ak)) (aa 0))) jI aL [.sh (.list (L.map af))]=some ([.sh (.list (L.map af))],.nx):=h9 (B4 (L:=L) c rfl rfl rfl az') rfl
 have s3:bg (cV (ag hZ false (ag jf false (aa 0) (pC (.int 0))) (pC (.str "")))) jI aL [.sh (.list (L.map af))]=some ([.sh (.list (L.map af))],.nx):=by
  have i:ag jf false (aa 0) (pC (.int 0)) [.sh (.list (L.map af))]=some (.sh (af w),[.sh (.list (L.map af))]):=by
   rw[e,List.map_cons]
   unfold af
   simp only[ag,aa,List.getElem?_cons_zero,Sl.isBr,Bool.false_and,Bool.false_eq_true,pC,jf,look,Sl.val,gJ,dO,Option.bind_some,if_false,lz,Option.map_some]
  have k:=FX i
  rw[decide_eq_false hw]at k
  exact h9 k rfl
 rw[g,g8,aE s1,aE s2,s3]
 rfl
theorem Rul.meet{U:List Nat}{L:List (List Nat)}(r:Rul U L):NhFam.Told U (NhFam.qR L (aD L.flatten)) (NhFam.jK L):=by
 have:=oF r.u r.w
 rwa [oR r.u r.sub]at this
def mt(L:List (List Nat)):List (List Nat):=NhFam.qR L (aD L.flatten)
theorem Rul.few{U:List Nat}{L:List (List Nat)}(r:Rul U L):HC (mt L):=fun w hw=>by
 have s:=r.meet.sub w hw
 have f:=((r.meet.mem w).mp hw).2.1
 refine⟨?_,r.u.short s⟩
 cases L with
 |nil=>exact absurd rfl r.nil
 |cons v L'=>
  obtain⟨x,_,hx⟩:=f v (List.mem_cons_self ..)
  exact List.length_pos_of_mem hx
theorem uE{U:List Nat}{L:List (List Nat)}(r:Rul U L):aJ [.list (L.map af)]=some (.ow ((mt L).map af)):=by
 have:=pO r.u r.w
 rwa [oR r.u r.sub]at this
theorem Ab{U:List Nat}{L:List (List Nat)}(r:Rul U L):bI [.list (L.map af)]=some (.sh (.int ((((mt L).map sz).sum:Nat):Int))):=by
 have s1:bU (aj eD (ae false (aa 0) ak)) [.sh (.list (L.map af))]=some ([.sh (.list (L.map af))],.nx):=uB (aG (ss:=[.sh (.list (L.map af))]) rfl rfl (r_ r))
 have c2:aj aJ (ae false (aa 0) ak) [.sh (.list (L.map af))]=some (.ow ((mt L).map af),[.sh (.list (L.map af))]):=aG (ss:=[.sh (.list (L.map af))]) rfl rfl (uE r)
 have i2:aQ (aj aJ (ae false (aa 0) ak)) [.sh (.list (L.map af))]=some ((mt L).map af,[.sh (.list (L.map af))]):=by
  unfold aQ
  rw[c2]
  rfl
 have ll:=vU r.u r.meet
 have s2:=FW i2 (tw (mt L) .no r.few) (by unfold mt;omega)
 have g:bI [.list (L.map af)]=(fG [.sh (.list (L.map af))]).bind fun a=>match a.2 with |.rt r=>bS r |.nx=>some (.sh .none) |_=>none:=rfl
 rw[g,fG,aE s1]
 simp only[aN,s2,Option.map_some,Option.bind_some,bS]
 rfl
theorem Ac(a b:List Pc)(h:a.length+b.length≤1000000):iu [.list (a.map aC),.list (b.map aC)]=some (.ow ((a++b).map aC)):=by
 have fl:=fF (a++b)
 rw[List.map_append]at fl ⊢
 simp only[iu,dN,List.length_cons,List.length_nil,Nat.zero_add,Nat.reduceAdd,gA,nU,aN,ag,aa,bd,List.map_cons,List.map_nil,Nat.sub_self,List.replicate,List.cons_append,List.nil_append,List.getElem?_cons_zero,Sl.isBr,Bool.false_and,Bool.false_eq_true,aT,look,Sl.val,gJ,dO,if_false,Option.bind_some,List.getElem?_cons_succ,Bool.not_false,Bool.true_or,Bool.and_true,List.length_map,h,decide_true,if_true,bS,bF,fl]
def dM(F:List (List Nat)):List Pc:=F.flatMap (je 8)
theorem uF(F:List (List Nat)):(dM F).length=(F.map sz).sum:=by
 induction F with
 |nil=>rfl
 |cons w F ih=>
  have e:dM (w::F)=je 8 w++dM F:=rfl
  rw[e,List.length_append,ih,lm]
  simp[sz]
theorem yr(x0:Sl):∀(F:List (List Nat)) (c:List Pc) (a:Sl),HC F→c.length+(F.map sz).sum≤100000→∃a',bb g9 gi (F.map af) [x0,.ow (c.map aC),a]=some ([x0,.ow ((c++dM F).map aC),a'],.nx)
 |[],c,a,_,_=>⟨a,by rw[show dM []=[]from rfl,List.append_nil];rfl⟩
 |w::F,c,a,h,hl=>by
  have hw:=h w (List.mem_cons_self ..)
  have lw:(je 8 w).length=sz w:=lm 8 w
  simp only[List.map_cons,List.sum_cons]at hl
  have p:dS [af w]=some (.ow ((je 8 w).map aC)):=Aa 7 w (by decide) hw.1 (by omega)
  have c1:aj dS (ae false (aa 2) ak) [x0,.ow (c.map aC),.sh (af w)]=some (.ow ((je 8 w).map aC),[x0,.ow (c.map aC),.sh (af w)]):=aG (ss:=[.sh (af w)]) rfl rfl p
  have c2:aj iu (ae false (aa 1) (ae false (aj dS (ae false (aa 2) ak)) ak)) [x0,.ow (c.map aC),.sh (af w)]=some (.ow ((c++je 8 w).map aC),[x0,.ow (c.map aC),.sh (af w)]):=
   aG (ss:=[.al 1,.ow ((je 8 w).map aC)]) (FR rfl c1) rfl (Ac c (je 8 w) (by omega))
  have st:(g9 (af w) [x0,.ow (c.map aC),a]).bind gi=some ([x0,.ow ((c++je 8 w).map aC),.sh (af w)],.nx):=by
   show gi [x0,.ow (c.map aC),.sh (af w)]=_
   exact jd c2 (show 1 < 3 by decide)
  obtain⟨a',e⟩:=yr x0 F (c++je 8 w) (.sh (af w)) (fun v hv=>h v (List.mem_cons_of_mem _ hv)) (by rw[List.length_append];omega)
  refine⟨a',?_⟩
  rw[List.map_cons,bb,st]
  have e2:c++dM (w::F)=(c++je 8 w)++dM F:=by rw[List.append_assoc];rfl
  rw[e2]
  exact e
theorem yt{U:List Nat}{L:List (List Nat)}(r:Rul U L)(h8:((mt L).map sz).sum≤800):cU [.list (L.map af)]=some (.ow ((dM (mt L)).map aC)):=by
 obtain⟨a,e⟩:=yr (.sh (.list (L.map af))) (mt L) [] .no r.few (by simp;omega)
 have c1:aj bI (ae false (aa 0) ak) [.sh (.list (L.map af)),.no,.no]=some (.sh (.int ((((mt L).map sz).sum:Nat):Int)),[.sh (.list (L.map af)),.no,.no]):=aG (ss:=[.sh (.list (L.map af))]) rfl rfl (Ab r)
 have d:decide ((800:Int) < ((((mt L).map sz).sum:Nat):Int))=false:=decide_eq_false (by omega)
 have s1:bg (cV (ag (fD (iQ .gt)) false (aj bI (ae false (aa 0) ak)) (pC (.int 800)))) jI aL [.sh (.list (L.map af)),.no,.no]=some ([.sh (.list (L.map af)),.no,.no],.nx):=by
  refine h9 ?_ rfl
  generalize aj bI (ae false (aa 0) ak)=f at c1
  simp only[cV,ag,c1,Sl.isBr,Bool.false_and,Bool.false_eq_true,pC,fD,look,Sl.val,iQ,Cm.i,Cm.s,Option.bind_some,if_false,d,Option.map_some]
 have s2:aB 1 (bD aZ) [.sh (.list (L.map af)),.no,.no]=some ([.sh (.list (L.map af)),.ow [],.no],.nx):=by simp only[aB,bD,aZ,Option.bind_some,List.length_nil,Nat.reduceLeDiff,if_true,PL.settle,frz,frzAll,List.length_cons,Nat.zero_add,Nat.reduceAdd,Nat.reduceLT,List.set_cons_succ,List.set_cons_zero]
 have c3:aj aJ (ae false (aa 0) ak) [.sh (.list (L.map af)),.ow [],.no]=some (.ow ((mt L).map af),[.sh (.list (L.map af)),.ow [],.no]):=aG (ss:=[.sh (.list (L.map af))]) rfl rfl (uE r)
 have i3:aQ (aj aJ (ae false (aa 0) ak)) [.sh (.list (L.map af)),.ow [],.no]=some ((mt L).map af,[.sh (.list (L.map af)),.ow [],.no]):=by
  unfold aQ
  rw[c3]
  rfl
 have s3:cw (aQ (aj aJ (ae false (aa 0) ak))) g9 gi [.sh (.list (L.map af)),.ow [],.no]=some ([.sh (.list (L.map af)),.ow ((dM (mt L)).map aC),a],.nx):=by
  unfold cw
  rw[i3,Option.bind_some]
  exact e
 have g:cU [.list (L.map af)]=(kA [.sh (.list (L.map af)),.no,.no]).bind fun a=>match a.2 with |.rt r=>bS r |.nx=>some (.sh .none) |_=>none:=rfl
 have fl:=fF (dM (mt L))
 rw[g,kA,aE s1,aE s2,aE s3]
 simp only[aN,aa,List.getElem?_cons_succ,List.getElem?_cons_zero,Option.bind_some,List.set_cons_succ,List.set_cons_zero,Option.map_some,bS,bF,fl,if_true]
theorem mi{α:Type}(f:α→Bool):∀l:List α,kP (l.map fun a=>PyData.bool (f a))=some (l.map f)
 |[]=>rfl
 |a::l=>by
  show(kP (l.map fun a=>PyData.bool (f a))).map (f a:: ·)=_
  rw[mi f l]
  rfl
theorem oS{α:Type}(f:α→Bool):∀l:List α,bE (l.map fun a=>PyData.bool (f a))=true
 |[]=>rfl
 |a::l=>by show(dL (.bool (f a))&&_)=true;rw[oS f l];rfl
theorem Cb{f:bC}{E:List Sl}{ds:List PyData}(h:f E=some (.ow ds,E)):aQ f E=some (ds,E):=by
 unfold aQ
 rw[h]
 rfl
theorem pk:cr=bj:=rfl
theorem FY(w:List Nat)(a:Nat):cP [.sh (.str ⟨#[a]⟩),.sh (af w)]=some (.sh (.bool (decide (a∈w))),[.sh (.str ⟨#[a]⟩),.sh (af w)]):=by
 have o:=p_ w a
 simp only[cP,ag,aa,af,List.getElem?_cons_zero,Sl.isBr,Bool.false_and,Bool.false_eq_true,xT,fD,look,Sl.val,if_false,Ek,Option.bind_some,List.getElem?_cons_succ,o,Bool.not_not,Option.map_some]
theorem yu(w:List Nat):∀(v:List Nat) (x:Sl),cf ef bK cP (v.map cX) [x,.sh (af w)]=some (v.map fun a=>PyData.bool (decide (a∈w)))
 |[],x=>rfl
 |a::v,x=>by
  have t:ef (cX a) [x,.sh (af w)]=some [.sh (cX a),.sh (af w)]:=rfl
  exact lh t (FY w a) (yu w v _)
theorem FZ(v w:List Nat):(v.map fun a=>decide (a∈w)).all id=decide (NhFam.le v w):=by
 rw[List.all_map]
 exact Bool.eq_iff_iff.mpr (by rw[decide_eq_true_iff];simp[NhFam.le])
theorem F4(w:List Nat)(x1:Sl)(v:List Nat)(hv:v.length≤1000):dw (bY wA (ae false (ba [none,some 0] (aQ (aa 2)) ef bK cP) ak)) [.sh (af w),x1,.sh (af v)]=some (decide (NhFam.le v w),[.sh (af w),x1,.sh (af v)]):=by
 have it:aQ (aa 2) [.sh (af w),x1,.sh (af v)]=some (v.map cX,[.sh (af w),x1,.sh (af v)]):=by
  simp only[aQ,aa,af,List.getElem?_cons_succ,List.getElem?_cons_zero,frz,Option.bind_some,uw]
 have k:=gv (js:=[none,some 0]) it (yu w v .no) (oS _ v) (by rw[List.length_map];omega)
 have bo:=mi (fun a=>decide (a∈w)) v
 have al:=FZ v w
 simp only[dw,bY,ae,ak,k,Option.bind_some,Option.map_some,cb,look,Sl.val,wA,bo,al,i_,Bool.false_and,Bool.false_eq_true,if_false]
theorem vY(w:List Nat)(x1:Sl):∀(K:List (List Nat)) (a:Sl),(∀k∈K,k.length≤1000)→∃E,bb bO bp (K.map af) [.sh (af w),x1,a]=some (E,if K.any (fun k=>decide (NhFam.le k w))then .rt (.sh (.bool true))else .nx)
 |[],a,_=>⟨_,rfl⟩
 |k::K,a,h=>by
  have t1:=F4 w x1 k (h k (List.mem_cons_self ..))
  have tg:bO (af k) [.sh (af w),x1,a]=some [.sh (af w),x1,.sh (af k)]:=rfl
  by_cases q:NhFam.le k w
  ·rw[decide_eq_true q]at t1
   refine⟨[.sh (af w),x1,.sh (af k)],?_⟩
   have st:(bO (af k) [.sh (af w),x1,a]).bind bp=some ([.sh (af w),x1,.sh (af k)],.rt (.sh (.bool true))):=by
    rw[tg,Option.bind_some,bp]
    exact jS t1 rfl
   rw[List.map_cons,bb,st,List.any_cons,decide_eq_true q]
   rfl
  ·rw[decide_eq_false q]at t1
   obtain⟨E,ih⟩:=vY w x1 K (.sh (af k)) fun v hv=>h v (List.mem_cons_of_mem _ hv)
   refine⟨E,?_⟩
   have st:(bO (af k) [.sh (af w),x1,a]).bind bp=some ([.sh (af w),x1,.sh (af k)],.nx):=by
    rw[tg,Option.bind_some,bp]
    exact h9 t1 rfl
   rw[List.map_cons,bb,st,List.any_cons,decide_eq_false q,Bool.false_or]
   exact ih
theorem vZ(w:List Nat)(K:List (List Nat))(h:∀k∈K,k.length≤1000):be [af w,.list (K.map af)]=some (.sh (.bool (K.any fun k=>decide (NhFam.le k w)))):=by
 obtain⟨E,e⟩:=vY w (.sh (.list (K.map af))) K .no h
 have g:be [af w,.list (K.map af)]=(fY [.sh (af w),.sh (.list (K.map af)),.no]).bind fun a=>match a.2 with |.rt r=>bS r |.nx=>some (.sh .none) |_=>none:=rfl
 have it:aQ (aa 1) [.sh (af w),.sh (.list (K.map af)),.no]=some (K.map af,[.sh (af w),.sh (.list (K.map af)),.no]):=rfl
 rw[g,fY]
 cases q:K.any (fun k=>decide (NhFam.le k w))with
 |true=>
  rw[q]at e
  have fo:cw (aQ (aa 1)) bO bp [.sh (af w),.sh (.list (K.map af)),.no]=some (E,.rt (.sh (.bool true))):=by
   unfold cw
   rw[it,Option.bind_some]
   exact e
  simp only[aA,fo,Option.bind_some]
  rfl
 |false=>
  rw[q]at e
  have fo:cw (aQ (aa 1)) bO bp [.sh (af w),.sh (.list (K.map af)),.no]=some (E,.nx):=by
   unfold cw
   rw[it,Option.bind_some]
   exact e
  rw[aE fo]
  rfl
theorem Cc(x0 x2:Sl):∀(S K:List (List Nat)) (a:Sl),(∀k∈S,k.length≤1000)→(∀k∈K,k.length≤1000)→K.length+S.length≤2000→∃a',bb eT dH (S.map af) [x0,.ow (K.map af),x2,a]=some ([x0,.ow ((NhFam.d7 K S).map af),x2,a'],.nx)
 |[],K,a,_,_,_=>⟨a,rfl⟩
 |w::S,K,a,hS,hK,hl=>by
  have tg:eT (af w) [x0,.ow (K.map af),x2,a]=some [x0,.ow (K.map af),x2,.sh (af w)]:=rfl
  have c3:aj be (ae false (aa 3) (ae false (aa 1) ak)) [x0,.ow (K.map af),x2,.sh (af w)]=some (.sh (.bool (K.any (fun k=>decide (NhFam.le k w)))),[x0,.ow (K.map af),x2,.sh (af w)]):=aG (ss:=[.sh (af w),.al 1]) rfl rfl (vZ w K hK)
  have c2:d0 (dw (aj be (ae false (aa 3) (ae false (aa 1) ak)))) [x0,.ow (K.map af),x2,.sh (af w)]=some (!K.any (fun k=>decide (NhFam.le k w)),[x0,.ow (K.map af),x2,.sh (af w)]):=by
   simp only[d0,dw,c3,Option.bind_some,look,Sl.val,i_,Option.map_some]
  simp only[List.length_cons]at hl
  by_cases h:K.any (fun k=>decide (NhFam.le k w))=true
  ·rw[h]at c2
   have st:(eT (af w) [x0,.ow (K.map af),x2,a]).bind dH=some ([x0,.ow (K.map af),x2,.sh (af w)],.nx):=by
    rw[tg,Option.bind_some,dH]
    exact h9 c2 rfl
   obtain⟨a',e⟩:=Cc x0 x2 S K (.sh (af w)) (fun v hv=>hS v (List.mem_cons_of_mem _ hv)) hK (by omega)
   refine⟨a',?_⟩
   rw[List.map_cons,bb,st,NhFam.d7,if_pos h]
   exact e
  ·have h':K.any (fun k=>decide (NhFam.le k w))=false:=by simpa using h
   rw[h']at c2
   have b1:K.length < 1000000:=by omega
   have st:(eT (af w) [x0,.ow (K.map af),x2,a]).bind dH=some ([x0,.ow ((K++[w]).map af),x2,.sh (af w)],.nx):=by
    rw[tg,Option.bind_some,dH]
    refine jS c2 ?_
    simp only[bU,aU,List.getElem?_cons_succ,List.getElem?_cons_zero,aa,frz,Option.bind_some,List.length_map,b1,List.set_cons_succ,List.set_cons_zero,if_true,Option.map_some,List.map_append,List.map_cons,List.map_nil]
   obtain⟨a',e⟩:=Cc x0 x2 S (K++[w]) (.sh (af w)) (fun v hv=>hS v (List.mem_cons_of_mem _ hv)) (fun v hv=>by
    rcases List.mem_append.mp hv with q |q
    ·exact hK v q
    ·rw[List.mem_singleton.mp q];exact hS w (List.mem_cons_self ..)) (by simp;omega)
   refine⟨a',?_⟩
   rw[List.map_cons,bb,st,NhFam.d7,if_neg h]
   exact e
def CB(a b:List Nat):Bool:=decide (a≤b)
def rD(G:List (List Nat)):List (List Nat):=G.mergeSort CB
theorem tz(a b c:List Nat)(h:CB a b=true)(k:CB b c=true):CB a c=true:=decide_eq_true (List.le_trans (of_decide_eq_true h) (of_decide_eq_true k))
theorem tB(a b:List Nat):(CB a b||CB b a)=true:=by
 rcases List.le_total a b with h |h
 ·simp[CB,h]
 ·simp[CB,h]
theorem srtW_mem{G:List (List Nat)}{w:List Nat}:w∈rD G↔w∈G:=(List.mergeSort_perm G _).mem_iff
theorem Cd(G:List (List Nat)):(rD G).length=G.length:=(List.mergeSort_perm G _).length_eq
theorem Ce(G:List (List Nat)):iR (G.map wa)=(rD G).map wa:=
 List.Perm.eq_of_pairwise (fun _ _ _ _ h k=>nG h k) (List.pairwise_mergeSort kt mz _) (List.pairwise_map.mpr ((List.pairwise_mergeSort tz tB G).imp fun {a b} h=>h)) ((List.mergeSort_perm _ t7).trans ((List.mergeSort_perm G CB).symm.map wa))
theorem F7(w:List Nat)(n:Nat)(hw:w.length≤1000):dG [.sh (af w),.sh (.int (n:Int))]=some (decide (w.length=n),[.sh (af w),.sh (.int (n:Int))]):=by
 have l:=w_ (E:=[.sh (af w),.sh (.int (n:Int))]) (f:=aa 0) rfl (show w.length≤1000000 by omega)
 have:=vO (f:=bY eK (ae false (aa 0) ak)) (g:=aa 1) (E:=[.sh (af w),.sh (.int (n:Int))]) (y:=(n:Int)) l rfl
 rw[show decide ((w.length:Int)=(n:Int))=decide (w.length=n)from decide_eq_decide.mpr (by omega)]at this
 exact this
theorem yx(n:Nat):∀(F:List (List Nat)) (x:Sl),(∀w∈F,w.length≤1000)→cf dE dG dF (F.map af) [x,.sh (.int (n:Int))]=some ((F.filter fun w=>decide (w.length=n)).map af)
 |[],x,_=>rfl
 |w::F,x,h=>by
  have t:dE (af w) [x,.sh (.int (n:Int))]=some [.sh (af w),.sh (.int (n:Int))]:=rfl
  have k:=vS (elt:=dF) t (F7 w n (h w (List.mem_cons_self ..))) rfl (yx n F _ fun v hv=>h v (List.mem_cons_of_mem _ hv))
  rw[List.map_cons,k,List.filter_cons]
  split <;> rfl
def mj(F:List (List Nat))(lo:Nat):Nat→List (List Nat)
 | 0=>[]
 |n+1=>rD (F.filter fun w=>decide (w.length=lo))++mj F (lo+1) n
theorem rE:∀(A K B:List (List Nat)),NhFam.d7 K (A++B)=NhFam.d7 (NhFam.d7 K A) B
 |[],K,B=>rfl
 |a::A,K,B=>by
  rw[List.cons_append,NhFam.d7,NhFam.d7]
  split
  ·exact rE A K B
  ·exact rE A _ B
theorem rF{w:List Nat}:∀{A K:List (List Nat)},w∈NhFam.d7 K A→w∈K∨w∈A
 |[],K,h=>.inl h
 |a::A,K,h=>by
  rw[NhFam.d7]at h
  split at h
  ·exact(rF h).imp id (List.mem_cons_of_mem _)
  ·rcases rF h with q |q
   ·rcases List.mem_append.mp q with q |q
    ·exact .inl q
    ·exact .inr (by rw[List.mem_singleton.mp q];exact List.mem_cons_self ..)
   ·exact .inr (List.mem_cons_of_mem _ q)
theorem og:∀(A K:List (List Nat)),(NhFam.d7 K A).length≤K.length+A.length
 |[],K=>by simp[NhFam.d7]
 |a::A,K=>by
  rw[NhFam.d7]
  split
  ·have:=og A K;simp;omega
  ·have:=og A (K++[a]);simp at this ⊢;omega
theorem Cf(F:List (List Nat))(hF:∀w∈F,w.length≤1000):∀(n lo:Nat) (K:List (List Nat)) (a b:Sl),(∀k∈K,k.length≤1000)→K.length+(mj F lo n).length≤2000→F.length≤2000→∃a' b',bb eU eW (kl lo n) [.sh (.list (F.map af)),.ow (K.map af),a,b]=some ([.sh (.list (F.map af)),.ow ((NhFam.d7 K (mj F lo n)).map af),a',b'],.nx)
 | 0,lo,K,a,b,_,_,_=>⟨a,b,rfl⟩
 |n+1,lo,K,a,b,hK,hl,hl2=>by
  have tg:eU (.int (lo:Int)) [.sh (.list (F.map af)),.ow (K.map af),a,b]=some [.sh (.list (F.map af)),.ow (K.map af),.sh (.int (lo:Int)),b]:=rfl
  have hfl:(F.filter fun w=>decide (w.length=lo)).length≤F.length:=List.length_filter_le _ _
  have p1:ba [none,some 2] (aQ (aa 0)) dE dG dF [.sh (.list (F.map af)),.ow (K.map af),.sh (.int (lo:Int)),b]=some (.ow ((F.filter fun w=>decide (w.length=lo)).map af),[.sh (.list (F.map af)),.ow (K.map af),.sh (.int (lo:Int)),b]):=gv (js:=[none,some 2]) rfl (yx lo F .no hF) (cA _) (by rw[List.length_map];omega)
  have c64:((F.filter fun w=>decide (w.length=lo)).map wa).length < 65536:=by rw[List.length_map];omega
  have p2:lX (ba [none,some 2] (aQ (aa 0)) dE dG dF) [.sh (.list (F.map af)),.ow (K.map af),.sh (.int (lo:Int)),b]=some (.ow ((rD (F.filter fun w=>decide (w.length=lo))).map af),[.sh (.list (F.map af)),.ow (K.map af),.sh (.int (lo:Int)),b]):=by
   unfold lX
   rw[p1,Option.bind_some]
   show((lA ((F.filter fun w=>decide (w.length=lo)).map af)).bind _)=_
   rw[re,Option.bind_some]
   show(if ((F.filter fun w=>decide (w.length=lo)).map wa).length < 65536 then _ else _)=_
   rw[if_pos c64]
   show some (Sl.ow ((iR ((F.filter fun w=>decide (w.length=lo)).map wa)).map PyData.str),_)=_
   rw[Ce,List.map_map]
   rfl
  have i2:aQ (lX (ba [none,some 2] (aQ (aa 0)) dE dG dF)) [.sh (.list (F.map af)),.ow (K.map af),.sh (.int (lo:Int)),b]=some ((rD (F.filter fun w=>decide (w.length=lo))).map af,[.sh (.list (F.map af)),.ow (K.map af),.sh (.int (lo:Int)),b]):=Cb p2
  have hS:∀k∈rD (F.filter fun w=>decide (w.length=lo)),k.length≤1000:=fun k hk=>hF k (List.mem_filter.mp (srtW_mem.mp hk)).1
  simp only[mj,List.length_append]at hl
  obtain⟨b',e⟩:=Cc (.sh (.list (F.map af))) (.sh (.int (lo:Int))) (rD (F.filter fun w=>decide (w.length=lo))) K b hS hK (by omega)
  have st:(eU (.int (lo:Int)) [.sh (.list (F.map af)),.ow (K.map af),a,b]).bind eW=some ([.sh (.list (F.map af)),.ow ((NhFam.d7 K (rD (F.filter fun w=>decide (w.length=lo)))).map af),.sh (.int (lo:Int)),b'],.nx):=by
   rw[tg,Option.bind_some,eW]
   unfold cw
   rw[i2,Option.bind_some]
   exact e
  have:=og (rD (F.filter fun w=>decide (w.length=lo))) K
  obtain⟨a2,b2,e2⟩:=Cf F hF n (lo+1) (NhFam.d7 K (rD (F.filter fun w=>decide (w.length=lo)))) (.sh (.int (lo:Int))) b' (fun k hk=>(rF hk).elim (hK k) (hS k)) (by omega) hl2
  refine⟨a2,b2,?_⟩
  rw[kq,bb,st,mj,rE]
  exact e2
theorem uG(F:List (List Nat)){w:List Nat}:∀(n lo:Nat),w∈mj F lo n↔w∈F∧lo≤w.length∧w.length < lo+n
 | 0,lo=>by simp[mj]
 |n+1,lo=>by
  rw[mj,List.mem_append,srtW_mem,List.mem_filter,uG F n (lo+1),decide_eq_true_iff]
  constructor
  ·rintro(⟨a,b⟩ |⟨a,b,c⟩)
   ·exact⟨a,by omega,by omega⟩
   ·exact⟨a,by omega,by omega⟩
  ·rintro⟨a,b,c⟩
   by_cases h:w.length=lo
   ·exact .inl ⟨a,h⟩
   ·exact .inr ⟨a,by omega,by omega⟩
theorem F8{a b:List Nat}(h:a.length=b.length)(k:CB a b=true):¬NhFam.lU b a:=fun z=>by
 have z':=NhSG.ltKy_iff.mp z
 simp only[NhFam.key]at z'
 rcases z' with z' |⟨_,z'⟩
 ·omega
 ·exact absurd z' (of_decide_eq_true k)
theorem yy(F:List (List Nat)):∀(n lo:Nat),(mj F lo n).Pairwise fun a b=>¬NhFam.lU b a
 | 0,lo=>List.Pairwise.nil
 |n+1,lo=>by
  rw[mj,List.pairwise_append]
  refine⟨?_,yy F n (lo+1),fun a ha b hb=>?_⟩
  ·refine List.Pairwise.imp_of_mem (fun {a b} ha hb h=>F8 ?_ h) (List.pairwise_mergeSort tz tB _)
   have h1:=of_decide_eq_true (List.mem_filter.mp (srtW_mem.mp ha)).2
   have h2:=of_decide_eq_true (List.mem_filter.mp (srtW_mem.mp hb)).2
   omega
  ·have h1:=of_decide_eq_true (List.mem_filter.mp (srtW_mem.mp ha)).2
   have h2:=((uG F n (lo+1)).mp hb).2.1
   exact NhFam.oE (NhFam.qN (by omega))
theorem yz(F:List (List Nat)):∀(n lo:Nat),(mj F lo n).length≤(F.filter fun w=>decide (lo≤w.length)).length
 | 0,lo=>Nat.zero_le _
 |n+1,lo=>by
  rw[mj,List.length_append,Cd]
  have h:=yz F n (lo+1)
  have k:∀G:List (List Nat),(G.filter fun w=>decide (w.length=lo)).length+(G.filter fun w=>decide (lo+1≤w.length)).length=(G.filter fun w=>decide (lo≤w.length)).length:=fun G=>by
   induction G with
   |nil=>rfl
   |cons w G ih=>
    simp only[List.filter_cons]
    rcases Nat.lt_trichotomy w.length lo with q |q |q
    ·rw[if_neg (by simp;omega),if_neg (by simp;omega),if_neg (by simp;omega)];exact ih
    ·rw[if_pos (by simp;omega),if_neg (by simp;omega),if_pos (by simp;omega),List.length_cons,List.length_cons];omega
    ·rw[if_neg (by simp;omega),if_pos (by simp;omega),if_pos (by simp;omega),List.length_cons,List.length_cons];omega
  have:=k F
  omega
theorem Cg{U:List Nat}{F:List (List Nat)}(hF:∀v∈F,NhFam.Sub U v)(hl:∀v∈F,v.length < 27):NhFam.d7 [] (mj F 0 27)=NhFam.aH F:=by
 have me:∀w,w∈mj F 0 27↔w∈F:=fun w=>(uG F 27 0).trans ⟨fun h=>h.1,fun h=>⟨h,Nat.zero_le _,by have:=hl w h;omega⟩⟩
 obtain⟨a,b⟩:=NhFam.kY (mj F 0 27) [] [] (fun v hv=>(hF v ((me v).mp (by simpa using hv))).1) (fun v hv=>by cases hv) (fun v hv=>by cases hv) (fun v hv=>by cases hv) (yy F 27 0) (fun v hv=>by cases hv) .nil
 have t:NhFam.Told U (NhFam.d7 [] (mj F 0 27)) (NhFam.up F):=by
  refine⟨a,fun w=>(b w).trans ?_⟩
  rw[NhFam.uo hF]
  simp only[List.nil_append,me]
 exact t.uniq (NhFam.fj hF) fun w _=>Iff.rfl
theorem Hq{E:List Sl}:qx (ae false (pC (.int 0)) (ae false (pC (.int 27)) ak)) E=some (kl 0 27,E):=by
 simp only[qx,ae,pC,Sl.isBr,Bool.false_and,Bool.false_eq_true,ak,Option.map_some,if_false,Option.bind_some,cb,look,Sl.val]
 rfl
theorem lq{U:List Nat}{F:List (List Nat)}(u:Uni U)(hF:∀v∈F,NhFam.Sub U v)(hl:F.length≤1100):bJ [.list (F.map af)]=some (.ow ((NhFam.aH F).map af)):=by
 have sh:∀v∈F,v.length≤10:=fun v hv=>u.short (hF v hv)
 have cl:(mj F 0 27).length≤1100:=Nat.le_trans (yz F 27 0) (Nat.le_trans (List.length_filter_le _ _) hl)
 obtain⟨a,b,e⟩:=Cf F (fun v hv=>by have:=sh v hv;omega) 27 0 [] .no .no (fun _ h=>by cases h) (by simp;omega) (by omega)
 rw[Cg hF fun v hv=>by have:=sh v hv;omega]at e
 have g:bJ [.list (F.map af)]=(iV [.sh (.list (F.map af)),.no,.no,.no]).bind fun a=>match a.2 with |.rt r=>bS r |.nx=>some (.sh .none) |_=>none:=rfl
 have s1:aB 1 (bD aZ) [.sh (.list (F.map af)),.no,.no,.no]=some ([.sh (.list (F.map af)),.ow [],.no,.no],.nx):=by simp only[aB,bD,aZ,Option.bind_some,List.length_nil,Nat.reduceLeDiff,if_true,PL.settle,frz,frzAll,List.length_cons,Nat.zero_add,Nat.reduceAdd,Nat.reduceLT,List.set_cons_succ,List.set_cons_zero]
 have fo:cw (qx (ae false (pC (.int 0)) (ae false (pC (.int 27)) ak))) eU eW [.sh (.list (F.map af)),.ow [],.no,.no]=some ([.sh (.list (F.map af)),.ow ((NhFam.aH F).map af),a,b],.nx):=by
  unfold cw
  rw[Hq,Option.bind_some]
  exact e
 have fl:=cA (NhFam.aH F)
 rw[g,iV,aE s1,aE fo]
 simp only[aN,aa,List.getElem?_cons_succ,List.getElem?_cons_zero,Option.bind_some,List.set_cons_succ,List.set_cons_zero,Option.map_some,bS,bF,fl,if_true]
def iE(cell step:Int)(k:Nat):Nat:=97+((cell+(k:Int)*step) % 26).toNat
theorem xc{cell step:Int}(hs:∀d:Nat,1≤d→d < 26→((d:Int)*step) % 26≠0){j k:Nat}(h:j < k)(hk:k < 26):iE cell step j≠iE cell step k:=by
 intro e
 unfold iE at e
 have m0:=Int.emod_nonneg (cell+(k:Int)*step) (show(26:Int)≠0 by decide)
 have n0:=Int.emod_nonneg (cell+(j:Int)*step) (show(26:Int)≠0 by decide)
 have e2:(cell+(k:Int)*step) % 26=(cell+(j:Int)*step) % 26:=by omega
 have e3:=Int.emod_eq_emod_iff_emod_sub_eq_zero.mp e2
 apply hs (k - j) (by omega) (by omega)
 rw[←e3]
 congr 1
 rw[show((k - j:Nat):Int)=(k:Int) - j by omega,Int.sub_mul]
 omega
theorem tD(cell step:Int)(k:Nat):az (iE cell step k):=by
 unfold iE az
 have m0:=Int.emod_nonneg (cell+(k:Int)*step) (show(26:Int)≠0 by decide)
 have m1:=Int.emod_lt_of_pos (cell+(k:Int)*step) (show(0:Int) < 26 by decide)
 generalize (cell+(k:Int)*step) % 26=z at m0 m1
 omega
theorem qc{E:List Sl}{f:bC}{w:List Nat}(hf:f E=some (.ow (w.map cX),E))(hl:w.length≤1000000):eN "" f E=some (.sh (af w),E):=by
 have so:=pc w
 have l:=uz w
 simp only[eN,ki,qC,hf,Option.bind_some,look,Sl.val,so,l,hl,if_true,Option.map_some,rc,af]
theorem Hr(at_ step k:Int)(m:gW step k=true):eX [.sh (.int k),.sh (.str "abcdefghijklmnopqrstuvwxyz"),.sh (.int at_),.sh (.int step)]=some (.sh (cX (97+((at_+step*k) % 26).toNat)),[.sh (.int k),.sh (.str "abcdefghijklmnopqrstuvwxyz"),.sh (.int at_),.sh (.int step)]):=by
 simp only[eX,ag,aa,List.getElem?_cons_succ,List.getElem?_cons_zero,Sl.isBr,Bool.false_and,Bool.false_eq_true,hW,look,Sl.val,gJ,dO,if_false,aT,pC,gd,fD,pS,Option.bind_some,jf,Bool.not_false,Bool.true_or,Bool.and_true,m,if_true,Int.reduceLT,decide_true,Option.map_some,Br,Hf,cX]
theorem Eu(at_ step:Int)(h1:0≤step)(h2:step≤100):∀(n lo:Nat) (x:Sl),cf f_ bK eX (kl lo n) [x,.sh (.str "abcdefghijklmnopqrstuvwxyz"),.sh (.int at_),.sh (.int step)]=some (((List.range' lo n).map (iE at_ step)).map cX)
 | 0,lo,x=>rfl
 |n+1,lo,x=>by
  have e:=Eu at_ step h1 h2 n (lo+1) (.sh (.int lo))
  have s:=Hr at_ step lo (kU (by omega) (by omega))
  rw[Int.mul_comm step]at s
  have t:f_ (.int lo) [x,.sh (.str "abcdefghijklmnopqrstuvwxyz"),.sh (.int at_),.sh (.int step)]=some [.sh (.int lo),.sh (.str "abcdefghijklmnopqrstuvwxyz"),.sh (.int at_),.sh (.int step)]:=rfl
  rw[show((lo+1:Nat):Int)=(lo:Int)+1 by omega]at e
  rw[kq,List.range'_succ,List.map_cons,List.map_cons]
  exact lh t s e
theorem F9:∀i,i < 6→∃v:Int,([1,3,5,7,9,11].map PyData.int)[i]? =some (.int v)∧0≤v∧v≤100∧∀d:Nat,1≤d→d < 26→((d:Int)*v) % 26≠0
 | 0,_=>⟨1,rfl,by decide,by decide,by omega⟩
 | 1,_=>⟨3,rfl,by decide,by decide,by omega⟩
 | 2,_=>⟨5,rfl,by decide,by decide,by omega⟩
 | 3,_=>⟨7,rfl,by decide,by decide,by omega⟩
 | 4,_=>⟨9,rfl,by decide,by decide,by omega⟩
 | 5,_=>⟨11,rfl,by decide,by decide,by omega⟩
theorem F_(cell many step at_ i:Int)(hm:1+cell % 6=many)(hi:cell / 6 % 6=i)(ha:cell / 6 / 6 % 26=at_)(hs:atI ([1,3,5,7,9,11].map PyData.int) i=some (.int step))(d6:oX 6=true):
  ∃E:List Sl,E=[.sh (.int cell),.sh (.int 6),.sh (.str "abcdefghijklmnopqrstuvwxyz"),.sh (.int many),.sh (.int step),.sh (.int at_)]∧∀r:de,aA (aB 2 (pC (.str "abcdefghijklmnopqrstuvwxyz"))) (aA (aB 3 (ag aT false (pC (.int 1)) (ag gd false (aa 0) (aa 1)))) (aA (aB 4 (ag jf false (bD (sx [1,3,5,7,9,11])) (ag gd false (ag cJ false (aa 0) (aa 1)) (pC (.int 6))))) (aA (aB 5 (ag gd false (ag cJ false (ag cJ false (aa 0) (aa 1)) (pC (.int 6))) (pC (.int 26)))) r))) [.sh (.int cell),.sh (.int 6),.no,.no,.no,.no]=r E:=by
 refine⟨_,rfl,fun r=>?_⟩
 have s2:aB 2 (pC (.str "abcdefghijklmnopqrstuvwxyz")) [.sh (.int cell),.sh (.int 6),.no,.no,.no,.no]=some ([.sh (.int cell),.sh (.int 6),.sh (.str "abcdefghijklmnopqrstuvwxyz"),.no,.no,.no],.nx):=rfl
 have m6:ag gd false (aa 0) (aa 1) [.sh (.int cell),.sh (.int 6),.sh (.str "abcdefghijklmnopqrstuvwxyz"),.no,.no,.no]=some (.sh (.int (cell % 6)),[.sh (.int cell),.sh (.int 6),.sh (.str "abcdefghijklmnopqrstuvwxyz"),.no,.no,.no]):=mf rfl rfl (by decide)
 have s3:aB 3 (ag aT false (pC (.int 1)) (ag gd false (aa 0) (aa 1))) [.sh (.int cell),.sh (.int 6),.sh (.str "abcdefghijklmnopqrstuvwxyz"),.no,.no,.no]=some ([.sh (.int cell),.sh (.int 6),.sh (.str "abcdefghijklmnopqrstuvwxyz"),.sh (.int many),.no,.no],.nx):=by
  have:=gR (i:=3) (jT (g:=pC (.int 1)) (x:=1) rfl m6) (show 3 < 6 by decide)
  rw[hm]at this
  exact this
 have f6:ag cJ false (aa 0) (aa 1) [.sh (.int cell),.sh (.int 6),.sh (.str "abcdefghijklmnopqrstuvwxyz"),.sh (.int many),.no,.no]=some (.sh (.int (cell / 6)),[.sh (.int cell),.sh (.int 6),.sh (.str "abcdefghijklmnopqrstuvwxyz"),.sh (.int many),.no,.no]):=mK rfl rfl d6
 have i6:ag gd false (ag cJ false (aa 0) (aa 1)) (pC (.int 6)) [.sh (.int cell),.sh (.int 6),.sh (.str "abcdefghijklmnopqrstuvwxyz"),.sh (.int many),.no,.no]=some (.sh (.int i),[.sh (.int cell),.sh (.int 6),.sh (.str "abcdefghijklmnopqrstuvwxyz"),.sh (.int many),.no,.no]):=by
  rw[←hi]
  exact mf f6 rfl (by decide)
 have s4:aB 4 (ag jf false (bD (sx [1,3,5,7,9,11])) (ag gd false (ag cJ false (aa 0) (aa 1)) (pC (.int 6)))) [.sh (.int cell),.sh (.int 6),.sh (.str "abcdefghijklmnopqrstuvwxyz"),.sh (.int many),.no,.no]=some ([.sh (.int cell),.sh (.int 6),.sh (.str "abcdefghijklmnopqrstuvwxyz"),.sh (.int many),.sh (.int step),.no],.nx):=by
  have z:ag jf false (bD (sx [1,3,5,7,9,11])) (ag gd false (ag cJ false (aa 0) (aa 1)) (pC (.int 6))) [.sh (.int cell),.sh (.int 6),.sh (.str "abcdefghijklmnopqrstuvwxyz"),.sh (.int many),.no,.no]=some (.sh (.int step),[.sh (.int cell),.sh (.int 6),.sh (.str "abcdefghijklmnopqrstuvwxyz"),.sh (.int many),.no,.no]):=by
   generalize ag gd false (ag cJ false (aa 0) (aa 1)) (pC (.int 6))=f at i6
   simp only[List.map_cons,List.map_nil]at hs
   simp only[ag,bD,sx,List.map_cons,List.map_nil,Option.bind_some,List.length_cons,List.length_nil,Nat.zero_add,Nat.reduceAdd,Nat.reduceLeDiff,if_true,Sl.isBr,Bool.false_and,Bool.false_eq_true,jf,look,Sl.val,gJ,dO,if_false,i6,hs,Option.map_some]
  exact gR z (show 4 < 6 by decide)
 have g6:ag cJ false (aa 0) (aa 1) [.sh (.int cell),.sh (.int 6),.sh (.str "abcdefghijklmnopqrstuvwxyz"),.sh (.int many),.sh (.int step),.no]=some (.sh (.int (cell / 6)),[.sh (.int cell),.sh (.int 6),.sh (.str "abcdefghijklmnopqrstuvwxyz"),.sh (.int many),.sh (.int step),.no]):=mK rfl rfl d6
 have s5:aB 5 (ag gd false (ag cJ false (ag cJ false (aa 0) (aa 1)) (pC (.int 6))) (pC (.int 26))) [.sh (.int cell),.sh (.int 6),.sh (.str "abcdefghijklmnopqrstuvwxyz"),.sh (.int many),.sh (.int step),.no]=some ([.sh (.int cell),.sh (.int 6),.sh (.str "abcdefghijklmnopqrstuvwxyz"),.sh (.int many),.sh (.int step),.sh (.int at_)],.nx):=by
  have:=gR (i:=5) (mf (g:=pC (.int 26)) (y:=26) (mK (g:=pC (.int 6)) (y:=6) g6 rfl d6) rfl (by decide)) (show 5 < 6 by decide)
  rw[ha]at this
  exact this
 rw[aE s2,aE s3,aE s4,aE s5]
theorem uH(cell:Int):∃U:List Nat,fA [.int cell,.int 6]=some (.sh (af U))∧Uni U∧1≤U.length∧U.length≤6:=by
 have m0:=Int.emod_nonneg (cell / 6) (show(6:Int)≠0 by decide)
 have m1:=Int.emod_lt_of_pos (cell / 6) (show(0:Int) < 6 by decide)
 have c0:=Int.emod_nonneg cell (show(6:Int)≠0 by decide)
 have c1:=Int.emod_lt_of_pos cell (show(0:Int) < 6 by decide)
 obtain⟨i,hi⟩:∃i:Nat,cell / 6 % 6=i:=⟨(cell / 6 % 6).toNat,by omega⟩
 obtain⟨n,hn⟩:∃n:Nat,1+cell % 6=n:=⟨(1+cell % 6).toNat,by omega⟩
 obtain⟨v,ev,v0,v1,v2⟩:=F9 i (by omega)
 obtain⟨E,hE,st⟩:=F_ cell n v (cell / 6 / 6 % 26) i hn hi rfl (by rw[jG,ev]) (by decide)
 have e:=Eu (cell / 6 / 6 % 26) v v0 v1 n 0 .no
 simp only[Int.natCast_zero]at e
 generalize cell / 6 / 6 % 26=t at hE e
 have az':∀a∈(List.range' 0 n).map (iE t v),az a:=fun a ha=>by
  obtain⟨k,_,rfl⟩:=List.mem_map.mp ha
  exact tD t v k
 have nd:((List.range' 0 n).map (iE t v)).Nodup:=by
  rw[List.Nodup,List.pairwise_map]
  refine List.Pairwise.imp_of_mem ?_ (List.pairwise_lt_range' (s:=0) (n:=n))
  intro a b ha hb hab
  exact xc v2 hab (by have:=List.mem_range'_1.mp hb;omega)
 have ln:((List.range' 0 n).map (iE t v)).length=n:=by simp
 generalize (List.range' 0 n).map (iE t v)=w at e az' nd ln
 have i1:il (ae false (aa 3) ak) E=some (kl 0 n,E):=rj (z:=(n:Int)) (by rw[hE];rfl) rfl (by omega)
 have p1:ba [none,some 2,some 5,some 4] (il (ae false (aa 3) ak)) f_ bK eX E=some (.ow (w.map cX),E):=gv i1 (by rw[hE];exact e) (kI _) (by rw[List.length_map];omega)
 have p2:=qc (z_ p1 (by omega) nd az') (by have:=pe nd az';omega)
 have cnt:=pe nd az'
 refine⟨aD w,?_,⟨bQ w,fun a ha=>az' a (inOrd_mem.mp ha).2,by omega⟩,by omega,by omega⟩
 have g:fA [.int cell,.int 6]=(iW [.sh (.int cell),.sh (.int 6),.no,.no,.no,.no]).bind fun a=>match a.2 with |.rt r=>bS r |.nx=>some (.sh .none) |_=>none:=rfl
 rw[g,iW,st]
 simp only[aN,p2,Option.map_some,Option.bind_some,bS]
 rfl
theorem Ix(v:Nat)(one:List Nat):dq [.sh (cX v),.sh (af one)]=some (decide (v∈one),[.sh (cX v),.sh (af one)]):=Es rfl rfl (BP one v)
theorem Ev(one:List Nat):∀(v:List Nat) (x:Sl),cf di dq dm (v.map cX) [x,.sh (af one)]=some ((v.filter fun a=>decide (a∈one)).map cX)
 |[],x=>rfl
 |a::v,x=>by
  have t:di (cX a) [x,.sh (af one)]=some [.sh (cX a),.sh (af one)]:=rfl
  have k:=vS (elt:=dm) t (Ix a one) rfl (Ev one v _)
  rw[List.map_cons,k,List.filter_cons]
  split <;> rfl
def Gp(one v:List Nat):Bool:= !decide (∀x∈v,x∉one)
theorem Ga(one v:List Nat):decide ((0:Int) < ((v.filter fun a=>decide (a∈one)).length:Int))=Gp one v:=by
 unfold Gp
 rw[←decide_not]
 refine decide_eq_decide.mpr ⟨fun h z=>?_,fun h=>?_⟩
 ·have:v.filter (fun a=>decide (a∈one))=[]:=List.filter_eq_nil_iff.mpr fun a ha=>by simpa using z a ha
  rw[this]at h
  simp at h
 ·have:v.filter (fun a=>decide (a∈one))≠[]:=fun z=>h fun x hx=>by
   have:=List.filter_eq_nil_iff.mp z x hx
   simpa using this
  have:=List.length_pos_iff.mpr this
  omega
theorem Iy(one v:List Nat)(hv:v.length≤1000):dr [.sh (af v),.sh (af one)]=some (.sh (.bool (Gp one v)),[.sh (af v),.sh (af one)]):=by
 have it:aQ (aa 0) [.sh (af v),.sh (af one)]=some (v.map cX,[.sh (af v),.sh (af one)]):=by
  simp only[aQ,aa,af,List.getElem?_cons_zero,frz,Option.bind_some,uw]
 have hl:(v.filter fun a=>decide (a∈one)).length≤v.length:=List.length_filter_le _ _
 have k:=gv (js:=[none,some 1]) it (Ev one v .no) (kI _) (by rw[List.length_map];omega)
 have lb:(v.filter fun a=>decide (a∈one)).length≤1000000:=by omega
 have q:=Ga one v
 have l:bY eK (ae false (ba [none,some 1] (aQ (aa 0)) di dq dm) ak) [.sh (af v),.sh (af one)]=some (.sh (.int ((v.filter fun a=>decide (a∈one)).length:Int)),[.sh (af v),.sh (af one)]):=by
  simp only[bY,Et k,Option.bind_some,cb,look,Sl.val,Option.map_some,eK,List.length_map,lb,if_true]
 unfold dr
 generalize bY eK (ae false (ba [none,some 1] (aQ (aa 0)) di dq dm) ak)=f at l ⊢
 simp only[ag,l,Sl.isBr,Bool.false_and,Bool.false_eq_true,pC,fD,look,Sl.val,iQ,Cm.i,Cm.s,Option.bind_some,if_false,q,Option.map_some]
theorem Ew(one:List Nat):∀(L:List (List Nat)) (x:Sl),(∀v∈L,v.length≤1000)→cf eY bK dr (L.map af) [x,.sh (af one)]=some (L.map fun v=>PyData.bool (Gp one v))
 |[],x,_=>rfl
 |v::L,x,h=>by
  have t:eY (af v) [x,.sh (af one)]=some [.sh (af v),.sh (af one)]:=rfl
  exact lh t (Iy one v (h v (List.mem_cons_self ..))) (Ew one L _ fun u hu=>h u (List.mem_cons_of_mem _ hu))
theorem I0(L:List (List Nat))(one:List Nat)(x1 x2:Sl)(h:∀v∈L,v.length≤1000)(hl:L.length≤1000):dw (bY wA (ae false (ba [none,some 3] (aQ (aa 0)) eY bK dr) ak)) [.sh (.list (L.map af)),x1,x2,.sh (af one)]=some (NhFam.fk L one,[.sh (.list (L.map af)),x1,x2,.sh (af one)]):=by
 have k:=gv (js:=[none,some 3]) (it:=aQ (aa 0)) (E:=[.sh (.list (L.map af)),x1,x2,.sh (af one)]) rfl (Ew one L .no h) (oS _ L) (by rw[List.length_map];omega)
 have bo:=mi (fun v=>Gp one v) L
 have al:(L.map fun v=>Gp one v).all id=NhFam.fk L one:=by
  rw[List.all_map]
  rfl
 simp only[dw,bY,Et k,Option.bind_some,Option.map_some,cb,look,Sl.val,wA,bo,al,i_]
theorem Gb(L:List (List Nat))(x1:Sl)(h:∀v∈L,v.length≤1000)(hl:L.length≤1000):∀(S K:List (List Nat)) (a:Sl),K.length+S.length≤2000→∃a',bb cD bW (S.map af) [.sh (.list (L.map af)),x1,.ow (K.map af),a]=some ([.sh (.list (L.map af)),x1,.ow ((K++S.filter (NhFam.fk L)).map af),a'],.nx)
 |[],K,a,_=>⟨a,by rw[List.filter_nil,List.append_nil];rfl⟩
 |w::S,K,a,hk=>by
  simp only[List.length_cons]at hk
  have c:=I0 L w x1 (.ow (K.map af)) h hl
  have tg:cD (af w) [.sh (.list (L.map af)),x1,.ow (K.map af),a]=some [.sh (.list (L.map af)),x1,.ow (K.map af),.sh (af w)]:=rfl
  cases q:NhFam.fk L w with
  |true=>
   rw[q]at c
   have b1:K.length < 1000000:=by omega
   have st:(cD (af w) [.sh (.list (L.map af)),x1,.ow (K.map af),a]).bind bW=some ([.sh (.list (L.map af)),x1,.ow ((K++[w]).map af),.sh (af w)],.nx):=by
    rw[tg,Option.bind_some,bW]
    refine jS c ?_
    simp only[bU,aU,List.getElem?_cons_succ,List.getElem?_cons_zero,aa,frz,Option.bind_some,List.length_map,b1,List.set_cons_succ,List.set_cons_zero,if_true,Option.map_some,List.map_append,List.map_cons,List.map_nil]
   obtain⟨a',e⟩:=Gb L x1 h hl S (K++[w]) (.sh (af w)) (by simp;omega)
   refine⟨a',?_⟩
   rw[List.map_cons,bb,st,List.filter_cons,q,if_pos rfl,show K++w::S.filter (NhFam.fk L)=(K++[w])++S.filter (NhFam.fk L) by simp]
   exact e
  |false=>
   rw[q]at c
   have st:(cD (af w) [.sh (.list (L.map af)),x1,.ow (K.map af),a]).bind bW=some ([.sh (.list (L.map af)),x1,.ow (K.map af),.sh (af w)],.nx):=by
    rw[tg,Option.bind_some,bW]
    exact h9 c rfl
   obtain⟨a',e⟩:=Gb L x1 h hl S K (.sh (af w)) (by omega)
   refine⟨a',?_⟩
   rw[List.map_cons,bb,st,List.filter_cons,q,if_neg (by simp)]
   exact e
theorem rG{U:List Nat}{L:List (List Nat)}(r:Rul U L):cm [.list (L.map af),af U]=some (.ow ((mt L).map af)):=by
 have u:=r.u
 have ll:=r.w.len
 have G:∀w,w∈(NhFam.eP U).filter (NhFam.fk L)↔NhFam.Sub U w∧NhFam.jK L w:=fun w=>by
  rw[List.mem_filter,NhFam.gY u.srt,NhFam.sY]
 have tu:NhFam.Told U (NhFam.aH ((NhFam.eP U).filter (NhFam.fk L))) (NhFam.jK L):=NhFam.qQ u.srt u.srt (NhFam.le.refl U) (fun v w _ _ l h z hz=>by obtain⟨x,a,b⟩:=h z hz;exact⟨x,a,l x b⟩) G fun w _ h=>NhFam.sZ (fun v hv=>(r.sub v hv).2) h
 have eq:NhFam.aH ((NhFam.eP U).filter (NhFam.fk L))=mt L:=tu.uniq r.meet fun w _=>Iff.rfl
 have few:=uC u (NhFam.fk L)
 have pl:=lq u (F:=(NhFam.eP U).filter (NhFam.fk L)) (fun v hv=>((G v).mp hv).1) (by omega)
 rw[eq]at pl
 have al:(NhFam.eP U).length≤1024:=by
  have:=uC u (fun _=>true)
  rwa [List.filter_eq_self.mpr (fun _ _=>rfl)]at this
 obtain⟨a,e⟩:=Gb L (.sh (af U)) (fun v hv=>by have:=u.short (r.sub v hv);omega) (by omega) (NhFam.eP U) [] .no (by simp;omega)
 rw[List.nil_append]at e
 have s1:aB 2 (bD aZ) [.sh (.list (L.map af)),.sh (af U),.no,.no]=some ([.sh (.list (L.map af)),.sh (af U),.ow [],.no],.nx):=by simp only[aB,bD,aZ,af,Option.bind_some,List.length_nil,Nat.reduceLeDiff,if_true,PL.settle,frz,frzAll,List.length_cons,Nat.zero_add,Nat.reduceAdd,Nat.reduceLT,List.set_cons_succ,List.set_cons_zero]
 have c2:aj cr (ae false (aa 1) ak) [.sh (.list (L.map af)),.sh (af U),.ow [],.no]=some (.ow ((NhFam.eP U).map af),[.sh (.list (L.map af)),.sh (af U),.ow [],.no]):=aG (ss:=[.sh (af U)]) rfl rfl (by rw[pk];exact uA U u.len)
 have fo:cw (aQ (aj cr (ae false (aa 1) ak))) cD bW [.sh (.list (L.map af)),.sh (af U),.ow [],.no]=some ([.sh (.list (L.map af)),.sh (af U),.ow (((NhFam.eP U).filter (NhFam.fk L)).map af),a],.nx):=by
  unfold cw
  rw[Cb c2,Option.bind_some]
  exact e
 have c3:aj bJ (ae false (aa 2) ak) [.sh (.list (L.map af)),.sh (af U),.ow (((NhFam.eP U).filter (NhFam.fk L)).map af),a]=some (.ow ((mt L).map af),[.sh (.list (L.map af)),.sh (af U),.ow (((NhFam.eP U).filter (NhFam.fk L)).map af),a]):=aG (ss:=[.al 2]) rfl rfl pl
 have g:cm [.list (L.map af),af U]=(gI [.sh (.list (L.map af)),.sh (af U),.no,.no]).bind fun a=>match a.2 with |.rt r=>bS r |.nx=>some (.sh .none) |_=>none:=rfl
 have fl:=cA (mt L)
 rw[g,gI,aE s1,aE fo]
 simp only[aN,c3,Option.map_some,Option.bind_some,bS,bF,fl,if_true]
def bt(v:Int)(j:Nat):Bool:=decide (Builtin.bitAnd (v / 2 ^ j) 1=1)
theorem Hs(v:Int)(j:Nat)(x:Sl):fM [.sh (.int (j:Int)),x,.sh (.int v)]=some (bt v j,[.sh (.int (j:Int)),x,.sh (.int v)]):=by
 have hj:(0:Int)≤(j:Int):=by omega
 unfold bt
 simp only[fM,cV,ag,aa,List.getElem?_cons_succ,List.getElem?_cons_zero,Sl.isBr,Bool.false_and,Bool.false_eq_true,wy,fD,look,Sl.val,pS,if_false,Option.bind_some,hj,decide_true,Int.toNat_natCast,if_true,Option.map_some,pC,tZ,hZ,bX]
theorem Ht(U:List Nat)(j a:Nat)(x:Sl)(h:U[j]? =some a)(hl:U.length≤1000):fL [.sh (.int (j:Int)),.sh (af U),x]=some (.sh (cX a),[.sh (.int (j:Int)),.sh (af U),x]):=by
 have at_:atI (⟨U.toArray⟩:Str).cps.toList (j:Int)=some a:=by rw[jG];exact h
 have lb:(⟨U.toArray⟩:Str).length≤1000000:=by rw[nv];omega
 unfold af cX
 simp only[fL,ag,aa,List.getElem?_cons_succ,List.getElem?_cons_zero,Sl.isBr,Bool.false_and,Bool.false_eq_true,jf,look,Sl.val,gJ,dO,if_false,Option.bind_some,lb,if_true,at_,Option.map_some]
def oT(v:Int):List Nat→Nat→List Nat
 |[],_=>[]
 |a::w,lo=>if bt v lo then a::oT v w (lo+1)else oT v w (lo+1)
theorem oh(v:Int):∀(w:List Nat) (lo:Nat),(oT v w lo).Sublist w
 |[],_=>List.Sublist.slnil
 |a::w,lo=>by
  rw[oT]
  split
  ·exact(oh v w _).cons₂ a
  ·exact(oh v w _).cons a
theorem Ci(v:Int)(U:List Nat)(hl:U.length≤1000):∀(w:List Nat) (lo:Nat) (x:Sl),U.drop lo=w→cf gD fM fL (kl lo w.length) [x,.sh (af U),.sh (.int v)]=some ((oT v w lo).map cX)
 |[],lo,x,_=>rfl
 |a::w,lo,x,h=>by
  have hx:U[lo]? =some a:=by rw[←List.head?_drop,h];rfl
  have hw:U.drop (lo+1)=w:=by rw[←List.tail_drop,h];rfl
  have t:gD (.int (lo:Int)) [x,.sh (af U),.sh (.int v)]=some [.sh (.int (lo:Int)),.sh (af U),.sh (.int v)]:=rfl
  have ih:=Ci v U hl w (lo+1) (.sh (.int (lo:Int))) hw
  rw[show((lo+1:Nat):Int)=(lo:Int)+1 by omega]at ih
  have k:=vS t (Hs v lo _) (Ht U lo a _ hx hl) ih
  rw[List.length_cons,kq,k,oT]
  split <;> rfl
theorem Hu(v:Int)(U:List Nat)(hl:U.length≤1000)(x0 x1 x3 x4 x5 x7:Sl):eN "" (ba [none,some 2,some 6] (il (ae false (bY eK (ae false (aa 2) ak)) ak)) gD fM fL) [x0,x1,.sh (af U),x3,x4,x5,.sh (.int v),x7]=some (.sh (af (oT v U 0)),[x0,x1,.sh (af U),x3,x4,x5,.sh (.int v),x7]):=by
 have l:=w_ (E:=[x0,x1,.sh (af U),x3,x4,x5,.sh (.int v),x7]) (f:=aa 2) rfl (show U.length≤1000000 by omega)
 have i1:=rj l rfl hl
 have sl:=(oh v U 0).length_le
 have c:=Ci v U hl U 0 .no rfl
 have p1:=gv (js:=[none,some 2,some 6]) i1 c (kI _) (by rw[List.length_map];omega)
 exact qc p1 (by omega)
def Drn(U:List Nat)(O:List (List Nat)):Prop:=∀w∈O,w≠[]∧w.Sublist U
theorem Drn.app{U:List Nat}{A B:List (List Nat)}(a:Drn U A)(b:Drn U B):Drn U (A++B):=fun w h=>(List.mem_append.mp h).elim (a w) (b w)
theorem Gc(cell:Int)(k:Nat)(hk:k≤100)(x0 x1 x2 x3 x6 x7:Sl):∃v:Int,∀r:de,aA (aB 6 (ag wy false (ag cJ false (aa 4) (pC (.int 3))) (ag hW false (pC (.int 6)) (aa 5)))) (aA (bg (cV (ag (fD (iQ .lt)) false (bY rL (ae false (aa 4) ak)) (ag qo false (pC (.int 10)) (pC (.int 18))))) (aB 6 (aj ck (ae false (aa 4) (ae false (ag aT false (pC (.int 30)) (aa 5)) ak)))) aL) r) [x0,x1,x2,x3,.sh (.int cell),.sh (.int (k:Int)),x6,x7]=r [x0,x1,x2,x3,.sh (.int cell),.sh (.int (k:Int)),.sh (.int v),x7]:=by
 obtain⟨z,ez⟩:=qY cell (30+k) (by omega)
 rw[show((30+k:Nat):Int)=30+(k:Int) by omega]at ez
 have d3:oX 3=true:=by decide
 have m6:gW 6 (k:Int)=true:=kU (by decide) (by decide)
 have h6:(0:Int)≤6*(k:Int):=by omega
 obtain⟨v0,s1⟩:∃v0:Int,aB 6 (ag wy false (ag cJ false (aa 4) (pC (.int 3))) (ag hW false (pC (.int 6)) (aa 5))) [x0,x1,x2,x3,.sh (.int cell),.sh (.int (k:Int)),x6,x7]=some ([x0,x1,x2,x3,.sh (.int cell),.sh (.int (k:Int)),.sh (.int v0),x7],.nx):=by
  simp only[aB,ag,aa,List.getElem?_cons_succ,List.getElem?_cons_zero,Sl.isBr,Bool.false_and,Bool.false_eq_true,pC,cJ,fD,look,Sl.val,pS,Option.bind_some,if_false,d3,if_true,Option.map_some,hW,gJ,dO,Bool.not_false,Bool.true_or,Bool.and_true,wy,m6,h6,decide_true,PL.settle,frz,frzAll,List.length_cons,List.length_nil,Nat.zero_add,Nat.reduceAdd,Nat.reduceLT,List.set_cons_succ,List.set_cons_zero]
  exact⟨_,rfl⟩
 by_cases c1:(if cell < 0 then -cell else cell) < 1000000000000000000
 ·have c:cV (ag (fD (iQ .lt)) false (bY rL (ae false (aa 4) ak)) (ag qo false (pC (.int 10)) (pC (.int 18)))) [x0,x1,x2,x3,.sh (.int cell),.sh (.int (k:Int)),.sh (.int v0),x7]=some (true,[x0,x1,x2,x3,.sh (.int cell),.sh (.int (k:Int)),.sh (.int v0),x7]):=by
   simp only[cV,ag,bY,ae,aa,List.getElem?_cons_succ,List.getElem?_cons_zero,Sl.isBr,Bool.false_and,Bool.false_eq_true,ak,Option.map_some,if_false,Option.bind_some,rL,cb,look,Sl.val,pC,qo,fD,pS,Int.reducePow,Int.reduceNeg,Int.reduceLE,Int.reduceLT,and_self,decide_true,Int.reduceToNat,if_true,iQ,Cm.i,Cm.s,c1]
  have ad:ag aT false (pC (.int 30)) (aa 5) [x0,x1,x2,x3,.sh (.int cell),.sh (.int (k:Int)),.sh (.int v0),x7]=some (.sh (.int (30+(k:Int))),[x0,x1,x2,x3,.sh (.int cell),.sh (.int (k:Int)),.sh (.int v0),x7]):=jT rfl rfl
  have m:aj ck (ae false (aa 4) (ae false (ag aT false (pC (.int 30)) (aa 5)) ak)) [x0,x1,x2,x3,.sh (.int cell),.sh (.int (k:Int)),.sh (.int v0),x7]=some (.sh (.int z),[x0,x1,x2,x3,.sh (.int cell),.sh (.int (k:Int)),.sh (.int v0),x7]):=aG (ss:=[.sh (.int cell),.sh (.int (30+(k:Int)))]) (FR rfl ad) rfl ez
  have s2:bg (cV (ag (fD (iQ .lt)) false (bY rL (ae false (aa 4) ak)) (ag qo false (pC (.int 10)) (pC (.int 18))))) (aB 6 (aj ck (ae false (aa 4) (ae false (ag aT false (pC (.int 30)) (aa 5)) ak)))) aL [x0,x1,x2,x3,.sh (.int cell),.sh (.int (k:Int)),.sh (.int v0),x7]=some ([x0,x1,x2,x3,.sh (.int cell),.sh (.int (k:Int)),.sh (.int z),x7],.nx):=jS c (gR m (show 6 < 8 by decide))
  exact⟨z,fun r=>by rw[aE s1,aE s2]⟩
 ·have c:cV (ag (fD (iQ .lt)) false (bY rL (ae false (aa 4) ak)) (ag qo false (pC (.int 10)) (pC (.int 18)))) [x0,x1,x2,x3,.sh (.int cell),.sh (.int (k:Int)),.sh (.int v0),x7]=some (false,[x0,x1,x2,x3,.sh (.int cell),.sh (.int (k:Int)),.sh (.int v0),x7]):=by
   simp only[cV,ag,bY,ae,aa,List.getElem?_cons_succ,List.getElem?_cons_zero,Sl.isBr,Bool.false_and,Bool.false_eq_true,ak,Option.map_some,if_false,Option.bind_some,rL,cb,look,Sl.val,pC,qo,fD,pS,Int.reducePow,Int.reduceNeg,Int.reduceLE,Int.reduceLT,and_self,decide_true,Int.reduceToNat,if_true,iQ,Cm.i,Cm.s,c1,decide_false]
  have s2:bg (cV (ag (fD (iQ .lt)) false (bY rL (ae false (aa 4) ak)) (ag qo false (pC (.int 10)) (pC (.int 18))))) (aB 6 (aj ck (ae false (aa 4) (ae false (ag aT false (pC (.int 30)) (aa 5)) ak)))) aL [x0,x1,x2,x3,.sh (.int cell),.sh (.int (k:Int)),.sh (.int v0),x7]=some ([x0,x1,x2,x3,.sh (.int cell),.sh (.int (k:Int)),.sh (.int v0),x7],.nx):=h9 c rfl
  exact⟨v0,fun r=>by rw[aE s1,aE s2]⟩
theorem Gd{E:List Sl}{f:bC}{u:List Nat}(hf:f E=some (.sh (af u),E)):cV (ag jX false f (pC (.str ""))) E=some (!decide (u=[]),E):=by
 have q:=yq u
 unfold af at hf
 simp only[cV,ag,hf,Sl.isBr,Bool.false_and,Bool.false_eq_true,pC,jX,fD,look,Sl.val,Option.bind_some,if_false,q,Option.map_some]
theorem Hv(U:List Nat)(hU:U.length≤1000)(cell:Int)(k:Nat)(hk:k≤100)(x0 x1 x5 x6 x7:Sl)(F:List (List Nat))(hF:F.length≤1000):∃(O:List (List Nat)) (v o:Sl),(gE (.int (k:Int)) [x0,x1,.sh (af U),.ow (F.map af),.sh (.int cell),x5,x6,x7]).bind gG=some ([x0,x1,.sh (af U),.ow ((F++O).map af),.sh (.int cell),.sh (.int (k:Int)),v,o],.nx)∧O.length≤1∧Drn U O:=by
 obtain⟨v,hv⟩:=Gc cell k hk x0 x1 (.sh (af U)) (.ow (F.map af)) x6 x7
 have s3:=gR (i:=7) (Hu v U hU x0 x1 (.ow (F.map af)) (.sh (.int cell)) (.sh (.int (k:Int))) x7) (show 7 < 8 by decide)
 have tg:gE (.int (k:Int)) [x0,x1,.sh (af U),.ow (F.map af),.sh (.int cell),x5,x6,x7]=some [x0,x1,.sh (af U),.ow (F.map af),.sh (.int cell),.sh (.int (k:Int)),x6,x7]:=rfl
 have c:=Gd (E:=[x0,x1,.sh (af U),.ow (F.map af),.sh (.int cell),.sh (.int (k:Int)),.sh (.int v),.sh (af (oT v U 0))]) (f:=aa 7) (u:=oT v U 0) rfl
 rw[tg,Option.bind_some,gG,hv,aE s3]
 by_cases h:oT v U 0=[]
 ·rw[decide_eq_true h]at c
  exact⟨[],_,_,by rw[List.append_nil];exact h9 c rfl,by simp,fun _ h=>by cases h⟩
 ·rw[decide_eq_false h]at c
  have b1:F.length < 1000000:=by omega
  refine⟨[oT v U 0],.sh (.int v),.sh (af (oT v U 0)),jS c ?_,by simp,fun w hw=>?_⟩
  ·show bU (aU 3 (aa 7)) [x0,x1,.sh (af U),.ow (F.map af),.sh (.int cell),.sh (.int (k:Int)),.sh (.int v),.sh (af (oT v U 0))]=_
   simp only[bU,aU,List.getElem?_cons_succ,List.getElem?_cons_zero,aa,frz,Option.bind_some,List.length_map,b1,List.set_cons_succ,List.set_cons_zero,if_true,Option.map_some,List.map_append,List.map_cons,List.map_nil]
  ·rw[List.mem_singleton.mp hw]
   exact⟨h,oh v U 0⟩
theorem Ex(U:List Nat)(hU:U.length≤1000)(cell:Int)(x0 x1:Sl):∀(n lo:Nat) (F:List (List Nat)) (x5 x6 x7:Sl),lo+n≤100→F.length+n≤1000→∃(O:List (List Nat)) (a v o:Sl),bb gE gG (kl lo n) [x0,x1,.sh (af U),.ow (F.map af),.sh (.int cell),x5,x6,x7]=some ([x0,x1,.sh (af U),.ow ((F++O).map af),.sh (.int cell),a,v,o],.nx)∧O.length≤n∧Drn U O
 | 0,lo,F,x5,x6,x7,_,_=>⟨[],x5,x6,x7,by rw[List.append_nil];rfl,Nat.le_refl _,fun _ h=>by cases h⟩
 |n+1,lo,F,x5,x6,x7,h1,h2=>by
  obtain⟨O,v,o,e,l,d⟩:=Hv U hU cell lo (by omega) x0 x1 x5 x6 x7 F (by omega)
  obtain⟨O2,a2,v2,o2,e2,l2,d2⟩:=Ex U hU cell x0 x1 n (lo+1) (F++O) (.sh (.int (lo:Int))) v o (by omega) (by rw[List.length_append];omega)
  rw[show((lo+1:Nat):Int)=(lo:Int)+1 by omega]at e2
  refine⟨O++O2,a2,v2,o2,?_,by rw[List.length_append];omega,d.app d2⟩
  rw[kq,bb,e,←List.append_assoc]
  exact e2
theorem Ey(U:List Nat)(hU:U.length≤1000)(x0 x1:Sl):∀(cs:List Int) (F:List (List Nat)) (x4 x5 x6 x7:Sl),F.length+3*cs.length≤1000→∃(O:List (List Nat)) (b a v o:Sl),bb gH eH (cs.map .int) [x0,x1,.sh (af U),.ow (F.map af),x4,x5,x6,x7]=some ([x0,x1,.sh (af U),.ow ((F++O).map af),b,a,v,o],.nx)∧O.length≤3*cs.length∧Drn U O
 |[],F,x4,x5,x6,x7,_=>⟨[],x4,x5,x6,x7,by rw[List.append_nil];rfl,Nat.le_refl _,fun _ h=>by cases h⟩
 |c::cs,F,x4,x5,x6,x7,h=>by
  simp only[List.length_cons]at h
  have m0:=Int.emod_nonneg c (show(3:Int)≠0 by decide)
  have m1:=Int.emod_lt_of_pos c (show(0:Int) < 3 by decide)
  obtain⟨n,hn⟩:∃n:Nat,1+c % 3=n:=⟨(1+c % 3).toNat,by omega⟩
  obtain⟨O,a,v,o,e,l,d⟩:=Ex U hU c x0 x1 n 0 F x5 x6 x7 (by omega) (by omega)
  have ad:ag aT false (pC (.int 1)) (ag gd false (aa 4) (pC (.int 3))) [x0,x1,.sh (af U),.ow (F.map af),.sh (.int c),x5,x6,x7]=some (.sh (.int (1+c % 3)),[x0,x1,.sh (af U),.ow (F.map af),.sh (.int c),x5,x6,x7]):=jT rfl (mf (f:=aa 4) (g:=pC (.int 3)) (y:=3) rfl rfl (by decide))
  have st:(gH (.int c) [x0,x1,.sh (af U),.ow (F.map af),x4,x5,x6,x7]).bind eH=some ([x0,x1,.sh (af U),.ow ((F++O).map af),.sh (.int c),a,v,o],.nx):=by
   show eH [x0,x1,.sh (af U),.ow (F.map af),.sh (.int c),x5,x6,x7]=_
   unfold eH cw
   rw[rj ad hn (by omega),Option.bind_some]
   exact e
  obtain⟨O2,b2,a2,v2,o2,e2,l2,d2⟩:=Ey U hU x0 x1 cs (F++O) (.sh (.int c)) a v o (by rw[List.length_append];omega)
  refine⟨O++O2,b2,a2,v2,o2,?_,by rw[List.length_append,List.length_cons];omega,d.app d2⟩
  rw[List.map_cons,bb,st,←List.append_assoc]
  exact e2
theorem v5{U:List Nat}(u:Uni U)(ns:List Int)(hl:ns.length≤63):∃O:List (List Nat),fZ [.list (ns.map .int),.int 1,af U]=some (.ow ((NhFam.aH (O++[U])).map af))∧Drn U O∧O.length≤192:=by
 have e0:=ti ns 1
 have uu:=u.len
 obtain⟨O,b,a,v,o,e,l,d⟩:=Ey U (by omega) (.sh (.list (ns.map .int))) (.sh (.int 1)) (ns.getD 1 0::ov ns (some (1+1)) (some (1+8))) [] .no .no .no .no (by have:=vb ns (some (1+1)) (some (1+8));simp only[List.length_nil,List.length_cons];omega)
 have lc:=vb ns (some ((1:Int)+1)) (some (1+8))
 have lb2:1+(ov ns (some ((1:Int)+1)) (some (1+8))).length≤1000000:=by omega
 refine⟨O,?_,d,by simp only[List.length_cons]at l;omega⟩
 have it:aQ (ag aT false (bD (aV (aj bP (ae false (aa 0) (ae false (aa 1) ak))) aZ)) (jU false (aa 0) (eI (ag aT false (aa 1) (pC (.int 1)))) (eI (ag aT false (aa 1) (pC (.int 8)))))) [.sh (.list (ns.map .int)),.sh (.int 1),.sh (af U),.ow [],.no,.no,.no,.no]=some ((ns.getD 1 0::ov ns (some (1+1)) (some (1+8))).map .int,[.sh (.list (ns.map .int)),.sh (.int 1),.sh (af U),.ow [],.no,.no,.no,.no]):=by
  have e0':bP [.list (ns.map .int),.int 1]=some (.sh (.int (ns.getD 1 0))):=e0
  simp only[aQ,ag,bD,aV,aj,ae,aa,List.getElem?_cons_zero,Sl.isBr,Bool.false_and,Bool.false_eq_true,ak,Option.map_some,if_false,Option.bind_some,List.getElem?_cons_succ,cb,look,Sl.val,e0',frz,aZ,List.length_cons,List.length_nil,Nat.zero_add,Nat.reduceLeDiff,if_true,jU,eI,pC,aT,gJ,dO,Bool.not_false,Bool.true_or,Bool.and_true,qA,zg,Bool.or_true,List.length_map,lb2,decide_true,List.cons_append,List.nil_append,List.map_cons]
 have s1:aB 3 (bD aZ) [.sh (.list (ns.map .int)),.sh (.int 1),.sh (af U),.no,.no,.no,.no,.no]=some ([.sh (.list (ns.map .int)),.sh (.int 1),.sh (af U),.ow [],.no,.no,.no,.no],.nx):=by
  unfold af
  simp only[aB,bD,aZ,Option.bind_some,List.length_nil,Nat.reduceLeDiff,if_true,PL.settle,frz,frzAll,List.length_cons,Nat.zero_add,Nat.reduceAdd,Nat.reduceLT,List.set_cons_succ,List.set_cons_zero]
 rw[List.nil_append]at e
 have fo:cw (aQ (ag aT false (bD (aV (aj bP (ae false (aa 0) (ae false (aa 1) ak))) aZ)) (jU false (aa 0) (eI (ag aT false (aa 1) (pC (.int 1)))) (eI (ag aT false (aa 1) (pC (.int 8))))))) gH eH [.sh (.list (ns.map .int)),.sh (.int 1),.sh (af U),.ow [],.no,.no,.no,.no]=some ([.sh (.list (ns.map .int)),.sh (.int 1),.sh (af U),.ow (O.map af),b,a,v,o],.nx):=by
  unfold cw
  rw[it,Option.bind_some]
  exact e
 have lO:O.length≤192:=by simp only[List.length_cons]at l;omega
 have lb3:O.length+1≤1000000:=by omega
 have p3:ag aT false (aa 3) (bD (aV (aa 2) aZ)) [.sh (.list (ns.map .int)),.sh (.int 1),.sh (af U),.ow (O.map af),b,a,v,o]=some (.ow ((O++[U]).map af),[.sh (.list (ns.map .int)),.sh (.int 1),.sh (af U),.ow (O.map af),b,a,v,o]):=by
  simp only[ag,aa,List.getElem?_cons_succ,List.getElem?_cons_zero,Sl.isBr,Bool.false_and,Bool.false_eq_true,bD,aV,frz,aZ,Option.map_some,aT,look,Sl.val,gJ,dO,if_false,Option.bind_some,List.length_cons,List.length_nil,Nat.zero_add,Nat.reduceLeDiff,if_true,Option.any_some,Bool.not_false,Bool.true_or,Bool.and_true,List.length_map,lb3,decide_true,List.map_append,List.map_cons,List.map_nil]
 have pl:=lq u (F:=O++[U]) (fun w hw=>by
  rcases List.mem_append.mp hw with q |q
  ·exact⟨List.Pairwise.sublist (d w q).2 u.srt,fun x hx=>(d w q).2.subset hx⟩
  ·rw[List.mem_singleton.mp q];exact⟨u.srt,NhFam.le.refl U⟩) (by simp;omega)
 have c4:aj bJ (ae false (ag aT false (aa 3) (bD (aV (aa 2) aZ))) ak) [.sh (.list (ns.map .int)),.sh (.int 1),.sh (af U),.ow (O.map af),b,a,v,o]=some (.ow ((NhFam.aH (O++[U])).map af),[.sh (.list (ns.map .int)),.sh (.int 1),.sh (af U),.ow (O.map af),b,a,v,o]):=aG (ss:=[.ow ((O++[U]).map af)]) (Et p3) rfl pl
 have g:fZ [.list (ns.map .int),.int 1,af U]=(jO [.sh (.list (ns.map .int)),.sh (.int 1),.sh (af U),.no,.no,.no,.no,.no]).bind fun a=>match a.2 with |.rt r=>bS r |.nx=>some (.sh .none) |_=>none:=rfl
 have fl:=cA (NhFam.aH (O++[U]))
 rw[g,jO,aE s1,aE fo]
 simp only[aN,c4,Option.map_some,Option.bind_some,bS,bF,fl,if_true]
theorem Cj(w:List Nat):(w.map gu).map PyData.str=w.map cX:=by rw[List.map_map];rfl
theorem Ad{E:List Sl}{f:bC}{s:Sl}{w:List Nat}(hf:f E=some (s,E))(hs:look E s=some (.list (w.map cX)))(h:∀y∈w,az y)(hl:w.length≤3900):eN "" (dC f) E=some (.sh (af (aD w)),E):=by
 have d:=l_ fun y hy=>gQ (h y hy)
 have d2:(w.map gu).length < 4000∧(kQ (w.map gu)).length < 64:=⟨by rw[List.length_map];omega,Nat.lt_of_le_of_lt (qa fun y hy=>gQ (h y hy)) (by decide)⟩
 have so:=n_ w
 refine qc ?_ (mJ w)
 unfold dC
 simp only[hf,Option.bind_some,hs,so,d2,and_self,if_true,d,Cj]
theorem Ae{E:List Sl}{f:bC}{w:List Nat}(hf:f E=some (.sh (af w),E))(h:∀y∈w,az y)(hl:w.length≤3900):eN "" (dC f) E=some (.sh (af (aD w)),E):=by
 have d:=l_ fun y hy=>gQ (h y hy)
 have d2:(w.map gu).length < 4000∧(kQ (w.map gu)).length < 64:=⟨by rw[List.length_map];omega,Nat.lt_of_le_of_lt (qa fun y hy=>gQ (h y hy)) (by decide)⟩
 refine qc ?_ (mJ w)
 unfold dC
 unfold af at hf
 simp only[hf,Option.bind_some,look,Sl.val,Er,d2,and_self,if_true,d,Cj]
def DM(cell:Int)(n:Nat):List Nat:=(List.range' 0 n).map (iE cell 3)
theorem yA(cell:Int):∀(n lo:Nat) (x:Sl),cf ju bK hJ (kl lo n) [x,.sh (.str "abcdefghijklmnopqrstuvwxyz"),.sh (.int cell)]=some (((List.range' lo n).map (iE cell 3)).map cX)
 | 0,lo,x=>rfl
 |n+1,lo,x=>by
  have e:=yA cell n (lo+1) (.sh (.int lo))
  have m:gW 3 (lo:Int)=true:=kU (by omega) (by omega)
  have s:hJ [.sh (.int lo),.sh (.str "abcdefghijklmnopqrstuvwxyz"),.sh (.int cell)]=some (.sh (cX (97+((cell+3*(lo:Int)) % 26).toNat)),[.sh (.int lo),.sh (.str "abcdefghijklmnopqrstuvwxyz"),.sh (.int cell)]):=by
   simp only[hJ,ag,aa,List.getElem?_cons_succ,List.getElem?_cons_zero,Sl.isBr,Bool.false_and,Bool.false_eq_true,pC,hW,look,Sl.val,gJ,dO,if_false,Option.bind_some,Bool.not_false,Bool.true_or,Bool.and_true,aT,gd,fD,pS,jf,m,if_true,Int.reduceLT,decide_true,Option.map_some,Br,Hf,cX]
  rw[Int.mul_comm 3]at s
  have t:ju (.int lo) [x,.sh (.str "abcdefghijklmnopqrstuvwxyz"),.sh (.int cell)]=some [.sh (.int lo),.sh (.str "abcdefghijklmnopqrstuvwxyz"),.sh (.int cell)]:=rfl
  rw[show((lo+1:Nat):Int)=(lo:Int)+1 by omega]at e
  rw[kq,List.range'_succ,List.map_cons,List.map_cons]
  exact lh t s e
theorem DN(cell:Int)(n:Nat):∀a∈DM cell n,az a:=fun a ha=>by
 obtain⟨k,_,rfl⟩:=List.mem_map.mp ha
 exact tD cell 3 k
theorem Ck(cell:Int)(n:Nat):(DM cell n).length=n:=by simp[DM]
theorem DO{α:Type}(P:List α)(i n:Nat)(h:i+n≤P.length):ov P (some (i:Int)) (some ((i+n:Nat):Int))=(P.drop i).take n:=by
 have l1:(P.take i).length=i:=by rw[List.length_take];omega
 have l2:((P.drop i).take n).length=n:=by rw[List.length_take,List.length_drop];omega
 refine Bt (a:=P.take i) (b:=(P.drop i).drop n) ?_ (by rw[l1]) (by rw[l1,l2];omega)
 rw[List.append_assoc,List.take_append_drop,List.take_append_drop]
theorem DP{E:List Sl}{f a b:bC}{j:Nat}{P:List Nat}{x y:Int}(hf:f E=some (.al j,E))(hj:E[j]? =some (.ow (P.map cX)))(ha:a E=some (.sh (.int x),E))(hb:b E=some (.sh (.int y),E)):jU false f (eI a) (eI b) E=some (.ow ((ov P (some x) (some y)).map cX),E):=by
 simp only[jU,hf,Sl.isBr,Bool.false_and,Bool.false_eq_true,eI,look,Sl.val,gJ,dO,if_false,Option.bind_some,ha,hb,hj,Option.any_some,Bool.not_false,qA,Bool.true_or,if_true]
theorem Ge(P:List Nat)(k m i n:Nat)(v:Int)(hk:k≤1000)(hi:(k:Int)*(m:Int)=(i:Int))(hn:1+v % (m:Int)=(n:Int))(m0:1≤m)(h:i+n≤P.length)(x0 x2 x4 x7:Sl):jU false (aa 3) (eI (ag hW false (aa 5) (aa 1))) (eI (ag aT false (ag aT false (ag hW false (aa 5) (aa 1)) (pC (.int 1))) (ag gd false (aa 6) (aa 1)))) [x0,.sh (.int (m:Int)),x2,.ow (P.map cX),x4,.sh (.int (k:Int)),.sh (.int v),x7]=some (.ow (((P.drop i).take n).map cX),[x0,.sh (.int (m:Int)),x2,.ow (P.map cX),x4,.sh (.int (k:Int)),.sh (.int v),x7]):=by
 have mm:gW (k:Int) (m:Int)=true:=kU (by omega) (by omega)
 have a:=qZ (g:=aa 5) (f:=aa 1) (E:=[x0,.sh (.int (m:Int)),x2,.ow (P.map cX),x4,.sh (.int (k:Int)),.sh (.int v),x7]) rfl rfl mm
 have b:=jT (jT (f:=pC (.int 1)) (y:=1) a rfl) (mf (f:=aa 6) (g:=aa 1) (E:=[x0,.sh (.int (m:Int)),x2,.ow (P.map cX),x4,.sh (.int (k:Int)),.sh (.int v),x7]) (x:=v) (y:=(m:Int)) rfl rfl (by omega))
 have e:(i:Int)+1+v % (m:Int)=((i+n:Nat):Int):=by omega
 rw[hi]at a
 rw[hi,e]at b
 have c:=DP (f:=aa 3) (j:=3) (P:=P) rfl rfl a b
 rw[DO P i n h]at c
 exact c
theorem Gf{E:List Sl}{f:bC}{j:Nat}{W:List Nat}(hf:f E=some (.al j,E))(hj:E[j]? =some (.ow (W.map cX))):jU false f (eI (pC (.int 1))) jY E=some (.ow ((W.drop 1).map cX),E):=by
 have c:=zh W (k:=1) (by decide)
 rw[show(1:Int).toNat=1 from rfl]at c
 simp only[jU,hf,Sl.isBr,Bool.false_and,Bool.false_eq_true,eI,pC,look,Sl.val,Option.bind_some,jY,gJ,dO,if_false,hj,Option.any_some,Bool.not_false,qA,c,Bool.true_or,if_true]
theorem DQ{E:List Sl}{f:bC}{j:Nat}{W:List Nat}(hf:f E=some (.al j,E))(hj:E[j]? =some (.ow (W.map cX)))(hl:W.length≤1000000):bY eK (ae false f ak) E=some (.sh (.int (W.length:Int)),E):=by
 simp only[bY,ae,hf,Sl.isBr,Bool.false_and,Bool.false_eq_true,ak,Option.map_some,if_false,Option.bind_some,eK,cb,look,hj,Sl.val,List.length_map]
theorem Gg{E:List Sl}{f g:bC}{j:Nat}{W:List Nat}{n a:Nat}(hf:f E=some (.al j,E))(hj:E[j]? =some (.ow (W.map cX)))(hg:g E=some (.sh (.int (n:Int)),E))(hn:W[n]? =some a):ag jf false f g E=some (.sh (cX a),E):=by
 have q:atI (W.map cX) (n:Int)=some (cX a):=by rw[jG,List.getElem?_map,hn];rfl
 have fl:dL (cX a)=true:=rfl
 simp only[ag,hf,Sl.isBr,Bool.false_and,Bool.false_eq_true,jf,look,Sl.val,gJ,dO,if_false,Option.bind_some,hg,hj,Option.any_some,q,Option.map_some]
theorem DR{E:List Sl}{f g:bC}{A B:List Nat}(hf:f E=some (.ow (A.map cX),E))(hg:g E=some (.ow (B.map cX),E))(hl:A.length+B.length≤1000000):ag aT false f g E=some (.ow ((A++B).map cX),E):=by
 simp only[ag,hf,Sl.isBr,Bool.false_and,Bool.false_eq_true,aT,look,Sl.val,gJ,dO,if_false,Option.bind_some,hg,Bool.not_false,Bool.true_or,Bool.and_true,List.length_map,hl,decide_true,if_true,List.map_append]
theorem DS{E:List Sl}{f:bC}{a:Nat}(hf:f E=some (.sh (cX a),E)):bD (aV f aZ) E=some (.ow ([a].map cX),E):=by
 unfold cX at hf
 simp only[bD,aV,hf,frz,aZ,Option.map_some,Option.bind_some,List.length_cons,List.length_nil,Nat.zero_add,Nat.reduceLeDiff,if_true,List.map_cons,cX,List.map_nil]
theorem Cl(cell:Int)(m:Nat)(m0:1≤m)(m1:m≤100)(P:List Nat)(hP:P.length=2*m)(az':∀a∈P,az a)(k:Nat)(hk:k < 2)(x2 x5 x6 x7:Sl)(F:List (List Nat))(hF:F.length≤1000):∃(w:List Nat) (v o:Sl),(fB (.int (k:Int)) [.sh (.int cell),.sh (.int (m:Int)),x2,.ow (P.map cX),.ow (F.map af),x5,x6,x7]).bind em=some ([.sh (.int cell),.sh (.int (m:Int)),x2,.ow (P.map cX),.ow ((F++[aD w]).map af),.sh (.int (k:Int)),v,o],.nx)∧w≠[]∧w.length≤m∧∀a∈w,az a:=by
 obtain⟨v,ev⟩:=qY cell (50+k) (by omega)
 rw[show((50+k:Nat):Int)=50+(k:Int) by omega]at ev
 have tg:fB (.int (k:Int)) [.sh (.int cell),.sh (.int (m:Int)),x2,.ow (P.map cX),.ow (F.map af),x5,x6,x7]=some [.sh (.int cell),.sh (.int (m:Int)),x2,.ow (P.map cX),.ow (F.map af),.sh (.int (k:Int)),x6,x7]:=rfl
 have ad:ag aT false (pC (.int 50)) (aa 5) [.sh (.int cell),.sh (.int (m:Int)),x2,.ow (P.map cX),.ow (F.map af),.sh (.int (k:Int)),x6,x7]=some (.sh (.int (50+(k:Int))),[.sh (.int cell),.sh (.int (m:Int)),x2,.ow (P.map cX),.ow (F.map af),.sh (.int (k:Int)),x6,x7]):=jT rfl rfl
 have c6:aj ck (ae false (aa 0) (ae false (ag aT false (pC (.int 50)) (aa 5)) ak)) [.sh (.int cell),.sh (.int (m:Int)),x2,.ow (P.map cX),.ow (F.map af),.sh (.int (k:Int)),x6,x7]=some (.sh (.int v),[.sh (.int cell),.sh (.int (m:Int)),x2,.ow (P.map cX),.ow (F.map af),.sh (.int (k:Int)),x6,x7]):=aG (ss:=[.sh (.int cell),.sh (.int (50+(k:Int)))]) (FR rfl ad) rfl ev
 have s6:aB 6 (aj ck (ae false (aa 0) (ae false (ag aT false (pC (.int 50)) (aa 5)) ak))) [.sh (.int cell),.sh (.int (m:Int)),x2,.ow (P.map cX),.ow (F.map af),.sh (.int (k:Int)),x6,x7]=some ([.sh (.int cell),.sh (.int (m:Int)),x2,.ow (P.map cX),.ow (F.map af),.sh (.int (k:Int)),.sh (.int v),x7],.nx):=gR c6 (show 6 < 8 by decide)
 have v0:=Int.emod_nonneg v (show(m:Int)≠0 by omega)
 have v1:=Int.emod_lt_of_pos v (show(0:Int) < (m:Int) by omega)
 obtain⟨n,hn⟩:∃n:Nat,1+v % (m:Int)=(n:Int):=⟨(1+v % (m:Int)).toNat,by omega⟩
 have km:k*m≤m:=by
  rcases Nat.lt_or_ge k 1 with h |h
  ·have:k=0:=by omega
   subst this
   omega
  ·have:k=1:=by omega
   subst this
   omega
 have c7:=Ge P k m (k*m) n v (by omega) (by rw[Int.natCast_mul]) hn m0 (by omega) (.sh (.int cell)) x2 (.ow (F.map af)) x7
 have lW:((P.drop (k*m)).take n).length=n:=by rw[List.length_take,List.length_drop];omega
 have aW:∀a∈(P.drop (k*m)).take n,az a:=fun a ha=>az' a (List.mem_of_mem_drop (List.mem_of_mem_take ha))
 generalize (P.drop (k*m)).take n=W at c7 lW aW
 have s7:=jd (i:=7) c7 (show 7 < 8 by decide)
 simp only[List.set_cons_succ,List.set_cons_zero]at s7
 have fin:∀(w:List Nat) (o:Sl),w≠[]→w.length≤m→(∀a∈w,az a)→o=.ow (w.map cX)→bU (aU 4 (eN "" (dC (aa 7)))) [.sh (.int cell),.sh (.int (m:Int)),x2,.ow (P.map cX),.ow (F.map af),.sh (.int (k:Int)),.sh (.int v),o]=some ([.sh (.int cell),.sh (.int (m:Int)),x2,.ow (P.map cX),.ow ((F++[aD w]).map af),.sh (.int (k:Int)),.sh (.int v),o],.nx):=by
  intro w o _ lw aw ho
  subst ho
  have j:=Ad (E:=[.sh (.int cell),.sh (.int (m:Int)),x2,.ow (P.map cX),.ow (F.map af),.sh (.int (k:Int)),.sh (.int v),.ow (w.map cX)]) (f:=aa 7) (s:=.al 7) rfl rfl aw (by omega)
  have b1:F.length < 1000000:=by omega
  generalize eN "" (dC (aa 7))=f at j
  simp only[bU,aU,List.getElem?_cons_succ,List.getElem?_cons_zero,j,frz,Option.bind_some,List.length_map,b1,List.set_cons_succ,List.set_cons_zero,if_true,Option.map_some,List.map_append,List.map_cons,List.map_nil]
 have fd:=mK (E:=[.sh (.int cell),.sh (.int (m:Int)),x2,.ow (P.map cX),.ow (F.map af),.sh (.int (k:Int)),.sh (.int v),.ow (W.map cX)]) (f:=aa 6) (g:=pC (.int 11)) (x:=v) (y:=11) rfl rfl (by decide)
 have md:=mf fd (g:=pC (.int 2)) (y:=2) rfl (by decide)
 have eq:=vO md (g:=pC (.int 1)) (y:=1) rfl
 by_cases h:v / 11 % 2=1
 ·rw[decide_eq_true h]at eq
  have l7:=DQ (E:=[.sh (.int cell),.sh (.int (m:Int)),x2,.ow (P.map cX),.ow (F.map af),.sh (.int (k:Int)),.sh (.int v),.ow (W.map cX)]) (f:=aa 3) (j:=3) (W:=P) rfl rfl (by omega)
  have f22:=mK (E:=[.sh (.int cell),.sh (.int (m:Int)),x2,.ow (P.map cX),.ow (F.map af),.sh (.int (k:Int)),.sh (.int v),.ow (W.map cX)]) (f:=aa 6) (g:=pC (.int 22)) (x:=v) (y:=22) rfl rfl (by decide)
  have m22:=mf f22 l7 (by omega)
  have j0:=Int.emod_nonneg (v / 22) (show(P.length:Int)≠0 by omega)
  have j1:=Int.emod_lt_of_pos (v / 22) (show(0:Int) < (P.length:Int) by omega)
  obtain⟨j,hj⟩:∃j:Nat,v / 22 % (P.length:Int)=(j:Int):=⟨(v / 22 % (P.length:Int)).toNat,by omega⟩
  rw[hj]at m22
  obtain⟨a,ha⟩:∃a,P[j]? =some a:=⟨_,List.getElem?_eq_getElem (by omega)⟩
  have ix:=Gg (f:=aa 3) (j:=3) (W:=P) rfl rfl m22 ha
  have l1:=DS ix
  have d1:=Gf (E:=[.sh (.int cell),.sh (.int (m:Int)),x2,.ow (P.map cX),.ow (F.map af),.sh (.int (k:Int)),.sh (.int v),.ow (W.map cX)]) (f:=aa 7) (j:=7) (W:=W) rfl rfl
  have dl:(W.drop 1).length=n - 1:=by rw[List.length_drop];omega
  have a7:=DR d1 l1 (by simp only[List.length_cons,List.length_nil];omega)
  have s8:=jd (i:=7) a7 (show 7 < 8 by decide)
  simp only[List.set_cons_succ,List.set_cons_zero]at s8
  have i8:=jS eq (a:=aB 7 (ag aT false (jU false (aa 7) (eI (pC (.int 1))) jY) (bD (aV (ag jf false (aa 3) (ag gd false (ag cJ false (aa 6) (pC (.int 22))) (bY eK (ae false (aa 3) ak)))) aZ)))) (b:=aL) s8
  refine⟨W.drop 1++[a],.sh (.int v),.ow ((W.drop 1++[a]).map cX),?_,by simp,by simp only[List.length_append,List.length_cons,List.length_nil];omega,fun y hy=>?_⟩
  ·rw[tg,Option.bind_some,em,aE s6,aE s7,aE i8]
   exact fin _ _ (by simp) (by simp only[List.length_append,List.length_cons,List.length_nil];omega) (fun y hy=>by
    rcases List.mem_append.mp hy with q |q
    ·exact aW y (List.mem_of_mem_drop q)
    ·rw[List.mem_singleton.mp q];exact az' a (List.mem_of_getElem? ha)) rfl
  ·rcases List.mem_append.mp hy with q |q
   ·exact aW y (List.mem_of_mem_drop q)
   ·rw[List.mem_singleton.mp q];exact az' a (List.mem_of_getElem? ha)
 ·rw[decide_eq_false h]at eq
  have i8:=h9 eq (a:=aB 7 (ag aT false (jU false (aa 7) (eI (pC (.int 1))) jY) (bD (aV (ag jf false (aa 3) (ag gd false (ag cJ false (aa 6) (pC (.int 22))) (bY eK (ae false (aa 3) ak)))) aZ)))) (b:=aL) (r:=some (_,.nx)) rfl
  have ne:W≠[]:=fun z=>by rw[z]at lW;simp at lW;omega
  refine⟨W,.sh (.int v),.ow (W.map cX),?_,ne,by omega,aW⟩
  rw[tg,Option.bind_some,em,aE s6,aE s7,aE i8]
  exact fin W _ ne (by omega) aW rfl
theorem xg(cell:Int)(m:Nat)(m0:1≤m)(m1:m≤5):∃w1 w2:List Nat,gb [.int cell,.int (m:Int)]=some (.ow ((NhFam.aH [aD w1,aD w2]).map af))∧(w1≠[]∧w1.length≤m∧∀a∈w1,az a)∧(w2≠[]∧w2.length≤m∧∀a∈w2,az a):=by
 have s2:aB 2 (pC (.str "abcdefghijklmnopqrstuvwxyz")) [.sh (.int cell),.sh (.int (m:Int)),.no,.no,.no,.no,.no,.no]=some ([.sh (.int cell),.sh (.int (m:Int)),.sh (.str "abcdefghijklmnopqrstuvwxyz"),.no,.no,.no,.no,.no],.nx):=rfl
 have mu:=qZ (g:=pC (.int 2)) (f:=aa 1) (x:=2) (y:=(m:Int)) (E:=[.sh (.int cell),.sh (.int (m:Int)),.sh (.str "abcdefghijklmnopqrstuvwxyz"),.no,.no,.no,.no,.no]) rfl rfl (kU (by decide) (by decide))
 have r3:=rj (c:=2*m) mu (by omega) (by omega)
 have e3:=yA cell (2*m) 0 .no
 simp only[Int.natCast_zero]at e3
 have p3:=gv (js:=[none,some 2,some 0]) r3 e3 (kI _) (by simp;omega)
 have s3:=jd (i:=3) p3 (show 3 < 8 by decide)
 simp only[List.set_cons_succ,List.set_cons_zero]at s3
 have lP:=Ck cell (2*m)
 have aP:=DN cell (2*m)
 unfold DM at lP aP
 generalize (List.range' 0 (2*m)).map (iE cell 3)=P at s3 lP aP
 have s4:aB 4 (bD aZ) [.sh (.int cell),.sh (.int (m:Int)),.sh (.str "abcdefghijklmnopqrstuvwxyz"),.ow (P.map cX),.no,.no,.no,.no]=some ([.sh (.int cell),.sh (.int (m:Int)),.sh (.str "abcdefghijklmnopqrstuvwxyz"),.ow (P.map cX),.ow ([].map af),.no,.no,.no],.nx):=by
  simp only[aB,bD,aZ,Option.bind_some,List.length_nil,Nat.reduceLeDiff,if_true,PL.settle,frz,frzAll,List.length_cons,Nat.zero_add,Nat.reduceAdd,Nat.reduceLT,List.set_cons_succ,List.set_cons_zero,List.map_nil]
 obtain⟨w1,v1,o1,e1,g1⟩:=Cl cell m m0 (by omega) P lP aP 0 (by decide) (.sh (.str "abcdefghijklmnopqrstuvwxyz")) .no .no .no [] (by simp)
 obtain⟨w2,v2,o2,e2,g2⟩:=Cl cell m m0 (by omega) P lP aP 1 (by decide) (.sh (.str "abcdefghijklmnopqrstuvwxyz")) (.sh (.int ((0:Nat):Int))) v1 o1 ([]++[aD w1]) (by simp)
 refine⟨w1,w2,?_,g1,g2⟩
 have lo:bb fB em (kl 0 2) [.sh (.int cell),.sh (.int (m:Int)),.sh (.str "abcdefghijklmnopqrstuvwxyz"),.ow (P.map cX),.ow ([].map af),.no,.no,.no]=some ([.sh (.int cell),.sh (.int (m:Int)),.sh (.str "abcdefghijklmnopqrstuvwxyz"),.ow (P.map cX),.ow ([aD w1,aD w2].map af),.sh (.int ((1:Nat):Int)),v2,o2],.nx):=by
  have z:kl 0 2=[PyData.int ((0:Nat):Int),PyData.int ((1:Nat):Int)]:=rfl
  rw[z,bb,e1]
  show bb fB em [PyData.int ((1:Nat):Int)] _=_
  rw[bb,e2]
  rfl
 have it2:il (ae false (pC (.int 2)) ak) [.sh (.int cell),.sh (.int (m:Int)),.sh (.str "abcdefghijklmnopqrstuvwxyz"),.ow (P.map cX),.ow ([].map af),.no,.no,.no]=some (kl 0 2,[.sh (.int cell),.sh (.int (m:Int)),.sh (.str "abcdefghijklmnopqrstuvwxyz"),.ow (P.map cX),.ow ([].map af),.no,.no,.no]):=rj (c:=2) (f:=pC (.int 2)) (z:=2) rfl rfl (by decide)
 have fo:cw (il (ae false (pC (.int 2)) ak)) fB em [.sh (.int cell),.sh (.int (m:Int)),.sh (.str "abcdefghijklmnopqrstuvwxyz"),.ow (P.map cX),.ow ([].map af),.no,.no,.no]=some ([.sh (.int cell),.sh (.int (m:Int)),.sh (.str "abcdefghijklmnopqrstuvwxyz"),.ow (P.map cX),.ow ([aD w1,aD w2].map af),.sh (.int ((1:Nat):Int)),v2,o2],.nx):=by
  unfold cw
  rw[it2,Option.bind_some]
  exact lo
 have uni:Uni (aD (w1++w2)):=⟨bQ _,fun a ha=>by
  rcases List.mem_append.mp (inOrd_mem.mp ha).2 with q |q
  ·exact g1.2.2 a q
  ·exact g2.2.2 a q,by
  have l:=(NhFam.fH (bQ (w1++w2)) (bQ (w1++w2)) (NhFam.le.refl _)).length_le
  have nd:(aD (w1++w2)).Nodup:=(bQ _).nodup
  have:=nd.length_le_of_subset (l₂:=w1++w2) (fun x hx=>(inOrd_mem.mp hx).2)
  rw[List.length_append]at this
  omega⟩
 have sub:∀v∈[aD w1,aD w2],NhFam.Sub (aD (w1++w2)) v:=fun v hv=>by
  rcases List.mem_cons.mp hv with q |q
  ·subst q
   exact⟨bQ _,fun x hx=>inOrd_mem.mpr ⟨(inOrd_mem.mp hx).1,List.mem_append.mpr (.inl (inOrd_mem.mp hx).2)⟩⟩
  ·rw[List.mem_singleton.mp q]
   exact⟨bQ _,fun x hx=>inOrd_mem.mpr ⟨(inOrd_mem.mp hx).1,List.mem_append.mpr (.inr (inOrd_mem.mp hx).2)⟩⟩
 have pl:=lq uni sub (by simp)
 have c5:aj bJ (ae false (aa 4) ak) [.sh (.int cell),.sh (.int (m:Int)),.sh (.str "abcdefghijklmnopqrstuvwxyz"),.ow (P.map cX),.ow ([aD w1,aD w2].map af),.sh (.int ((1:Nat):Int)),v2,o2]=some (.ow ((NhFam.aH [aD w1,aD w2]).map af),[.sh (.int cell),.sh (.int (m:Int)),.sh (.str "abcdefghijklmnopqrstuvwxyz"),.ow (P.map cX),.ow ([aD w1,aD w2].map af),.sh (.int ((1:Nat):Int)),v2,o2]):=aG (ss:=[.al 4]) rfl rfl pl
 have g:gb [.int cell,.int (m:Int)]=(kB [.sh (.int cell),.sh (.int (m:Int)),.no,.no,.no,.no,.no,.no]).bind fun a=>match a.2 with |.rt r=>bS r |.nx=>some (.sh .none) |_=>none:=rfl
 have fl:=cA (NhFam.aH [aD w1,aD w2])
 rw[g,kB,aE s2,aE s3]
 rw[aE s4,aE fo]
 simp only[aN,c5,Option.map_some,Option.bind_some,bS,bF,fl,if_true]
theorem yC(f:List Nat→Nat):∀(L M:List (List Nat)),L.Nodup→(∀w∈L,w∈M)→(L.map f).sum≤(M.map f).sum
 |[],M,_,_=>Nat.zero_le _
 |a::L,M,n,h=>by
  have ha:=h a (List.mem_cons_self ..)
  have p:=(List.perm_cons_erase ha).map f
  have e:(M.map f).sum=f a+((M.erase a).map f).sum:=by
   rw[p.sum_nat,List.map_cons,List.sum_cons]
  have ih:=yC f L (M.erase a) (List.nodup_cons.mp n).2 fun w hw=>(List.mem_erase_of_ne fun z=>(List.nodup_cons.mp n).1 (by rw[←z];exact hw)).mpr (h w (List.mem_cons_of_mem _ hw))
  rw[List.map_cons,List.sum_cons,e]
  omega
theorem v6:∀(U:List Nat) (acc:List (List Nat)),(U.foldl (fun acc a=>acc++acc.map (· ++[a])) acc).map List.length=U.foldl (fun(acc:List Nat) _=>acc++acc.map (· +1)) (acc.map List.length)
 |[],acc=>rfl
 |a::U,acc=>by
  rw[List.foldl_cons,List.foldl_cons,v6 U]
  congr 1
  rw[List.map_append,List.map_map,List.map_map]
  congr 1
  exact List.map_congr_left fun w _=>by simp
theorem DT{U:List Nat}(h:U.length≤6):((NhFam.eP U).map sz).sum≤800:=by
 have e:(NhFam.eP U).map sz=((NhFam.eP U).map List.length).map (yo 8):=by rw[List.map_map];rfl
 rw[e,NhFam.eP,v6]
 rcases U with _ |⟨a,_ |⟨b,_ |⟨c,_ |⟨d,_ |⟨f,_ |⟨g,_ |⟨i,U⟩⟩⟩⟩⟩⟩⟩
 all_goals first |decide |(simp only[List.foldl_cons,List.foldl_nil];decide) |(simp at h)
theorem lr{U:List Nat}{L:List (List Nat)}{f:List Nat→Prop}(t:NhFam.Told U L f):L.Nodup:=NhFam.mC t.srt
theorem DU{U:List Nat}{L:List (List Nat)}(r:Rul U L)(h:U.length≤6):((mt L).map sz).sum≤800:=Nat.le_trans (yC sz (mt L) (NhFam.eP U) (lr r.meet) fun w hw=>(NhFam.gY r.u.srt).mpr (r.meet.sub w hw)) (DT h)
theorem Gh{w:List Nat}(h:w.length≤2):sz w≤4:=by
 unfold sz
 have k:∀n,n≤2→yo 8 n≤4:=by decide
 exact k _ h
theorem Af(x y:Nat):(aD [x,y]).length≤2:=by
 have:=(bQ [x,y]).nodup.length_le_of_subset (l₂:=[x,y]) (fun z hz=>(inOrd_mem.mp hz).2)
 simpa using this
def HD(U:List Nat):List (List Nat):=U.flatMap fun x=>U.map fun y=>aD [x,y]
theorem DV(U:List Nat):(HD U).length=U.length*U.length:=by
 unfold HD
 rw[List.length_flatMap]
 have:(U.map fun x=>(U.map fun y=>aD [x,y]).length)=U.map fun _=>U.length:=List.map_congr_left fun x _=>by rw[List.length_map]
 rw[this,List.map_const',List.sum_replicate_nat]
theorem Cn{U A B:List Nat}{L:List (List Nat)}(r:Rul U L)(h:∀v∈L,v=A∨v=B)(hA:A∈L)(hB:B∈L):∀w∈mt L,w∈HD U:=fun w hw=>by
 obtain⟨sw,fw,mw⟩:=(r.meet.mem w).mp hw
 obtain⟨x,xA,xw⟩:=fw A hA
 obtain⟨y,yB,yw⟩:=fw B hB
 have xU:=sw.2 x xw
 have yU:=sw.2 y yw
 have rg:∀z∈([x,y]:List Nat),z∈aD [x,y]:=fun z hz=>inOrd_mem.mpr ⟨gQ (r.u.lt z (by
  rcases List.mem_cons.mp hz with q |q
  ·rw[q];exact xU
  ·rw[List.mem_singleton.mp q];exact yU)),hz⟩
 have le_:∀V:List Nat,x∈V→y∈V→NhFam.le (aD [x,y]) V:=fun V a b z hz=>by
  rcases List.mem_cons.mp (inOrd_mem.mp hz).2 with q |q
  ·rw[q];exact a
  ·rw[List.mem_singleton.mp q];exact b
 have e:aD [x,y]=w:=mw _ ⟨bQ _,le_ U xU yU⟩ (fun v hv=>by
  rcases h v hv with q |q
  ·exact⟨x,by rw[q];exact xA,rg x (by simp)⟩
  ·exact⟨y,by rw[q];exact yB,rg y (by simp)⟩) (le_ w xw yw)
 rw[←e]
 exact List.mem_flatMap.mpr ⟨x,xU,List.mem_map.mpr ⟨y,yU,rfl⟩⟩
theorem Co(f:List Nat→Nat)(k:Nat):∀L:List (List Nat),(∀w∈L,f w≤k)→(L.map f).sum≤k*L.length
 |[],_=>Nat.zero_le _
 |a::L,h=>by
  have:=Co f k L fun w hw=>h w (List.mem_cons_of_mem _ hw)
  have:=h a (List.mem_cons_self ..)
  rw[List.map_cons,List.sum_cons,List.length_cons,Nat.mul_succ]
  omega
theorem DW{U:List Nat}{L:List (List Nat)}(r:Rul U L)(h:L.length≤2):((mt L).map sz).sum≤800:=by
 obtain⟨A,B,hL,hA,hB⟩:∃A B,(∀v∈L,v=A∨v=B)∧A∈L∧B∈L:=by
  have:=r.nil
  rcases L with _ |⟨A,_ |⟨B,_ |⟨C,L⟩⟩⟩
  ·exact absurd rfl this
  ·exact⟨A,A,fun v hv=>.inl (List.mem_singleton.mp hv),by simp,by simp⟩
  ·exact⟨A,B,fun v hv=>by simpa using hv,by simp,by simp⟩
  ·simp at h
 have pr:=Cn r hL hA hB
 have ln:=oQ (mt L) (HD U) (lr r.meet) pr
 rw[DV]at ln
 have uu:=r.u.len
 have m:=Nat.mul_le_mul uu uu
 have:=Co sz 4 (mt L) fun w hw=>by
  obtain⟨x,_,hx⟩:=List.mem_flatMap.mp (pr w hw)
  obtain⟨y,_,rfl⟩:=List.mem_map.mp hx
  exact Gh (Af x y)
 omega
theorem Rul.of{U:List Nat}{F:List (List Nat)}(u:Uni U)(hF:∀v∈F,NhFam.Sub U v)(ne:∀v∈F,v≠[])(n0:F≠[])(hl:(NhFam.aH F).length≤190):Rul U (NhFam.aH F):=by
 have t:=NhFam.fj hF
 have inF:∀v∈NhFam.aH F,v∈F:=fun v hv=>((NhFam.uo hF).mp ((t.mem v).mp hv)).1
 refine⟨u,⟨fun v hv=>(t.sub v hv).2,fun v hv=>by have:=u.short (t.sub v hv);omega,hl⟩,t.sub,xa t (NhFam.pZ U F),fun v hv=>ne v (inF v hv),fun z=>?_⟩
 obtain⟨w,hw⟩:=List.exists_mem_of_ne_nil F n0
 have:=(t.up_iff (NhFam.pZ U F) (hF w hw)).mpr ⟨w,hw,NhFam.le.refl w⟩
 obtain⟨v,hv,_⟩:=this
 rw[z]at hv
 cases hv
theorem Rul.shrink{U:List Nat}{L:List (List Nat)}(r:Rul U L):Rul (aD L.flatten) L:=by
 have le_:∀v∈L,NhFam.le v (aD L.flatten):=fun v hv x hx=>inOrd_mem.mpr ⟨gQ (r.u.azw (r.sub v hv) x hx),List.mem_flatten.mpr ⟨v,hv,hx⟩⟩
 exact⟨r.u.small (oP r.u r.w),⟨le_,r.w.tl,r.w.len⟩,fun v hv=>⟨(r.sub v hv).1,le_ v hv⟩,r.least,r.ne,r.nil⟩
theorem mY(x0:Sl):∀(c:List Pc) (st:List Pc) (a b d:Sl),st.length+c.length≤100000→∃a' b' d',bb bw bx (c.map aC) [x0,.ow (st.reverse.map aC),a,b,d]=some ([x0,.ow ((c.foldl NH.stp st).reverse.map aC),a',b',d'],.nx)
 |[],st,a,b,d,_=>⟨a,b,d,rfl⟩
 |p::c,st,a,b,d,h=>by
  have step:∃a' b' d',(bw (aC p) [x0,.ow (st.reverse.map aC),a,b,d]).bind bx=some ([x0,.ow ((NH.stp st p).reverse.map aC),a',b',d'],.nx):=by
   cases st with
   |nil=>
    by_cases z:p.2=0
    ·simp only[bw,jF,aC,z,List.length_cons,List.length_nil,Nat.zero_add,Nat.reduceAdd,fu,aI,List.reverse_nil,List.map_nil,Nat.reduceLT,List.set_cons_succ,List.set_cons_zero,if_true,Option.bind_some,jE,List.isEmpty_nil,bx,hZ,jX,aA,aB,aa,List.getElem?_cons_succ,List.getElem?_cons_zero,PL.settle,frz,frzAll,bg,jC,dw,Sl.val,cV,ag,Sl.isBr,Bool.false_and,Bool.false_eq_true,ki,pC,look,lE,Option.map_some,jf,gJ,dO,if_false,fD,mL,aT,aL,bU,aU,gX,aV,aZ,i_,Bool.not_true,Option.any_some,Nat.reduceSub,bX,decide_true,Nat.reduceLeDiff,List.nil_append,NH.stp]
     exact⟨_,_,_,rfl⟩
    ·simp only[bw,jF,aC,List.length_cons,List.length_nil,Nat.zero_add,Nat.reduceAdd,fu,aI,List.reverse_nil,List.map_nil,Nat.reduceLT,List.set_cons_succ,List.set_cons_zero,if_true,Option.bind_some,jE,List.isEmpty_nil,bx,hZ,jX,aA,aB,aa,List.getElem?_cons_succ,List.getElem?_cons_zero,PL.settle,frz,frzAll,bg,jC,dw,Sl.val,cV,ag,Sl.isBr,Bool.false_and,Bool.false_eq_true,ki,pC,look,lE,Option.map_some,jf,gJ,dO,if_false,fD,mL,aT,aL,bU,aU,gX,aV,aZ,i_,Bool.not_true,Option.any_some,Nat.reduceSub,bX,z,decide_false,Bool.not_false,Nat.reduceLeDiff,List.nil_append,NH.stp]
     exact⟨_,_,_,rfl⟩
   |cons q st=>
    have lb:st.length < 1000000∧st.length+1 < 1000000:=by simp at h;omega
    by_cases e:q.1=p.1
    ·by_cases z:q.2+p.2=0
     ·simp only[bw,jF,fu,aI,List.reverse_cons,List.map_append,List.map_cons,List.map_nil,List.length_cons,List.length_nil,Nat.zero_add,Nat.reduceAdd,Nat.reduceLT,List.set_cons_succ,List.set_cons_zero,if_true,Option.bind_some,jE,bx,hZ,jX,NH.stp]
      simp only[aC,List.length_cons,List.length_nil,Nat.zero_add,Nat.reduceAdd,List.isEmpty_nil,e,if_true,Option.bind_some,aA,aB,aa,List.getElem?_cons_succ,List.getElem?_cons_zero,PL.settle,frz,frzAll,Nat.reduceLT,List.set_cons_succ,List.set_cons_zero,bg,jC,dw,Sl.val,cV,ag,Sl.isBr,Bool.false_and,Bool.false_eq_true,ki,pC,look,lE,Option.map_some,jf,gJ,dO,if_false,fD,mL,aT,aL,bU,aU,gX,aV,aZ,i_,pV,Bool.not_false,Option.any_some,jZ,lz,jh,decide_true,List.dropLast_concat,mv,qz,Bool.true_or,Bool.and_true,z,bX,Bool.not_true,Nat.reduceLeDiff]
      simp[aC]
     ·simp only[bw,jF,fu,aI,List.reverse_cons,List.map_append,List.map_cons,List.map_nil,List.length_cons,List.length_nil,Nat.zero_add,Nat.reduceAdd,Nat.reduceLT,List.set_cons_succ,List.set_cons_zero,if_true,Option.bind_some,jE,bx,hZ,jX,NH.stp]
      simp only[aC,List.length_cons,List.length_nil,Nat.zero_add,Nat.reduceAdd,List.isEmpty_nil,e,if_true,Option.bind_some,aA,aB,aa,List.getElem?_cons_succ,List.getElem?_cons_zero,PL.settle,frz,frzAll,Nat.reduceLT,List.set_cons_succ,List.set_cons_zero,bg,jC,dw,Sl.val,cV,ag,Sl.isBr,Bool.false_and,Bool.false_eq_true,ki,pC,look,lE,Option.map_some,jf,gJ,dO,if_false,fD,mL,aT,aL,bU,aU,gX,aV,aZ,i_,pV,Bool.not_false,Option.any_some,jZ,lz,jh,decide_true,List.dropLast_concat,mv,qz,Bool.true_or,Bool.and_true,bX,z,decide_false,Nat.reduceLeDiff,List.length_map,List.length_reverse,lb]
      simp[aC]
    ·by_cases z:p.2=0
     ·simp only[bw,jF,fu,aI,List.reverse_cons,List.map_append,List.map_cons,List.map_nil,List.length_cons,List.length_nil,Nat.zero_add,Nat.reduceAdd,Nat.reduceLT,List.set_cons_succ,List.set_cons_zero,if_true,Option.bind_some,jE,bx,hZ,jX,NH.stp]
      simp only[aC,z,List.length_cons,List.length_nil,Nat.zero_add,Nat.reduceAdd,List.isEmpty_nil,if_true,Option.bind_some,aA,aB,aa,List.getElem?_cons_succ,List.getElem?_cons_zero,PL.settle,frz,frzAll,Nat.reduceLT,List.set_cons_succ,List.set_cons_zero,bg,jC,dw,Sl.val,cV,ag,Sl.isBr,Bool.false_and,Bool.false_eq_true,ki,pC,look,lE,Option.map_some,jf,gJ,dO,if_false,fD,mL,aT,aL,bU,aU,gX,aV,aZ,i_,pV,Bool.not_false,Option.any_some,jZ,lz,jh,pY,e,decide_false,List.dropLast_concat,mv,qz,Bool.true_or,Bool.and_true,bX,decide_true,Bool.not_true,Nat.reduceLeDiff]
      simp[aC]
     ·simp only[bw,jF,fu,aI,List.reverse_cons,List.map_append,List.map_cons,List.map_nil,List.length_cons,List.length_nil,Nat.zero_add,Nat.reduceAdd,Nat.reduceLT,List.set_cons_succ,List.set_cons_zero,if_true,Option.bind_some,jE,bx,hZ,jX,NH.stp]
      simp only[aC,List.length_cons,List.length_nil,Nat.zero_add,Nat.reduceAdd,List.isEmpty_nil,if_true,Option.bind_some,aA,aB,aa,List.getElem?_cons_succ,List.getElem?_cons_zero,PL.settle,frz,frzAll,Nat.reduceLT,List.set_cons_succ,List.set_cons_zero,bg,jC,dw,Sl.val,cV,ag,Sl.isBr,Bool.false_and,Bool.false_eq_true,ki,pC,look,lE,Option.map_some,jf,gJ,dO,if_false,fD,mL,aT,aL,bU,aU,gX,aV,aZ,i_,pV,Bool.not_false,Option.any_some,jZ,lz,jh,pY,e,decide_false,List.dropLast_concat,List.length_append,List.length_map,List.length_reverse,bX,z,Nat.reduceLeDiff,lb]
      simp[aC]
  obtain⟨a',b',d',e⟩:=step
  have ih:=mY x0 c (NH.stp st p) a' b' d' (by have:=NH.tP st p;simp at h;omega)
  obtain⟨a2,b2,d2,e2⟩:=ih
  refine⟨a2,b2,d2,?_⟩
  rw[List.map_cons,bb,e]
  exact e2
theorem se(c:List Pc)(h:c.length≤100000):fI [.list (c.map aC)]=some (.ow ((NH.short c).map aC)):=by
 obtain⟨a,b,d,e⟩:=mY (.sh (.list (c.map aC))) c [] .no .no .no (by simpa using h)
 simp only[List.reverse_nil,List.map_nil]at e
 simp only[fI,dN,List.length_cons,List.length_nil,Nat.zero_add,gA,jk,aA,aB,bD,aZ,bd,List.map_cons,List.map_nil,Nat.reduceSub,List.replicate,List.cons_append,List.nil_append,Option.bind_some,Nat.reduceLeDiff,if_true,PL.settle,frz,frzAll,Nat.reduceAdd,Nat.reduceLT,List.set_cons_succ,List.set_cons_zero,cw,aQ,aa,aN,List.getElem?_cons_zero,e,List.getElem?_cons_succ,Option.map_some,bS,bF,fF,Option.some.injEq]
 rfl
theorem xh(c:List Pc)(h:c.length≤100000):ir [.list (c.map aC)]=some (.sh (.bool (decide (NH.short c=[])))):=by
 have e:decide (((NH.short c).length:Int)=0)=decide (NH.short c=[]):=by
  rw[Bool.eq_iff_iff]
  simp only[decide_eq_true_eq]
  rw[←List.length_eq_zero_iff]
  omega
 simp only[ir,dN,List.length_cons,List.length_nil,Nat.zero_add,gA,mF,aN,ag,bY,ae,aj,aa,bd,List.map_cons,List.map_nil,Nat.sub_self,List.replicate,List.cons_append,List.nil_append,List.getElem?_cons_zero,Sl.isBr,Bool.false_and,Bool.false_eq_true,ak,Option.map_some,if_false,Option.bind_some,cb,look,Sl.val,se c h,eK,List.length_map,pC,hZ,fD,bX,e,bS,bF,dL,if_true]
def CordL(c:List Pc):Prop:=∀p∈c,az p.1∧p.2.natAbs < 2 ^ 100
theorem CordL.ok{c:List Pc}(h:CordL c):CordOk c:=fun p hp=>⟨by have:=(h p hp).1.2;omega,(h p hp).2⟩
theorem CordL.n{c:List Pc}(h:CordL c):NailsOk c:=h.ok.n
theorem CordL.az{c:List Pc}(h:CordL c):∀a∈c.map (·.1),az a:=fun a ha=>by
 obtain⟨p,hp,rfl⟩:=List.mem_map.mp ha
 exact(h p hp).1
theorem pq:∀(c:List Pc) (x0 x1:Sl),cf iI bK iJ (c.map aC) [x0,x1]=some ((c.map (·.1)).map cX)
 |[],x0,x1=>rfl
 |p::c,x0,x1=>by
  have e:(iI (aC p) [x0,x1])=some [.sh (.str ⟨#[p.1]⟩),.sh (.int p.2)]:=rfl
  have e2:iJ [.sh (.str ⟨#[p.1]⟩),.sh (.int p.2)]=some (.sh (.str ⟨#[p.1]⟩),[.sh (.str ⟨#[p.1]⟩),.sh (.int p.2)]):=rfl
  rw[List.map_cons,cf,e,Option.bind_some]
  simp only[bK,frz,Option.bind_some,e2,pq c,Option.map_some,if_true,List.map_cons,cX]
theorem v7{c:List Pc}(h:CordL c)(hl:c.length≤1000):fm [.list (c.map aC)]=some (.sh (.str ⟨(aD (c.map (·.1))).toArray⟩)):=by
 have k:=pq c .no .no
 have az:=fun y hy=>gQ (h.az y hy)
 have d:=l_ az
 have d2:((c.map (·.1)).map gu).length < 4000∧(kQ ((c.map (·.1)).map gu)).length < 64:=⟨by simp;omega,Nat.lt_of_le_of_lt (qa az) (by decide)⟩
 have l:=uz (aD (c.map (·.1)))
 have l2:=mJ (c.map (·.1))
 have l3:((c.map (·.1)).map cX).length≤1000000:=by simp;omega
 simp only[fm,dN,List.length_cons,List.length_nil,Nat.zero_add,gA,k_,aN,eN,ki,dC,ba,aQ,aa,bd,List.map_cons,List.map_nil,Nat.sub_self,List.replicate,List.cons_append,List.nil_append,List.getElem?_cons_zero,frz,Option.bind_some,ja,o5,k,kI,l3,decide_true,Bool.and_true,if_true,look,Sl.val,n_,d2,and_self,d,qC,q_,l,l2,rc,Option.map_some,bS,bF,dL]
def stay(w:List Nat)(c:List Pc):List Pc:=c.filter fun p=> !decide (p.1∈w)
theorem uI{tg:gS}{cd:mq}{el:bC}{u:Sl}(w:List Nat)(ht:∀d x,tg d [x,u]=some [.sh d,u])(hc:∀p:Pc,cd [.sh (aC p),u]=some (!decide (p.1∈w),[.sh (aC p),u]))(hel:∀d,el [.sh d,u]=some (.sh d,[.sh d,u])):∀(c:List Pc) (x:Sl),cf tg cd el (c.map aC) [x,u]=some ((stay w c).map aC)
 |[],x=>rfl
 |p::c,x=>by
  rw[List.map_cons,cf,ht,Option.bind_some,hc,Option.bind_some]
  have ih:=uI w ht hc hel c (.sh (aC p))
  by_cases k:p.1∈w
  ·rw[stay,List.filter_cons_of_neg (by simpa using k)]
   simp only[k,decide_true,Bool.not_true,Bool.false_eq_true,if_false]
   exact ih
  ·rw[stay,List.filter_cons_of_pos (by simpa using k)]
   simp only[k,decide_false,Bool.not_false,if_true,hel,Option.bind_some,frz,ih,Option.map_some,List.map_cons]
   rfl
theorem Cp{w:List Nat}(h:∀y∈w,az y){a:Nat}:a∈aD w↔a∈w:=by
 rw[inOrd_mem]
 exact⟨fun z=>z.2,fun z=>⟨gQ (h a z),z⟩⟩
theorem xi{w:List Nat}(h:∀y∈w,az y)(c:List Pc):stay (aD w) c=stay w c:=by
 unfold stay
 congr 1
 funext p
 rw[decide_eq_decide.mpr (Cp h)]
theorem Ag(w:List Nat)(p:Pc):gh [.sh (aC p),.sh (.str ⟨w.toArray⟩)]=some (!decide (p.1∈w),[.sh (aC p),.sh (.str ⟨w.toArray⟩)]):=by
 have o:=p_ w p.1
 simp only[gh,cV,ag,aa,aC,List.getElem?_cons_zero,Sl.isBr,Bool.false_and,Bool.false_eq_true,pC,jf,look,Sl.val,gJ,dO,Option.bind_some,if_false,lz,Option.map_some,xT,fD,if_true,Ek,List.getElem?_cons_succ,o,Bool.not_not]
theorem rH(w:List Nat)(c:List Pc):(stay w c).length≤c.length:=List.length_filter_le _ _
theorem xj{w:List Nat}(h:∀y∈w,az y)(hl:w.length≤1000)(c:List Pc)(hc:c.length≤1000):iv [.list (c.map aC),.str ⟨w.toArray⟩]=some (.ow ((stay w c).map aC)):=by
 have s:=oN h (by omega)
 have k:=uI (tg:=jl) (cd:=gh) (el:=jm) (u:=.sh (.str ⟨(aD w).toArray⟩)) (aD w) (fun _ _=>rfl) (Ag (aD w)) (fun _=>rfl) c .no
 rw[xi h]at k
 have l3:((stay w c).map aC).length≤1000000:=by have:=rH w c;simp;omega
 have s2:aB 2 (aj df (ae false (aa 1) ak)) [.sh (.list (c.map aC)),.sh (.str ⟨w.toArray⟩),.no]=some ([.sh (.list (c.map aC)),.sh (.str ⟨w.toArray⟩),.sh (.str ⟨(aD w).toArray⟩)],.nx):=by
  simp only[aB,aj,ae,aa,List.getElem?_cons_succ,List.getElem?_cons_zero,Sl.isBr,Bool.false_and,Bool.false_eq_true,ak,Option.map_some,if_false,Option.bind_some,cb,look,Sl.val,s,PL.settle,frz,frzAll,List.length_cons,List.length_nil,Nat.zero_add,Nat.reduceAdd,Nat.reduceLT,List.set_cons_succ,List.set_cons_zero,if_true]
 have g:mG=aA (aB 2 (aj df (ae false (aa 1) ak))) (aN (ba [none,some 2] (aQ (aa 0)) jl gh jm)):=rfl
 simp only[iv,dN,gA,bd,g,List.map_cons,List.map_nil,List.length_cons,List.length_nil,Nat.reduceSub,Nat.reduceAdd,Nat.zero_add,List.replicate,List.cons_append,List.nil_append,aE s2]
 simp only[aN,ba,aQ,aa,List.getElem?_cons_zero,frz,Option.bind_some,ja,List.map_cons,o5,List.map_nil,List.getElem?_cons_succ,Sl.val,k,fF,l3,decide_true,Bool.and_true,if_true,bS,bF]
theorem kJ{w:List Nat}(h:∀y∈w,az y)(hl:w.length≤1000)(c:List Pc)(hc:c.length≤1000):bh [.list (c.map aC),.str ⟨w.toArray⟩]=some (.sh (.bool (decide (NH.short (stay w c)=[])))):=by
 have k:=xj h hl c hc
 have f:=xh (stay w c) (by have:=rH w c;omega)
 simp only[bh,dN,List.length_cons,List.length_nil,Nat.zero_add,Nat.reduceAdd,gA,gL,aN,aj,ae,aa,bd,List.map_cons,List.map_nil,Nat.sub_self,List.replicate,List.cons_append,List.nil_append,List.getElem?_cons_zero,Sl.isBr,Bool.false_and,Bool.false_eq_true,ak,Option.map_some,if_false,Option.bind_some,List.getElem?_cons_succ,cb,look,Sl.val,k,f,bS,bF,dL,if_true]
theorem Gi{c:List PyData→Option Sl}{g:uM}{E E2:List Sl}{ss:List Sl}{ds:List PyData}{d:PyData}{i:Nat}(h:g E=some (ss,E))(hl:cb E ss=some ds)(hc:c ds=some (.sh d))(hi:i < E.length)(hE:E.set i (.sh d)=E2):aB i (aj c g) E=some (E2,.nx):=by
 rw[←hE]
 exact gR (aG h hl hc) hi
theorem Gj{c:List Pc}(hc:c.length≤1000){w:List Nat}(h:∀y∈w,az y)(hl:w.length≤1000):cO [.sh (af w),.sh (.list (c.map aC))]=some (decide (NH.short (stay w c)=[]),[.sh (af w),.sh (.list (c.map aC))]):=by
 have k:aj bh (ae false (aa 1) (ae false (aa 0) ak)) [.sh (af w),.sh (.list (c.map aC))]=some (.sh (.bool (decide (NH.short (stay w c)=[]))),[.sh (af w),.sh (.list (c.map aC))]):=aG (ss:=[.sh (.list (c.map aC)),.sh (af w)]) rfl rfl (kJ h hl c hc)
 unfold cO
 simp only[dw,k,Option.bind_some,look,Sl.val,i_,Option.map_some]
theorem yD{c:List Pc}(hc:c.length≤1000):∀(F:List (List Nat)) (x:Sl),(∀w∈F,(∀y∈w,az y)∧w.length≤1000)→cf d8 cO d_ (F.map af) [x,.sh (.list (c.map aC))]=some ((F.filter fun w=>decide (NH.short (stay w c)=[])).map af)
 |[],x,_=>rfl
 |w::F,x,h=>by
  have hw:=h w (List.mem_cons_self ..)
  have t:d8 (af w) [x,.sh (.list (c.map aC))]=some [.sh (af w),.sh (.list (c.map aC))]:=rfl
  have el:d_ [.sh (af w),.sh (.list (c.map aC))]=some (.sh (af w),[.sh (af w),.sh (.list (c.map aC))]):=rfl
  rw[List.map_cons,vS t (Gj hc hw.1 hw.2) el (yD hc F _ fun v hv=>h v (List.mem_cons_of_mem _ hv)),List.filter_cons]
  split <;> rfl
structure FewV (V:List Nat):Prop where
 srt:NhFam.Srt V
 az:∀y∈V,az y
 len:V.length≤10
theorem FewV.sets{V:List Nat}(h:FewV V):∀w∈NhFam.eP V,(∀y∈w,Nhk53.az y)∧w.length≤1000:=fun w hw=>by
 obtain⟨s,l⟩:=(NhFam.gY h.srt).mp hw
 have:=(NhFam.fH s h.srt l).length_le
 have:=h.len
 exact⟨fun y hy=>h.az y (l y hy),by omega⟩
theorem FewV.ltrs{V:List Nat}(h:FewV V):∀w∈NhFam.eP V,NH.qL w:=fun w hw a ha=>by
 have:=(h.sets w hw).1 a ha
 exact⟨this.1,this.2⟩
theorem FewV.num{V:List Nat}(h:FewV V):(NhFam.eP V).length≤1024:=by
 rw[NhFam.nT]
 have:2 ^ V.length≤2 ^ 10:=Nat.pow_le_pow_right (by decide) h.len
 omega
theorem FewV.fit{V:List Nat}(h:FewV V)(p:List Nat→Bool):Fit ((NhFam.eP V).filter p):=
 ⟨by have:=List.length_filter_le p (NhFam.eP V);have:=h.num;omega,fun w hw=>⟨h.ltrs w (List.mem_filter.mp hw).1,(h.sets w (List.mem_filter.mp hw).1).2⟩⟩
def yE(c:List Pc)(w:List Nat):Bool:=decide (NH.short (stay w c)=[])
def v9(c:List Pc)(V:List Nat):List (List Nat):=NhFam.aH ((NhFam.eP V).filter (yE c))
theorem xk{c:List Pc}(kc:CordL c)(hc:c.length≤1000){V:List Nat}(hV:V=aD (c.map (·.1)))(f:FewV V):aS [.list (c.map aC)]=some (.ow ((v9 c V).map af)):=by
 have en:fm [.list (c.map aC)]=some (.sh (af V)):=by rw[hV];exact v7 kc hc
 have k1:aB 1 (aj fm (ae false (aa 0) ak)) [.sh (.list (c.map aC)),.no]=some ([.sh (.list (c.map aC)),.sh (af V)],.nx):=Gi (ss:=[.sh (.list (c.map aC))]) rfl rfl en (show 1 < 2 by decide) rfl
 have k2:bU (aj cc (ae false (aa 1) ak)) [.sh (.list (c.map aC)),.sh (af V)]=some ([.sh (.list (c.map aC)),.sh (af V)],.nx):=uB (aG (ss:=[.sh (af V)]) rfl rfl (mU f.len))
 have it:aQ (aj bj (ae false (aa 1) ak)) [.sh (.list (c.map aC)),.sh (af V)]=some ((NhFam.eP V).map af,[.sh (.list (c.map aC)),.sh (af V)]):=by
  have k:aj bj (ae false (aa 1) ak) [.sh (.list (c.map aC)),.sh (af V)]=some (.ow ((NhFam.eP V).map af),[.sh (.list (c.map aC)),.sh (af V)]):=aG (ss:=[.sh (af V)]) rfl rfl (uA V f.len)
  unfold aQ
  rw[k]
  rfl
 have lp:=yD hc (NhFam.eP V) .no f.sets
 have k3:=gv (js:=[none,some 0]) it lp (cA _) (by
  have:=List.length_filter_le (fun w=>decide (NH.short (stay w c)=[])) (NhFam.eP V)
  have:=f.num
  rw[List.length_map]
  omega)
 have lo:=ma (f.fit (yE c))
 have k4:aj bV (ae false (ba [none,some 0] (aQ (aj bj (ae false (aa 1) ak))) d8 cO d_) ak) [.sh (.list (c.map aC)),.sh (af V)]=some (.ow ((v9 c V).map af),[.sh (.list (c.map aC)),.sh (af V)]):=by
  refine aG (ss:=[.ow (((NhFam.eP V).filter (yE c)).map af)]) ?_ rfl lo
  simp only[ae,ak,k3,Option.bind_some,Option.map_some,Bool.false_and,Bool.false_eq_true,if_false]
  rfl
 have g:aS [.list (c.map aC)]=(fW [.sh (.list (c.map aC)),.no]).bind fun a=>match a.2 with |.rt r=>bS r |.nx=>some (.sh .none) |_=>none:=rfl
 have fl:=cA (v9 c V)
 rw[g,fW,aE k1,aE k2]
 simp only[aN,k4,Option.bind_some,Option.map_some,bS,bF,fl,if_true]
theorem Ah(w:List Nat)(c:List Pc):stay w c=NH.d5 (fun n=> !decide (n∈w)) c:=rfl
theorem yF{M w:List Nat}{c:List Pc}(h:Pl M c){x:Nat}(hx:x∈M)(P:Nat→Bool)(hw:P x=false):NH.short (NH.d5 P c)=[]:=by
 have e:NH.d5 P c=NH.d5 (fun n=>P n&& !decide (n=x)) c:=by
  unfold NH.d5
  refine List.filter_congr fun p hp=>?_
  show P p.1=(P p.1&& !decide (p.1=x))
  by_cases q:p.1=x
  ·rw[q,hw]
   rfl
  ·rw[decide_eq_false q,Bool.not_false,Bool.and_true]
 rw[e]
 exact NH.qK P (fun n=> !decide (n=x)) (h.fall x hx)
theorem DY{M:List Nat}{c:List Pc}(h:Pl M c):NH.d5 (fun n=>decide (n∈M)) c=c:=List.filter_eq_self.mpr fun p hp=>decide_eq_true (h.nails p hp)
def Sts(F:List (List Nat)):Prop:=∀M∈F,M.Nodup∧1≤M.length∧M.length≤128
theorem Sts.pl{F:List (List Nat)}(h:Sts F){M:List Nat}(hM:M∈F):Pl M (je 8 M):=FV 7 M (h M hM).1 (h M hM).2.1 (by have:=(h M hM).2.2;omega)
theorem uJ(P:Nat→Bool):∀(F:List (List Nat)),Sts F→(∀M∈F,∃x∈M,P x=false)→NH.short (NH.d5 P (dM F))=[]
 |[],_,_=>rfl
 |M::F,s,h=>by
  have e:dM (M::F)=je 8 M++dM F:=rfl
  obtain⟨x,hx,hP⟩:=h M (List.mem_cons_self ..)
  have e1:NH.short (NH.d5 P (je 8 M))=NH.short ([]:List Pc):=yF (w:=[]) (s.pl (List.mem_cons_self ..)) hx P hP
  have e2:NH.short (NH.d5 P (dM F))=NH.short ([]:List Pc):=uJ P F (fun v hv=>s v (List.mem_cons_of_mem _ hv)) fun v hv=>h v (List.mem_cons_of_mem _ hv)
  rw[e,NH.o_]
  exact NH.jj e1 e2
theorem yG(M:List Nat):∀(F:List (List Nat)),Sts F→F.Nodup→(∀v∈F,NhFam.le v M→v=M)→M∈F→NH.short (NH.d5 (fun n=>decide (n∈M)) (dM F))=NH.short (je 8 M)
 |[],_,_,_,h=>by cases h
 |v::F,s,n,a,h=>by
  have e:dM (v::F)=je 8 v++dM F:=rfl
  have n':=List.nodup_cons.mp n
  have off:∀u,u≠M→(NhFam.le u M→u=M)→∃x∈u,decide (x∈M)=false:=fun u hu hl=>by
   refine Classical.byContradiction fun z=>hu (hl fun x hx=>?_)
   refine Classical.byContradiction fun q=>z ⟨x,hx,decide_eq_false q⟩
  rw[e,NH.o_]
  by_cases q:v=M
  ·subst q
   have e2:NH.short (NH.d5 (fun n=>decide (n∈v)) (dM F))=NH.short ([]:List Pc):=uJ _ F (fun u hu=>s u (List.mem_cons_of_mem _ hu)) fun u hu=>off u (fun z=>n'.1 (by rw[←z];exact hu)) (a u (List.mem_cons_of_mem _ hu))
   rw[DY (s.pl (List.mem_cons_self ..))]
   have:=NH.jj (rfl:NH.short (je 8 v)=NH.short (je 8 v)) e2
   rwa [List.append_nil]at this
  ·have hM:M∈F:=by
    rcases List.mem_cons.mp h with z |z
    ·exact absurd z.symm q
    ·exact z
   obtain⟨x,hx,hP⟩:=off v q (a v (List.mem_cons_self ..))
   have e1:NH.short (NH.d5 (fun n=>decide (n∈M)) (je 8 v))=NH.short ([]:List Pc):=yF (w:=[]) (s.pl (List.mem_cons_self ..)) hx _ hP
   have e2:=yG M F (fun u hu=>s u (List.mem_cons_of_mem _ hu)) n'.2 (fun u hu=>a u (List.mem_cons_of_mem _ hu)) hM
   have:=NH.jj e1 e2
   rwa [List.nil_append]at this
theorem DZ{F:List (List Nat)}(s:Sts F)(n:F.Nodup)(a:∀M∈F,∀v∈F,NhFam.le v M→v=M)(w:List Nat):NH.short (stay w (dM F))=[]↔NhFam.jK F w:=by
 constructor
 ·intro h M hM
  refine Classical.byContradiction fun z=>?_
  have dj:∀x∈M,x∉w:=fun x hx hw=>z ⟨x,hx,hw⟩
  have k:=NH.qK (fun n=>decide (n∈M)) (fun n=> !decide (n∈w)) h
  have e:(fun n=>decide (n∈M)&& !decide (n∈w))=fun n=>decide (n∈M):=by
   funext x
   by_cases q:x∈M
   ·rw[decide_eq_true q,decide_eq_false (dj x q)];rfl
   ·rw[decide_eq_false q];rfl
  rw[e,yG M F s n (a M hM) hM,NH.gy,NH.oU (s.pl hM).red]at k
  exact(s.pl hM).ne k
 ·intro h
  rw[Ah]
  refine uJ _ F s fun M hM=>?_
  obtain⟨x,hx,hw⟩:=h M hM
  refine⟨x,hx,?_⟩
  show(!decide (x∈w))=false
  rw[decide_eq_true hw]
  rfl
theorem Ai{F:List (List Nat)}(s:Sts F):∀p∈dM F,p.1∈F.flatten:=fun p hp=>by
 obtain⟨M,hM,hp⟩:=List.mem_flatMap.mp hp
 exact List.mem_flatten.mpr ⟨M,hM,(s.pl hM).nails p hp⟩
theorem ml:∀(k:Nat) (w:List Nat),∀p∈je k w,p.2.natAbs=1
 | 0,w,p,h=>by cases h
 |k+1,w,p,h=>by
  have cn:∀c:List Pc,(∀q∈c,q.2.natAbs=1)→∀q∈NH.aR c,q.2.natAbs=1:=fun c hc q hq=>by
   obtain⟨z,hz,rfl⟩:=List.mem_map.mp hq
   have:=hc z (List.mem_reverse.mp hz)
   show(-z.2).natAbs=1
   omega
  rw[je]at h
  split at h
  ·obtain⟨a,_,rfl⟩:=List.mem_map.mp h
   rfl
  ·simp only[List.mem_append]at h
   rcases h with((h |h) |h) |h
   ·exact ml k _ p h
   ·exact ml k _ p h
   ·exact cn _ (ml k _) p h
   ·exact cn _ (ml k _) p h
theorem Rul.sts{U:List Nat}{L:List (List Nat)}(r:Rul U L):Sts (mt L):=fun M hM=>⟨(r.meet.sub M hM).1.nodup,(r.few M hM).1,by have:=(r.few M hM).2;omega⟩
theorem Rul.anti{U:List Nat}{L:List (List Nat)}(r:Rul U L):∀M∈mt L,∀v∈mt L,NhFam.le v M→v=M:=fun M hM v hv l=>by
 have a:=(r.meet.mem M).mp hM
 have b:=(r.meet.mem v).mp hv
 exact a.2.2 v b.1 b.2.1 l
theorem Rul.fall{U:List Nat}{L:List (List Nat)}(r:Rul U L)(w:List Nat):NH.short (stay w (dM (mt L)))=[]↔NhFam.jK (mt L) w:=DZ r.sts (lr r.meet) r.anti w
theorem Rul.back{U:List Nat}{L:List (List Nat)}(r:Rul U L){w:List Nat}(hw:NhFam.Sub U w):NhFam.jK (mt L) w↔NhFam.up L w:=by
 have hU:=r.u.srt
 have t:=r.meet.congr (g:=NhFam.BK U (NhFam.up L)) fun v _=>NhFam.mD r.sub
 have m:=NhFam.zN hU (NhFam.pZ U L)
 rw[NhFam.mD (U:=U) (F:=mt L) (fun v hv=>r.meet.sub v hv)]
 have k:=t.up_iff m (NhFam.nR (w:=w) hU)
 unfold NhFam.BK at k ⊢
 rw[NhFam.zL hU hw]at k
 exact(not_congr k).trans Classical.not_not
theorem Rul.falls{U:List Nat}{L:List (List Nat)}(r:Rul U L){w:List Nat}(hw:NhFam.Sub U w):decide (NH.short (stay w (dM (mt L)))=[])=L.any (fun k=>decide (NhFam.le k w)):=by
 refine Bool.eq_iff_iff.mpr ?_
 rw[decide_eq_true_iff,r.fall w,r.back hw,←NhFam.Dx]
 rfl
theorem Rul.nails{U:List Nat}{L:List (List Nat)}(r:Rul U L):∀p∈dM (mt L),p.1∈U:=fun p hp=>by
 obtain⟨M,hM,hx⟩:=List.mem_flatten.mp (Ai r.sts p hp)
 exact(r.meet.sub M hM).2 _ hx
theorem Rul.cord{U:List Nat}{L:List (List Nat)}(r:Rul U L):CordL (dM (mt L)):=fun p hp=>⟨r.u.lt _ (r.nails p hp),by
 obtain⟨M,hM,h⟩:=List.mem_flatMap.mp hp
 rw[ml 8 M p h]
 decide⟩
theorem Cq{c:List Pc}{V w:List Nat}(h:∀p∈c,p.1∈V):stay (w.filter fun x=>decide (x∈V)) c=stay w c:=by
 unfold stay
 refine List.filter_congr fun p hp=>?_
 congr 1
 refine decide_eq_decide.mpr ?_
 rw[List.mem_filter,decide_eq_true_iff]
 exact⟨fun z=>z.1,fun z=>⟨z,h p hp⟩⟩
theorem Aj{U:List Nat}{L:List (List Nat)}(r:Rul U L){V:List Nat}(hV:V=aD ((dM (mt L)).map (·.1))):v9 (dM (mt L)) V=L:=by
 have hU:=r.u.srt
 have sV:NhFam.Srt V:=by rw[hV];exact bQ _
 have D_:∀p∈dM (mt L),p.1∈V:=fun p hp=>by
  rw[hV]
  exact inOrd_mem.mpr ⟨gQ (r.u.lt _ (r.nails p hp)),List.mem_map.mpr ⟨p,hp,rfl⟩⟩
 have lV:NhFam.le V U:=fun x hx=>by
  rw[hV]at hx
  obtain⟨p,hp,rfl⟩:=List.mem_map.mp (inOrd_mem.mp hx).2
  exact r.nails p hp
 have t:NhFam.Told U (v9 (dM (mt L)) V) (fun w=>NH.short (stay w (dM (mt L)))=[]):=by
  refine NhFam.qQ hU sV lV (fun v w _ _ l h=>?_) (fun w=>?_) fun w _ h=>?_
  ·refine(r.fall w).mpr fun M hM=>?_
   obtain⟨x,a,b⟩:=(r.fall v).mp h M hM
   exact⟨x,a,l x b⟩
  ·rw[List.mem_filter,NhFam.gY sV]
   unfold yE
   rw[decide_eq_true_iff]
  ·show NH.short (stay _ _)=[]
   rw[Cq D_]
   exact h
 have tl:=NhFam.fj r.sub
 rw[r.least]at tl
 exact t.uniq tl fun w hw=>(r.fall w).trans (r.back hw)
theorem Cr{U:List Nat}{L:List (List Nat)}(r:Rul U L){V:List Nat}(hV:V=aD ((dM (mt L)).map (·.1))):FewV V:=by
 have lV:NhFam.le V U:=fun x hx=>by
  rw[hV]at hx
  obtain⟨p,hp,rfl⟩:=List.mem_map.mp (inOrd_mem.mp hx).2
  exact r.nails p hp
 have sV:NhFam.Srt V:=by rw[hV];exact bQ _
 exact⟨sV,r.u.azw ⟨sV,lV⟩,r.u.short ⟨sV,lV⟩⟩
theorem oi{U:List Nat}{L:List (List Nat)}(r:Rul U L)(h8:((mt L).map sz).sum≤800):aS [.list ((dM (mt L)).map aC)]=some (.ow (L.map af)):=by
 have:=xk r.cord (by rw[uF];omega) rfl (Cr r rfl)
 rwa [Aj r rfl]at this
theorem uK{U:List Nat}{L:List (List Nat)}(r:Rul U L)(h8:((mt L).map sz).sum≤800):bT [.list ((dM (mt L)).map aC)]=some (.ow ((mt L).map af)):=by
 have c1:aj aS (ae false (aa 0) ak) [.sh (.list ((dM (mt L)).map aC))]=some (.ow (L.map af),[.sh (.list ((dM (mt L)).map aC))]):=aG (ss:=[.sh (.list ((dM (mt L)).map aC))]) rfl rfl (oi r h8)
 have c2:aj aJ (ae false (aj aS (ae false (aa 0) ak)) ak) [.sh (.list ((dM (mt L)).map aC))]=some (.ow ((mt L).map af),[.sh (.list ((dM (mt L)).map aC))]):=aG (ss:=[.ow (L.map af)]) (Et c1) rfl (uE r)
 have g:bT [.list ((dM (mt L)).map aC)]=(fX [.sh (.list ((dM (mt L)).map aC))]).bind fun a=>match a.2 with |.rt r=>bS r |.nx=>some (.sh .none) |_=>none:=rfl
 have fl:=cA (mt L)
 rw[g,fX]
 simp only[aN,c2,Option.map_some,Option.bind_some,bS,bF,fl,if_true]
theorem Cs{E:List Sl}{f:bC}{s:Sl}{L:List (List Nat)}(hf:f E=some (s,E))(hs:look E s=some (.list (L.map af)))(hl:L.flatten.length≤1000000):eN "" f E=some (.sh (af L.flatten),E):=by
 have so:=oO L
 have l:=vR L
 simp only[eN,ki,qC,hf,Option.bind_some,hs,so,l,hl,if_true,Option.map_some,ym,af]
theorem uL(ns:List Int)(k:Nat)(E:List Sl)(hE:E[0]? =some (.sh (.list (ns.map .int)))):aj bP (ae false (aa 0) (ae false (pC (.int (k:Int))) ak)) E=some (.sh (.int (ns.getD k 0)),E):=by
 have v0:aa 0 E=some (.sh (.list (ns.map .int)),E):=by simp only[aa,hE,Option.bind_some]
 exact aG (ss:=[.sh (.list (ns.map .int)),.sh (.int (k:Int))]) (FR v0 rfl) rfl (ti ns k)
structure Rdy (U:List Nat) (L:List (List Nat)):Prop where
 r:Rul U L
 h8:((mt L).map sz).sum≤800
abbrev Iz:de:=aB 1 (aj fA (ae false (aj bP (ae false (aa 0) (ae false (pC (.int 0)) ak))) (ae false (pC (.int 6)) ak)))
abbrev IB:de:=aB 2 (aj fZ (ae false (aa 0) (ae false (pC (.int 1)) (ae false (aa 1) ak))))
abbrev HE:de:=bg (cV (ag hZ false (ag gd false (ag cJ false (aj bP (ae false (aa 0) (ae false (pC (.int 0)) ak))) (pC (.int 3))) (pC (.int 8))) (pC (.int 5)))) (aA (aB 2 (aj gb (ae false (aj bP (ae false (aa 0) (ae false (pC (.int 1)) ak))) (ae false (pC (.int 4)) ak)))) (aB 1 (eN "" (dC (eN "" (aa 2)))))) aL
theorem Hw(ns:List Int)(hl:ns.length≤63):∃U L,Rdy U L∧∀r:de,aA Iz (aA IB (aA HE r)) [.sh (.list (ns.map .int)),.no,.no,.no,.no,.no,.no,.no,.no,.no]=r [.sh (.list (ns.map .int)),.sh (af U),.ow (L.map af),.no,.no,.no,.no,.no,.no,.no]:=by
 have a0:=uL ns 0 [.sh (.list (ns.map .int)),.no,.no,.no,.no,.no,.no,.no,.no,.no] rfl
 obtain⟨U0,e0,u0,n1,n6⟩:=uH (ns.getD 0 0)
 have s0:Iz [.sh (.list (ns.map .int)),.no,.no,.no,.no,.no,.no,.no,.no,.no]=some ([.sh (.list (ns.map .int)),.sh (af U0),.no,.no,.no,.no,.no,.no,.no,.no],.nx):=gR (i:=1) (aG (ss:=[.sh (.int (ns.getD 0 0)),.sh (.int 6)]) (FR a0 rfl) rfl e0) (show 1 < 10 by decide)
 obtain⟨O,e1,d1,l1⟩:=v5 u0 ns hl
 have a1:ae false (aa 0) (ae false (pC (.int 1)) (ae false (aa 1) ak)) [.sh (.list (ns.map .int)),.sh (af U0),.no,.no,.no,.no,.no,.no,.no,.no]=some ([.sh (.list (ns.map .int)),.sh (.int 1),.sh (af U0)],[.sh (.list (ns.map .int)),.sh (af U0),.no,.no,.no,.no,.no,.no,.no,.no]):=rfl
 have s1:IB [.sh (.list (ns.map .int)),.sh (af U0),.no,.no,.no,.no,.no,.no,.no,.no]=some ([.sh (.list (ns.map .int)),.sh (af U0),.ow ((NhFam.aH (O++[U0])).map af),.no,.no,.no,.no,.no,.no,.no],.nx):=jd (i:=2) (aG a1 rfl e1) (show 2 < 10 by decide)
 have a2:=uL ns 0 [.sh (.list (ns.map .int)),.sh (af U0),.ow ((NhFam.aH (O++[U0])).map af),.no,.no,.no,.no,.no,.no,.no] rfl
 have c2:=vO (mf (mK a2 (g:=pC (.int 3)) (y:=3) rfl (by decide)) (g:=pC (.int 8)) (y:=8) rfl (by decide)) (g:=pC (.int 5)) (y:=5) rfl
 by_cases h:ns.getD 0 0 / 3 % 8=5
 ·rw[decide_eq_true h]at c2
  obtain⟨w1,w2,e3,g1,g2⟩:=xg (ns.getD 1 0) 4 (by decide) (by decide)
  have a3:=uL ns 1 [.sh (.list (ns.map .int)),.sh (af U0),.ow ((NhFam.aH (O++[U0])).map af),.no,.no,.no,.no,.no,.no,.no] rfl
  have s3:aB 2 (aj gb (ae false (aj bP (ae false (aa 0) (ae false (pC (.int 1)) ak))) (ae false (pC (.int 4)) ak))) [.sh (.list (ns.map .int)),.sh (af U0),.ow ((NhFam.aH (O++[U0])).map af),.no,.no,.no,.no,.no,.no,.no]=some ([.sh (.list (ns.map .int)),.sh (af U0),.ow ((NhFam.aH [aD w1,aD w2]).map af),.no,.no,.no,.no,.no,.no,.no],.nx):=jd (i:=2) (aG (ss:=[.sh (.int (ns.getD 1 0)),.sh (.int ((4:Nat):Int))]) (FR a3 rfl) rfl e3) (show 2 < 10 by decide)
  have uni:Uni (aD (w1++w2)):=⟨bQ _,fun a ha=>by
   rcases List.mem_append.mp (inOrd_mem.mp ha).2 with q |q
   ·exact g1.2.2 a q
   ·exact g2.2.2 a q,by
   have:=(bQ (w1++w2)).nodup.length_le_of_subset (l₂:=w1++w2) (fun x hx=>(inOrd_mem.mp hx).2)
   have:=g1.2.1
   have:=g2.2.1
   simp only[List.length_append]at *
   omega⟩
  have sub:∀v∈[aD w1,aD w2],NhFam.Sub (aD (w1++w2)) v:=fun v hv=>by
   rcases List.mem_cons.mp hv with q |q
   ·subst q
    exact⟨bQ _,fun x hx=>inOrd_mem.mpr ⟨(inOrd_mem.mp hx).1,List.mem_append.mpr (.inl (inOrd_mem.mp hx).2)⟩⟩
   ·rw[List.mem_singleton.mp q]
    exact⟨bQ _,fun x hx=>inOrd_mem.mpr ⟨(inOrd_mem.mp hx).1,List.mem_append.mpr (.inr (inOrd_mem.mp hx).2)⟩⟩
  have nn:∀w:List Nat,w≠[]→(∀a∈w,az a)→aD w≠[]:=fun w hw ha z=>by
   obtain⟨a,ia⟩:=List.exists_mem_of_ne_nil w hw
   have:a∈aD w:=inOrd_mem.mpr ⟨gQ (ha a ia),ia⟩
   rw[z]at this
   cases this
  have ll:(NhFam.aH [aD w1,aD w2]).length≤2:=by
   have:=og (NhFam.j6 [aD w1,aD w2]) []
   have e:(NhFam.j6 [aD w1,aD w2]).length=2:=(List.mergeSort_perm _ _).length_eq
   unfold NhFam.aH
   simp only[List.length_nil]at this
   omega
  have r0:=Rul.of uni sub (fun v hv=>by
   rcases List.mem_cons.mp hv with q |q
   ·rw[q];exact nn w1 g1.1 g1.2.2
   ·rw[List.mem_singleton.mp q];exact nn w2 g2.1 g2.2.2) (by simp) (by omega)
  have r:=r0.shrink
  generalize NhFam.aH [aD w1,aD w2]=L at s3 ll r
  have fl:L.flatten.length≤L.length*20:=vT r.w.tl
  have azF:∀y∈L.flatten,az y:=fun y hy=>by
   obtain⟨v,hv,hy⟩:=List.mem_flatten.mp hy
   exact r.u.azw (r.sub v hv) y hy
  have j1:=Cs (E:=[.sh (.list (ns.map .int)),.sh (af U0),.ow (L.map af),.no,.no,.no,.no,.no,.no,.no]) (f:=aa 2) (s:=.al 2) (L:=L) rfl rfl (by omega)
  have s4:aB 1 (eN "" (dC (eN "" (aa 2)))) [.sh (.list (ns.map .int)),.sh (af U0),.ow (L.map af),.no,.no,.no,.no,.no,.no,.no]=some ([.sh (.list (ns.map .int)),.sh (af (aD L.flatten)),.ow (L.map af),.no,.no,.no,.no,.no,.no,.no],.nx):=gR (i:=1) (Ae j1 azF (by omega)) (show 1 < 10 by decide)
  have s2:HE [.sh (.list (ns.map .int)),.sh (af U0),.ow ((NhFam.aH (O++[U0])).map af),.no,.no,.no,.no,.no,.no,.no]=some ([.sh (.list (ns.map .int)),.sh (af (aD L.flatten)),.ow (L.map af),.no,.no,.no,.no,.no,.no,.no],.nx):=jS c2 (by rw[aE s3];exact s4)
  exact⟨aD L.flatten,L,⟨r,DW r ll⟩,fun q=>by rw[aE s0,aE s1,aE s2]⟩
 ·rw[decide_eq_false h]at c2
  have s2:HE [.sh (.list (ns.map .int)),.sh (af U0),.ow ((NhFam.aH (O++[U0])).map af),.no,.no,.no,.no,.no,.no,.no]=some ([.sh (.list (ns.map .int)),.sh (af U0),.ow ((NhFam.aH (O++[U0])).map af),.no,.no,.no,.no,.no,.no,.no],.nx):=h9 c2 rfl
  have sub:∀w∈O++[U0],NhFam.Sub U0 w:=fun w hw=>by
   rcases List.mem_append.mp hw with q |q
   ·exact⟨List.Pairwise.sublist (d1 w q).2 u0.srt,fun x hx=>(d1 w q).2.subset hx⟩
   ·rw[List.mem_singleton.mp q];exact⟨u0.srt,NhFam.le.refl U0⟩
  have t:=NhFam.fj sub
  have cnt:=oQ _ (NhFam.eP U0) (lr t) fun w hw=>(NhFam.gY u0.srt).mpr (t.sub w hw)
  rw[NhFam.nT]at cnt
  have p6:2 ^ U0.length≤2 ^ 6:=Nat.pow_le_pow_right (by decide) n6
  have r:=Rul.of u0 sub (fun v hv=>by
   rcases List.mem_append.mp hv with q |q
   ·exact(d1 v q).1
   ·rw[List.mem_singleton.mp q];intro z;rw[z]at n1;simp at n1) (by simp) (by omega)
  exact⟨U0,_,⟨r,DU r n6⟩,fun q=>by rw[aE s0,aE s1,aE s2]⟩
theorem D0{E:List Sl}{f:bC}{j:Nat}{L:List (List Nat)}(hf:f E=some (.al j,E))(hj:E[j]? =some (.ow (L.map af)))(hl:L.length≤1000000):ft f E=some (.ow (L.map af),E):=by
 have fl:=cA L
 simp only[ft,hf,look,Sl.val,gJ,dO,Option.bind_some,hj,Option.any_some,Bool.not_false,fl,Bool.or_true,if_true]
theorem D1{E:List Sl}{f g:bC}{j:Nat}{A B:List Pc}(hf:f E=some (.al j,E))(hj:E[j]? =some (.ow (A.map aC)))(hg:g E=some (.ow (B.map aC),E))(hl:A.length+B.length≤1000000):ag aT false f g E=some (.ow ((A++B).map aC),E):=by
 simp only[ag,hf,Sl.isBr,Bool.false_and,Bool.false_eq_true,aT,look,Sl.val,gJ,dO,if_false,Option.bind_some,hg,hj,Option.any_some,Bool.not_false,Bool.true_or,Bool.and_true,List.length_map,hl,decide_true,if_true,List.map_append]
theorem Ct(x0 x1 x2 x3 x6 x7 x8 x9:Sl):∀(F:List (List Nat)) (c:List Pc) (a:Sl),HC F→c.length+(F.map sz).sum≤100000→∃a',bb kC jP (F.map af) [x0,x1,x2,x3,.ow (c.map aC),a,x6,x7,x8,x9]=some ([x0,x1,x2,x3,.ow ((c++dM F).map aC),a',x6,x7,x8,x9],.nx)
 |[],c,a,_,_=>⟨a,by rw[show dM []=[]from rfl,List.append_nil];rfl⟩
 |w::F,c,a,h,hl=>by
  have hw:=h w (List.mem_cons_self ..)
  have lw:(je 8 w).length=sz w:=lm 8 w
  simp only[List.map_cons,List.sum_cons]at hl
  have p:iX [af w]=some (.ow ((je 8 w).map aC)):=DK 7 w (by decide) hw.1 (by omega)
  have c1:aj iX (ae false (aa 5) ak) [x0,x1,x2,x3,.ow (c.map aC),.sh (af w),x6,x7,x8,x9]=some (.ow ((je 8 w).map aC),[x0,x1,x2,x3,.ow (c.map aC),.sh (af w),x6,x7,x8,x9]):=aG (ss:=[.sh (af w)]) rfl rfl p
  have c2:=D1 (f:=aa 4) (j:=4) (A:=c) rfl rfl c1 (by omega)
  have st:(kC (af w) [x0,x1,x2,x3,.ow (c.map aC),a,x6,x7,x8,x9]).bind jP=some ([x0,x1,x2,x3,.ow ((c++je 8 w).map aC),.sh (af w),x6,x7,x8,x9],.nx):=by
   show jP [x0,x1,x2,x3,.ow (c.map aC),.sh (af w),x6,x7,x8,x9]=_
   exact jd (i:=4) c2 (show 4 < 10 by decide)
  obtain⟨a',e⟩:=Ct x0 x1 x2 x3 x6 x7 x8 x9 F (c++je 8 w) (.sh (af w)) (fun v hv=>h v (List.mem_cons_of_mem _ hv)) (by rw[List.length_append];omega)
  refine⟨a',?_⟩
  rw[List.map_cons,bb,st]
  have e2:c++dM (w::F)=(c++je 8 w)++dM F:=by rw[List.append_assoc];rfl
  rw[e2]
  exact e
def IsL(s:Sl)(c:List Pc):Prop:=s=.ow (c.map aC)∨s=.sh (.list (c.map aC))
theorem IC(w:List Nat)(p:Pc):lY [.sh (aC p),.sh (.str ⟨w.toArray⟩)]=some (!decide (p.1∈w),[.sh (aC p),.sh (.str ⟨w.toArray⟩)]):=by
 have o:=p_ w p.1
 simp only[lY,cV,ag,aa,aC,List.getElem?_cons_zero,Sl.isBr,Bool.false_and,Bool.false_eq_true,pC,jf,look,Sl.val,gJ,dO,Option.bind_some,if_false,lz,Option.map_some,xT,fD,if_true,Ek,List.getElem?_cons_succ,o,Bool.not_not]
theorem xl{c:List Pc}(h:NailsOk c)(w:List Nat):NailsOk (stay w c):=fun p hp=>h p (List.mem_filter.mp hp).1
theorem vo(a:Bool):wv (.bool a) (.bool a)=some true:=by cases a <;> rfl
theorem yH{E:List Sl}{f:bC}{s:Sl}{c:List Pc}(hf:f E=some (s,E))(hs:look E s=some (.list (c.map aC))):ft f E=some (.ow (c.map aC),E):=by
 have fl:=fF c
 simp only[ft,hf,Option.bind_some,hs,fl,Bool.or_true,if_true]
theorem xm(c:List Pc):NH.qg c=NH.short c:=(NH.gy c).symm
theorem Cu{E E1:List Sl}{f:bC}{s:Sl}{d:List PyData}(hf:f E=some (s,E))(h:frz E s=some (.list d,E1)):aQ f E=some (d,E1):=by
 unfold aQ
 rw[hf,Option.bind_some,h]
 rfl
theorem Cv{E:List Sl}{f g:bC}{b:Bool}(hf:f E=some (.sh (.bool b),E))(hg:g E=some (.sh (.bool b),E)):cV (ag jX false f g) E=some (false,E):=by
 have q:=vo b
 simp only[cV,ag,hf,Sl.isBr,Bool.false_and,Bool.false_eq_true,jX,fD,look,Sl.val,if_false,Option.bind_some,hg,q,Option.map_some,Bool.not_true]
theorem D2{E:List Sl}{f:bC}{c:List Pc}(hc:NailsOk c)(hf:f E=some (.ow (c.map aC),E)):ag hZ false f (bD aZ) E=some (.sh (.bool (decide (c=[]))),E):=by
 have q:=nP hc
 simp only[ag,hf,Sl.isBr,Bool.false_and,Bool.false_eq_true,bD,aZ,Option.bind_some,List.length_nil,Nat.reduceLeDiff,if_true,hZ,fD,look,Sl.val,if_false,q,Option.map_some]
theorem D3{L:List (List Nat)}{c:List Pc}{w:List Nat}{b:Bool}(x0 x1 x3 s4 a5 x6 a7 a8 a9:Sl)(h4:IsL s4 c)(hc:c.length≤1000)(hN:NailsOk c)(aw:∀y∈w,az y)(lw:w.length≤1000)(hL:∀k∈L,k.length≤1000)(hb:decide (NH.short (stay w c)=[])=b)(hp:L.any (fun k=>decide (NhFam.le k w))=b):
  (jQ (af w) [x0,x1,.ow (L.map af),x3,s4,a5,x6,a7,a8,a9]).bind jR=some ([x0,x1,.ow (L.map af),x3,.sh (.list (c.map aC)),.sh (af w),x6,.ow ((stay w c).map aC),.sh (.bool b),.sh (.bool b)],.nx):=by
 have tg:jQ (af w) [x0,x1,.ow (L.map af),x3,s4,a5,x6,a7,a8,a9]=some [x0,x1,.ow (L.map af),x3,s4,.sh (af w),x6,a7,a8,a9]:=rfl
 have i7:aQ (aa 4) [x0,x1,.ow (L.map af),x3,s4,.sh (af w),x6,a7,a8,a9]=some (c.map aC,[x0,x1,.ow (L.map af),x3,.sh (.list (c.map aC)),.sh (af w),x6,a7,a8,a9]):=by
  rcases h4 with h |h <;> subst h
  ·exact Cu (s:=.al 4) rfl rfl
  ·exact Cu (s:=.sh (.list (c.map aC))) rfl rfl
 have sl:=rH w c
 have p7:=gv (js:=[none,some 5]) i7 (uI (tg:=qS) (cd:=lY) (el:=qT) (u:=.sh (af w)) w (fun _ _=>rfl) (IC w) (fun _=>rfl) c .no) (fF _) (by rw[List.length_map];omega)
 have s7:=jd (i:=7) p7 (show 7 < 10 by decide)
 simp only[List.set_cons_succ,List.set_cons_zero]at s7
 have c8:aj be (ae false (aa 5) (ae false (aa 2) ak)) [x0,x1,.ow (L.map af),x3,.sh (.list (c.map aC)),.sh (af w),x6,.ow ((stay w c).map aC),a8,a9]=some (.sh (.bool b),[x0,x1,.ow (L.map af),x3,.sh (.list (c.map aC)),.sh (af w),x6,.ow ((stay w c).map aC),a8,a9]):=by
  rw[←hp]
  exact aG (ss:=[.sh (af w),.al 2]) rfl rfl (vZ w L hL)
 have s8:=gR (i:=8) c8 (show 8 < 10 by decide)
 simp only[List.set_cons_succ,List.set_cons_zero]at s8
 have nS:=xl hN w
 have r9:=vW (stay w c) (by omega) nS
 rw[xm]at r9
 have c9:aj fq (ae false (aa 7) ak) [x0,x1,.ow (L.map af),x3,.sh (.list (c.map aC)),.sh (af w),x6,.ow ((stay w c).map aC),.sh (.bool b),a9]=some (.ow ((NH.short (stay w c)).map aC),[x0,x1,.ow (L.map af),x3,.sh (.list (c.map aC)),.sh (af w),x6,.ow ((stay w c).map aC),.sh (.bool b),a9]):=aG (ss:=[.al 7]) rfl rfl r9
 have q9:=D2 nS.short c9
 rw[hb]at q9
 have v8:aa 8 [x0,x1,.ow (L.map af),x3,.sh (.list (c.map aC)),.sh (af w),x6,.ow ((stay w c).map aC),.sh (.bool b),a9]=some (.sh (.bool b),[x0,x1,.ow (L.map af),x3,.sh (.list (c.map aC)),.sh (af w),x6,.ow ((stay w c).map aC),.sh (.bool b),a9]):=rfl
 have s9:bg (cV (ag jX false (ag hZ false (aj fq (ae false (aa 7) ak)) (bD aZ)) (aa 8))) (aN (pC (.bool false))) aL [x0,x1,.ow (L.map af),x3,.sh (.list (c.map aC)),.sh (af w),x6,.ow ((stay w c).map aC),.sh (.bool b),a9]=some ([x0,x1,.ow (L.map af),x3,.sh (.list (c.map aC)),.sh (af w),x6,.ow ((stay w c).map aC),.sh (.bool b),a9],.nx):=h9 (Cv q9 v8) rfl
 have l10:=yH (E:=[x0,x1,.ow (L.map af),x3,.sh (.list (c.map aC)),.sh (af w),x6,.ow ((stay w c).map aC),.sh (.bool b),a9]) (f:=aa 4) (c:=c) rfl rfl
 have fw:=kJ aw lw c (by omega)
 rw[hb]at fw
 have c10:aj bh (ae false (ft (aa 4)) (ae false (aa 5) ak)) [x0,x1,.ow (L.map af),x3,.sh (.list (c.map aC)),.sh (af w),x6,.ow ((stay w c).map aC),.sh (.bool b),a9]=some (.sh (.bool b),[x0,x1,.ow (L.map af),x3,.sh (.list (c.map aC)),.sh (af w),x6,.ow ((stay w c).map aC),.sh (.bool b),a9]):=aG (ss:=[.ow (c.map aC),.sh (af w)]) (FR l10 rfl) rfl fw
 have s10:=gR (i:=9) c10 (show 9 < 10 by decide)
 simp only[List.set_cons_succ,List.set_cons_zero]at s10
 have o1:d0 (dw (ki (lG .bool) (aa 9))) [x0,x1,.ow (L.map af),x3,.sh (.list (c.map aC)),.sh (af w),x6,.ow ((stay w c).map aC),.sh (.bool b),.sh (.bool b)]=some (false,[x0,x1,.ow (L.map af),x3,.sh (.list (c.map aC)),.sh (af w),x6,.ow ((stay w c).map aC),.sh (.bool b),.sh (.bool b)]):=by simp only[d0,dw,ki,aa,List.getElem?_cons_succ,List.getElem?_cons_zero,look,Sl.val,lG,Ty.is,Cz,Option.map_some,Option.bind_some,i_,Bool.not_true]
 have o2:=Cv (E:=[x0,x1,.ow (L.map af),x3,.sh (.list (c.map aC)),.sh (af w),x6,.ow ((stay w c).map aC),.sh (.bool b),.sh (.bool b)]) (f:=aa 9) (g:=aa 8) (b:=b) rfl rfl
 rw[tg,Option.bind_some,jR,aE s7,aE s8,aE s9,aE s10]
 exact h9 (BN o1 o2) rfl
theorem yI{U:List Nat}{L:List (List Nat)}(r:Rul U L)(h8:((mt L).map sz).sum≤800)(x0 x1 x3 x6:Sl):∀(F:List (List Nat)) (s4 a5 a7 a8 a9:Sl),IsL s4 (dM (mt L))→(∀w∈F,NhFam.Sub U w)→∃s4' a5' a7' a8' a9',bb jQ jR (F.map af) [x0,x1,.ow (L.map af),x3,s4,a5,x6,a7,a8,a9]=some ([x0,x1,.ow (L.map af),x3,s4',a5',x6,a7',a8',a9'],.nx)∧IsL s4' (dM (mt L))
 |[],s4,a5,a7,a8,a9,h4,_=>⟨s4,a5,a7,a8,a9,rfl,h4⟩
 |w::F,s4,a5,a7,a8,a9,h4,hF=>by
  have hw:=hF w (List.mem_cons_self ..)
  have lc:=uF (mt L)
  have st:=D3 (L:=L) (c:=dM (mt L)) (w:=w) x0 x1 x3 s4 a5 x6 a7 a8 a9 h4 (by omega) r.cord.n (r.u.azw hw) (by have:=r.u.short hw;omega) (fun k hk=>by have:=r.u.short (r.sub k hk);omega) (r.falls hw) rfl
  obtain⟨b4,b5,b7,b8,b9,e,hb⟩:=yI r h8 x0 x1 x3 x6 F _ _ _ _ _ (.inr rfl) fun v hv=>hF v (List.mem_cons_of_mem _ hv)
  refine⟨b4,b5,b7,b8,b9,?_,hb⟩
  rw[List.map_cons,bb,st]
  exact e
theorem Gk{E:List Sl}{f g:bC}{s1 s2:Sl}{c:List Pc}(hc:NailsOk c)(hf:f E=some (s1,E))(hg:g E=some (s2,E))(l1:look E s1=some (.list (c.map aC)))(l2:look E s2=some (.list (c.map aC))):cV (ag jX false f g) E=some (false,E):=by
 have q:=qJ hc hc
 simp only[decide_true]at q
 have p:jX=jX:=rfl
 simp only[cV,ag,hf,hg,Option.bind_some,l1,l2,Bool.false_and,Bool.false_eq_true,if_false,jX,fD,q,Option.map_some,Bool.not_true]
theorem D4{E:List Sl}{f g:bC}{s1 s2:Sl}{c:List Pc}(hc:NailsOk c)(hf:f E=some (s1,E))(hg:g E=some (s2,E))(l1:look E s1=some (.list (c.map aC)))(l2:look E s2=some (.list (c.map aC))):ag hZ false f g E=some (.sh (.bool true),E):=by
 have q:=qJ hc hc
 simp only[decide_true]at q
 simp only[ag,hf,hg,Option.bind_some,l1,l2,Bool.false_and,Bool.false_eq_true,if_false,hZ,fD,q,Option.map_some]
theorem IsL.var{s:Sl}{c:List Pc}(h:IsL s c){E:List Sl}{i:Nat}(e:E[i]? =some s):∃z,aa i E=some (z,E)∧PL.look E z=some (.list (c.map aC)):=by
 rcases h with h |h <;> subst h
 ·exact⟨.al i,by simp only[aa,e,Option.bind_some],by simp only[PL.look,e];rfl⟩
 ·exact⟨.sh (.list (c.map aC)),by simp only[aa,e,Option.bind_some],rfl⟩
theorem Ak:vD=aA Iz (aA IB (aA HE (aA (aB 3 (aj cm (ae false (aa 2) (ae false (aa 1) ak)))) (aA (aB 4 (bD aZ)) (aA (cw (aQ (aa 3)) kC jP) (aA (aB 6 (aj cU (ae false (ft (aa 2)) ak))) (aA (bg (lS (d0 (dw (aj bR (ae false (aa 6) ak)))) (cV (ag jX false (aa 6) (aa 4)))) (aN (pC (.bool false))) aL) (aA (cw (aQ (aj cr (ae false (aa 1) ak))) jQ jR) (aA (bg (lS (cV (ag jX false (aj aS (ae false (ft (aa 4)) ak)) (aa 2))) (cV (ag jX false (aj bT (ae false (ft (aa 4)) ak)) (aa 3)))) (aN (pC (.bool false))) aL) (aA (bU (aU 6 (gX (aV (pC (.str "a")) (aV (pC (.int 1)) aZ))))) (aN (ag hZ false (aj cU (ae false (aa 2) ak)) (aa 4))))))))))))):=rfl
theorem Gm(ns:List Int)(hl:ns.length≤63):nr [.list (ns.map .int)]=some (.sh (.bool true)):=by
 obtain⟨U,L,⟨r,h8⟩,st⟩:=Hw ns hl
 have ll:=r.w.len
 have az':∀w∈L,∀a∈w,az a:=fun w hw=>r.u.azw (r.sub w hw)
 have azm:∀w∈mt L,∀a∈w,az a:=fun w hw=>r.u.azw (r.meet.sub w hw)
 have lc:=uF (mt L)
 have hN:=r.cord.n
 have c3:aj cm (ae false (aa 2) (ae false (aa 1) ak)) [.sh (.list (ns.map .int)),.sh (af U),.ow (L.map af),.no,.no,.no,.no,.no,.no,.no]=some (.ow ((mt L).map af),[.sh (.list (ns.map .int)),.sh (af U),.ow (L.map af),.no,.no,.no,.no,.no,.no,.no]):=aG (ss:=[.al 2,.sh (af U)]) rfl rfl (rG r)
 have s3:aB 3 (aj cm (ae false (aa 2) (ae false (aa 1) ak))) [.sh (.list (ns.map .int)),.sh (af U),.ow (L.map af),.no,.no,.no,.no,.no,.no,.no]=some ([.sh (.list (ns.map .int)),.sh (af U),.ow (L.map af),.ow ((mt L).map af),.no,.no,.no,.no,.no,.no],.nx):=jd (i:=3) c3 (show 3 < 10 by decide)
 have t4:aB 4 (bD aZ) [.sh (.list (ns.map .int)),.sh (af U),.ow (L.map af),.ow ((mt L).map af),.no,.no,.no,.no,.no,.no]=some ([.sh (.list (ns.map .int)),.sh (af U),.ow (L.map af),.ow ((mt L).map af),.ow [],.no,.no,.no,.no,.no],.nx):=by
  have z:bD aZ [.sh (.list (ns.map .int)),.sh (af U),.ow (L.map af),.ow ((mt L).map af),.no,.no,.no,.no,.no,.no]=some (.ow [],[.sh (.list (ns.map .int)),.sh (af U),.ow (L.map af),.ow ((mt L).map af),.no,.no,.no,.no,.no,.no]):=by simp only[bD,aZ,Option.bind_some,List.length_nil,Nat.reduceLeDiff,if_true]
  exact jd (i:=4) z (show 4 < 10 by decide)
 obtain⟨a,e5⟩:=Ct (.sh (.list (ns.map .int))) (.sh (af U)) (.ow (L.map af)) (.sh (.list ((mt L).map af))) .no .no .no .no (mt L) [] .no r.few (by simp only[List.length_nil];omega)
 rw[List.nil_append]at e5
 have i5:aQ (aa 3) [.sh (.list (ns.map .int)),.sh (af U),.ow (L.map af),.ow ((mt L).map af),.ow [],.no,.no,.no,.no,.no]=some ((mt L).map af,[.sh (.list (ns.map .int)),.sh (af U),.ow (L.map af),.sh (.list ((mt L).map af)),.ow [],.no,.no,.no,.no,.no]):=Cu (s:=.al 3) rfl rfl
 have s5:cw (aQ (aa 3)) kC jP [.sh (.list (ns.map .int)),.sh (af U),.ow (L.map af),.ow ((mt L).map af),.ow [],.no,.no,.no,.no,.no]=some ([.sh (.list (ns.map .int)),.sh (af U),.ow (L.map af),.sh (.list ((mt L).map af)),.ow ((dM (mt L)).map aC),a,.no,.no,.no,.no],.nx):=by
  unfold cw
  rw[i5,Option.bind_some]
  exact e5
 have l6:=D0 (E:=[.sh (.list (ns.map .int)),.sh (af U),.ow (L.map af),.sh (.list ((mt L).map af)),.ow ((dM (mt L)).map aC),a,.no,.no,.no,.no]) (f:=aa 2) (j:=2) (L:=L) rfl rfl (by omega)
 have c6:aj cU (ae false (ft (aa 2)) ak) [.sh (.list (ns.map .int)),.sh (af U),.ow (L.map af),.sh (.list ((mt L).map af)),.ow ((dM (mt L)).map aC),a,.no,.no,.no,.no]=some (.ow ((dM (mt L)).map aC),[.sh (.list (ns.map .int)),.sh (af U),.ow (L.map af),.sh (.list ((mt L).map af)),.ow ((dM (mt L)).map aC),a,.no,.no,.no,.no]):=aG (ss:=[.ow (L.map af)]) (Et l6) rfl (yt r h8)
 have s6:aB 6 (aj cU (ae false (ft (aa 2)) ak)) [.sh (.list (ns.map .int)),.sh (af U),.ow (L.map af),.sh (.list ((mt L).map af)),.ow ((dM (mt L)).map aC),a,.no,.no,.no,.no]=some ([.sh (.list (ns.map .int)),.sh (af U),.ow (L.map af),.sh (.list ((mt L).map af)),.ow ((dM (mt L)).map aC),a,.ow ((dM (mt L)).map aC),.no,.no,.no],.nx):=jd (i:=6) c6 (show 6 < 10 by decide)
 have k7:aj bR (ae false (aa 6) ak) [.sh (.list (ns.map .int)),.sh (af U),.ow (L.map af),.sh (.list ((mt L).map af)),.ow ((dM (mt L)).map aC),a,.ow ((dM (mt L)).map aC),.no,.no,.no]=some (.sh (.bool true),[.sh (.list (ns.map .int)),.sh (af U),.ow (L.map af),.sh (.list ((mt L).map af)),.ow ((dM (mt L)).map aC),a,.ow ((dM (mt L)).map aC),.no,.no,.no]):=aG (ss:=[.al 6]) rfl rfl (rC _)
 have o7:d0 (dw (aj bR (ae false (aa 6) ak))) [.sh (.list (ns.map .int)),.sh (af U),.ow (L.map af),.sh (.list ((mt L).map af)),.ow ((dM (mt L)).map aC),a,.ow ((dM (mt L)).map aC),.no,.no,.no]=some (false,[.sh (.list (ns.map .int)),.sh (af U),.ow (L.map af),.sh (.list ((mt L).map af)),.ow ((dM (mt L)).map aC),a,.ow ((dM (mt L)).map aC),.no,.no,.no]):=by
  simp only[d0,dw,k7,Option.bind_some,PL.look,Sl.val,i_,Option.map_some,Bool.not_true]
 have n7:=Gk (E:=[.sh (.list (ns.map .int)),.sh (af U),.ow (L.map af),.sh (.list ((mt L).map af)),.ow ((dM (mt L)).map aC),a,.ow ((dM (mt L)).map aC),.no,.no,.no]) (f:=aa 6) (g:=aa 4) (s1:=.al 6) (s2:=.al 4) hN rfl rfl rfl rfl
 have s7:bg (lS (d0 (dw (aj bR (ae false (aa 6) ak)))) (cV (ag jX false (aa 6) (aa 4)))) (aN (pC (.bool false))) aL [.sh (.list (ns.map .int)),.sh (af U),.ow (L.map af),.sh (.list ((mt L).map af)),.ow ((dM (mt L)).map aC),a,.ow ((dM (mt L)).map aC),.no,.no,.no]=some ([.sh (.list (ns.map .int)),.sh (af U),.ow (L.map af),.sh (.list ((mt L).map af)),.ow ((dM (mt L)).map aC),a,.ow ((dM (mt L)).map aC),.no,.no,.no],.nx):=h9 (BN o7 n7) rfl
 have c8:aj cr (ae false (aa 1) ak) [.sh (.list (ns.map .int)),.sh (af U),.ow (L.map af),.sh (.list ((mt L).map af)),.ow ((dM (mt L)).map aC),a,.ow ((dM (mt L)).map aC),.no,.no,.no]=some (.ow ((NhFam.eP U).map af),[.sh (.list (ns.map .int)),.sh (af U),.ow (L.map af),.sh (.list ((mt L).map af)),.ow ((dM (mt L)).map aC),a,.ow ((dM (mt L)).map aC),.no,.no,.no]):=aG (ss:=[.sh (af U)]) rfl rfl (by rw[pk];exact uA U r.u.len)
 obtain⟨s4,a5,a7,a8,a9,e8,h4⟩:=yI r h8 (.sh (.list (ns.map .int))) (.sh (af U)) (.sh (.list ((mt L).map af))) (.ow ((dM (mt L)).map aC)) (NhFam.eP U) (.ow ((dM (mt L)).map aC)) a .no .no .no (.inl rfl) fun w hw=>(NhFam.gY r.u.srt).mp hw
 have s8:cw (aQ (aj cr (ae false (aa 1) ak))) jQ jR [.sh (.list (ns.map .int)),.sh (af U),.ow (L.map af),.sh (.list ((mt L).map af)),.ow ((dM (mt L)).map aC),a,.ow ((dM (mt L)).map aC),.no,.no,.no]=some ([.sh (.list (ns.map .int)),.sh (af U),.ow (L.map af),.sh (.list ((mt L).map af)),s4,a5,.ow ((dM (mt L)).map aC),a7,a8,a9],.nx):=by
  unfold cw
  rw[Cb c8,Option.bind_some]
  exact e8
 obtain⟨z4,v4,k4⟩:=h4.var (E:=[.sh (.list (ns.map .int)),.sh (af U),.ow (L.map af),.sh (.list ((mt L).map af)),s4,a5,.ow ((dM (mt L)).map aC),a7,a8,a9]) (i:=4) rfl
 have l9:=yH v4 k4
 have c9:aj aS (ae false (ft (aa 4)) ak) [.sh (.list (ns.map .int)),.sh (af U),.ow (L.map af),.sh (.list ((mt L).map af)),s4,a5,.ow ((dM (mt L)).map aC),a7,a8,a9]=some (.ow (L.map af),[.sh (.list (ns.map .int)),.sh (af U),.ow (L.map af),.sh (.list ((mt L).map af)),s4,a5,.ow ((dM (mt L)).map aC),a7,a8,a9]):=aG (ss:=[.ow ((dM (mt L)).map aC)]) (Et l9) rfl (oi r h8)
 have d9:aj bT (ae false (ft (aa 4)) ak) [.sh (.list (ns.map .int)),.sh (af U),.ow (L.map af),.sh (.list ((mt L).map af)),s4,a5,.ow ((dM (mt L)).map aC),a7,a8,a9]=some (.ow ((mt L).map af),[.sh (.list (ns.map .int)),.sh (af U),.ow (L.map af),.sh (.list ((mt L).map af)),s4,a5,.ow ((dM (mt L)).map aC),a7,a8,a9]):=aG (ss:=[.ow ((dM (mt L)).map aC)]) (Et l9) rfl (uK r h8)
 have n9:=B4 (L:=L) (g:=aa 2) (s2:=.al 2) c9 rfl rfl rfl az'
 have m9:=B4 (L:=mt L) (g:=aa 3) (s2:=.sh (.list ((mt L).map af))) d9 rfl rfl rfl azm
 have s9:bg (lS (cV (ag jX false (aj aS (ae false (ft (aa 4)) ak)) (aa 2))) (cV (ag jX false (aj bT (ae false (ft (aa 4)) ak)) (aa 3)))) (aN (pC (.bool false))) aL [.sh (.list (ns.map .int)),.sh (af U),.ow (L.map af),.sh (.list ((mt L).map af)),s4,a5,.ow ((dM (mt L)).map aC),a7,a8,a9]=some ([.sh (.list (ns.map .int)),.sh (af U),.ow (L.map af),.sh (.list ((mt L).map af)),s4,a5,.ow ((dM (mt L)).map aC),a7,a8,a9],.nx):=h9 (BN n9 m9) rfl
 have b1:(dM (mt L)).length < 1000000:=by omega
 have s10:bU (aU 6 (gX (aV (pC (.str "a")) (aV (pC (.int 1)) aZ)))) [.sh (.list (ns.map .int)),.sh (af U),.ow (L.map af),.sh (.list ((mt L).map af)),s4,a5,.ow ((dM (mt L)).map aC),a7,a8,a9]=some ([.sh (.list (ns.map .int)),.sh (af U),.ow (L.map af),.sh (.list ((mt L).map af)),s4,a5,.ow ((dM (mt L)).map aC++[.tuple [.str "a",.int 1]]),a7,a8,a9],.nx):=by
  simp only[bU,aU,List.getElem?_cons_succ,List.getElem?_cons_zero,gX,aV,pC,frz,aZ,Option.map_some,Option.bind_some,List.length_cons,List.length_nil,Nat.zero_add,Nat.reduceAdd,Nat.reduceLeDiff,if_true,List.length_map,b1,List.set_cons_succ,List.set_cons_zero]
 obtain⟨y4,w4,j4⟩:=h4.var (E:=[.sh (.list (ns.map .int)),.sh (af U),.ow (L.map af),.sh (.list ((mt L).map af)),s4,a5,.ow ((dM (mt L)).map aC++[.tuple [.str "a",.int 1]]),a7,a8,a9]) (i:=4) rfl
 have c11:aj cU (ae false (aa 2) ak) [.sh (.list (ns.map .int)),.sh (af U),.ow (L.map af),.sh (.list ((mt L).map af)),s4,a5,.ow ((dM (mt L)).map aC++[.tuple [.str "a",.int 1]]),a7,a8,a9]=some (.ow ((dM (mt L)).map aC),[.sh (.list (ns.map .int)),.sh (af U),.ow (L.map af),.sh (.list ((mt L).map af)),s4,a5,.ow ((dM (mt L)).map aC++[.tuple [.str "a",.int 1]]),a7,a8,a9]):=aG (ss:=[.al 2]) rfl rfl (yt r h8)
 have q11:=D4 hN c11 w4 rfl j4
 have g:nr [.list (ns.map .int)]=(vD [.sh (.list (ns.map .int)),.no,.no,.no,.no,.no,.no,.no,.no,.no]).bind fun a=>match a.2 with |.rt r=>bS r |.nx=>some (.sh .none) |_=>none:=rfl
 rw[g,Ak,st,aE s3,aE t4,aE s5,aE s6,aE s7,aE s8,aE s9,aE s10]
 simp only[aN,q11,Option.map_some,Option.bind_some,bS]
 rfl
end Nhk53
namespace Nhk53
open PySem L2 Nh PL
open PySem.W (nsIn codeIn keepIn fnOf)
theorem hO{fd:FuncData}{xs:List Str}(h:∀a0,bindArgs fd ⟨[a0],[]⟩=pure (xs.zip [a0])):∀us:List Value,us.length=1→bindArgs fd ⟨us,[]⟩=pure (xs.zip us)
 |[a0],_=>h a0
theorem pP{fd:FuncData}{xs:List Str}(h:∀a0 a1,bindArgs fd ⟨[a0,a1],[]⟩=pure (xs.zip [a0,a1])):∀us:List Value,us.length=2→bindArgs fd ⟨us,[]⟩=pure (xs.zip us)
 |[a0,a1],_=>h a0 a1
theorem ID{fd:FuncData}{xs:List Str}(h:∀a0 a1 a2,bindArgs fd ⟨[a0,a1,a2],[]⟩=pure (xs.zip [a0,a1,a2])):∀us:List Value,us.length=3→bindArgs fd ⟨us,[]⟩=pure (xs.zip us)
 |[a0,a1,a2],_=>h a0 a1 a2
theorem Gn {l:PySem.W.OpenLaw} {w:World} {K:PySem.W.Frag} {h:Heap} {mg:Str→Option Value} {fa f1 f2 f3 f4 f5 f6 f7 f8 f9 f10 f11 f12 f13 f14 f15 f16 f17 f18 f19 f20 f21 f22 f23 f24 f25 f26 f27 f28 f29 f30 f31 f32 f33 f34 f35 f36 f37 f38 f39 f40 f41 f42 f43:Addr} (X:K.In h) (G:h.Ns mainGlobals mg) (hfa:mg "law"=some (.ref fa))
  {od1 od2 od3 od4 od5 od6 od7 od8 od9 od10 od11 od12 od13 od14 od15 od16 od17 od18 od19 od20 od21 od22 od23 od24 od25 od26 od27 od28 od29 od30 od31 od32 od33 od34 od35 od36 od37 od38 od39 od40 od41 od42 od43 an1 an2 an3 an4 an5 an6 an7 an8 an9 an10 an11 an12 an13 an14 an15 an16 an17 an18 an19 an20 an21 an22 an23 an24 an25 an26 an27 an28 an29 an30 an31 an32 an33 an34 an35 an36 an37 an38 an39 an40 an41 an42 an43:Option Addr} {sl1 sl2 sl3 sl4 sl5 sl6 sl7 sl8 sl9 sl10 sl11 sl12 sl13 sl14 sl15 sl16 sl17 sl18 sl19 sl20 sl21 sl22 sl23 sl24 sl25 sl26 sl27 sl28 sl29 sl30 sl31 sl32 sl33 sl34 sl35 sl36 sl37 sl38 sl39 sl40 sl41 sl42 sl43:Array (Option Value)} {oc1 kV1 dc1 pm1 cd1 ct1 oc2 kV2 dc2 pm2 cd2 ct2 oc3 kV3 dc3 pm3 cd3 ct3 oc4 kV4 dc4 pm4 cd4 ct4 oc5 kV5 dc5 pm5 cd5 ct5 oc6 kV6 dc6 pm6 cd6 ct6 oc7 kV7 dc7 pm7 cd7 ct7 oc8 kV8 dc8 pm8 cd8 ct8 oc9 kV9 dc9 pm9 cd9 ct9 oc10 kV10 dc10 pm10 cd10 ct10 oc11 kV11 dc11 pm11 cd11 ct11 oc12 kV12 dc12 pm12 ct12 oc13 kV13 dc13 pm13 cd13 ct13 oc14 kV14 dc14 pm14 cd14 ct14 oc15 kV15 dc15 pm15 cd15 ct15 oc16 kV16 dc16 pm16 cd16 ct16 oc17 kV17 dc17 pm17 cd17 ct17 oc18 kV18 dc18 pm18 cd18 ct18 oc19 kV19 dc19 pm19 cd19 ct19 oc20 kV20 dc20 pm20 cd20 ct20 oc21 kV21 dc21 pm21 cd21 ct21 oc22 kV22 dc22 pm22 cd22 ct22 oc23 kV23 dc23 pm23 cd23 ct23 oc24 kV24 dc24 pm24 cd24 ct24 oc25 kV25 dc25 pm25 cd25 ct25 oc26 kV26 dc26 pm26 cd26 ct26 oc27 kV27 dc27 pm27 cd27 ct27 oc28 kV28 dc28 pm28 cd28 ct28 oc29 kV29 dc29 pm29 cd29 ct29 oc30 kV30 dc30 pm30 cd30 ct30 oc31 kV31 dc31 pm31 cd31 ct31 oc32 kV32 dc32 pm32 cd32 ct32 oc33 kV33 dc33 pm33 cd33 ct33 oc34 kV34 dc34 pm34 cd34 ct34 oc35 kV35 dc35 pm35 cd35 ct35 oc36 kV36 dc36 pm36 cd36 ct36 oc37 kV37 dc37 pm37 cd37 ct37 oc38 kV38 dc38 pm38 cd38 ct38 oc39 kV39 dc39 pm39 cd39 ct39 oc40 kV40 dc40 pm40 cd40 ct40 oc41 kV41 dc41 pm41 cd41 ct41 oc42 kV42 dc42 pm42 cd42 ct42 oc43 kV43 dc43 pm43 cd43 ct43:Value}
  (a1:nsIn K mainGlobals "is_nail"=some (some (.ref f1))) (l1:K.lookup f1=some ⟨oc1,od1,.func (fnOf "is_nail" "is_nail" (aF jv) (av jv) (ah jv) .none kV1 dc1 pm1 an1 cd1 ct1),sl1⟩) (c1:codeIn K cd1 "is_nail"=true) (k1:keepIn K (.ref f1)=true)
  (a2:nsIn K mainGlobals "short_form"=some (some (.ref f2))) (l2:K.lookup f2=some ⟨oc2,od2,.func (fnOf "short_form" "short_form" (aF gk) (av gk) (ah gk) .none kV2 dc2 pm2 an2 cd2 ct2),sl2⟩) (c2:codeIn K cd2 "short_form"=true) (k2:keepIn K (.ref f2)=true)
  (a3:nsIn K mainGlobals "is_fall"=some (some (.ref f3))) (l3:K.lookup f3=some ⟨oc3,od3,.func (fnOf "is_fall" "is_fall" (aF jw) (av jw) (ah jw) .none kV3 dc3 pm3 an3 cd3 ct3),sl3⟩) (c3:codeIn K cd3 "is_fall"=true) (k3:keepIn K (.ref f3)=true)
  (a4:nsIn K mainGlobals "joined"=some (some (.ref f4))) (l4:K.lookup f4=some ⟨oc4,od4,.func (fnOf "joined" "joined" (aF kD) (av kD) (ah kD) .none kV4 dc4 pm4 an4 cd4 ct4),sl4⟩) (c4:codeIn K cd4 "joined"=true) (k4:keepIn K (.ref f4)=true)
  (a5:nsIn K mainGlobals "contrary"=some (some (.ref f5))) (l5:K.lookup f5=some ⟨oc5,od5,.func (fnOf "contrary" "contrary" (aF iw) (av iw) (ah iw) .none kV5 dc5 pm5 an5 cd5 ct5),sl5⟩) (c5:codeIn K cd5 "contrary"=true) (k5:keepIn K (.ref f5)=true)
  (a6:nsIn K mainGlobals "there_and_back"=some (some (.ref f6))) (l6:K.lookup f6=some ⟨oc6,od6,.func (fnOf "there_and_back" "there_and_back" (aF du) (av du) (ah du) .none kV6 dc6 pm6 an6 cd6 ct6),sl6⟩) (c6:codeIn K cd6 "there_and_back"=true) (k6:keepIn K (.ref f6)=true)
  (a7:nsIn K mainGlobals "set_of"=some (some (.ref f7))) (l7:K.lookup f7=some ⟨oc7,od7,.func (fnOf "set_of" "set_of" (aF kE) (av kE) (ah kE) .none kV7 dc7 pm7 an7 cd7 ct7),sl7⟩) (c7:codeIn K cd7 "set_of"=true) (k7:keepIn K (.ref f7)=true)
  (a8:nsIn K mainGlobals "nails_of"=some (some (.ref f8))) (l8:K.lookup f8=some ⟨oc8,od8,.func (fnOf "nails_of" "nails_of" (aF iy) (av iy) (ah iy) .none kV8 dc8 pm8 an8 cd8 ct8),sl8⟩) (c8:codeIn K cd8 "nails_of"=true) (k8:keepIn K (.ref f8)=true)
  (a9:nsIn K mainGlobals "without"=some (some (.ref f9))) (l9:K.lookup f9=some ⟨oc9,od9,.func (fnOf "without" "without" (aF jx) (av jx) (ah jx) .none kV9 dc9 pm9 an9 cd9 ct9),sl9⟩) (c9:codeIn K cd9 "without"=true) (k9:keepIn K (.ref f9)=true)
  (a10:nsIn K mainGlobals "falls_without"=some (some (.ref f10))) (l10:K.lookup f10=some ⟨oc10,od10,.func (fnOf "falls_without" "falls_without" (aF dU) (av dU) (ah dU) .none kV10 dc10 pm10 an10 cd10 ct10),sl10⟩) (c10:codeIn K cd10 "falls_without"=true) (k10:keepIn K (.ref f10)=true)
  (a11:nsIn K mainGlobals "bits_of"=some (some (.ref f11))) (l11:K.lookup f11=some ⟨oc11,od11,.func (fnOf "bits_of" "bits_of" (aF jy) (av jy) (ah jy) .none kV11 dc11 pm11 an11 cd11 ct11),sl11⟩) (c11:codeIn K cd11 "bits_of"=true) (k11:keepIn K (.ref f11)=true)
  {cT PT:Addr} {vsT:Array Value} {ocT:Value} {odT:Option Addr} {slT:Array (Option Value)} (a12:nsIn K mainGlobals "in_told_order"=some (some (.ref f12))) (l12:K.lookup f12=some ⟨oc12,od12,.func (fnOf "in_told_order" "in_told_order" (aF dW) (av dW) (ah dW) .none kV12 dc12 pm12 an12 (.ref cT) ct12),sl12⟩) (c12:codeIn K (.ref cT) "in_told_order"=true) (k12:keepIn K (.ref f12)=true)
  (t1:K.lookup cT=some ⟨ocT,odT,.fields vsT,slT⟩) (t2:(vsT[11]? :Option Value)=some (.ref PT)) (t3:PySem.W.codeHdIn K cT PT=true)
  (a13:nsIn K mainGlobals "has_part_among"=some (some (.ref f13))) (l13:K.lookup f13=some ⟨oc13,od13,.func (fnOf "has_part_among" "has_part_among" (aF dv) (av dv) (ah dv) .none kV13 dc13 pm13 an13 cd13 ct13),sl13⟩) (c13:codeIn K cd13 "has_part_among"=true) (k13:keepIn K (.ref f13)=true)
  (a14:nsIn K mainGlobals "meets_each"=some (some (.ref f14))) (l14:K.lookup f14=some ⟨oc14,od14,.func (fnOf "meets_each" "meets_each" (aF gl) (av gl) (ah gl) .none kV14 dc14 pm14 an14 cd14 ct14),sl14⟩) (c14:codeIn K cd14 "meets_each"=true) (k14:keepIn K (.ref f14)=true)
  (a15:nsIn K mainGlobals "least_of"=some (some (.ref f15))) (l15:K.lookup f15=some ⟨oc15,od15,.func (fnOf "least_of" "least_of" (aF iz) (av iz) (ah iz) .none kV15 dc15 pm15 an15 cd15 ct15),sl15⟩) (c15:codeIn K cd15 "least_of"=true) (k15:keepIn K (.ref f15)=true)
  (a16:nsIn K mainGlobals "all_sets"=some (some (.ref f16))) (l16:K.lookup f16=some ⟨oc16,od16,.func (fnOf "all_sets" "all_sets" (aF iA) (av iA) (ah iA) .none kV16 dc16 pm16 an16 cd16 ct16),sl16⟩) (c16:codeIn K cd16 "all_sets"=true) (k16:keepIn K (.ref f16)=true)
  (a17:nsIn K mainGlobals "check_many"=some (some (.ref f17))) (l17:K.lookup f17=some ⟨oc17,od17,.func (fnOf "check_many" "check_many" (aF gm) (av gm) (ah gm) .none kV17 dc17 pm17 an17 cd17 ct17),sl17⟩) (c17:codeIn K cd17 "check_many"=true) (k17:keepIn K (.ref f17)=true)
  (a18:nsIn K mainGlobals "nails_among"=some (some (.ref f18))) (l18:K.lookup f18=some ⟨oc18,od18,.func (fnOf "nails_among" "nails_among" (aF fN) (av fN) (ah fN) .none kV18 dc18 pm18 an18 cd18 ct18),sl18⟩) (c18:codeIn K cd18 "nails_among"=true) (k18:keepIn K (.ref f18)=true)
  (a19:nsIn K mainGlobals "least_sets"=some (some (.ref f19))) (l19:K.lookup f19=some ⟨oc19,od19,.func (fnOf "least_sets" "least_sets" (aF gn) (av gn) (ah gn) .none kV19 dc19 pm19 an19 cd19 ct19),sl19⟩) (c19:codeIn K cd19 "least_sets"=true) (k19:keepIn K (.ref f19)=true)
  (a20:nsIn K mainGlobals "meeting_sets"=some (some (.ref f20))) (l20:K.lookup f20=some ⟨oc20,od20,.func (fnOf "meeting_sets" "meeting_sets" (aF eZ) (av eZ) (ah eZ) .none kV20 dc20 pm20 an20 cd20 ct20),sl20⟩) (c20:codeIn K cd20 "meeting_sets"=true) (k20:keepIn K (.ref f20)=true)
  (a21:nsIn K mainGlobals "falling_sets"=some (some (.ref f21))) (l21:K.lookup f21=some ⟨oc21,od21,.func (fnOf "falling_sets" "falling_sets" (aF e9) (av e9) (ah e9) .none kV21 dc21 pm21 an21 cd21 ct21),sl21⟩) (c21:codeIn K cd21 "falling_sets"=true) (k21:keepIn K (.ref f21)=true)
  (a22:nsIn K mainGlobals "holding_sets"=some (some (.ref f22))) (l22:K.lookup f22=some ⟨oc22,od22,.func (fnOf "holding_sets" "holding_sets" (aF e_) (av e_) (ah e_) .none kV22 dc22 pm22 an22 cd22 ct22),sl22⟩) (c22:codeIn K cd22 "holding_sets"=true) (k22:keepIn K (.ref f22)=true)
  (a23:nsIn K mainGlobals "least_or_no_rule"=some (some (.ref f23))) (l23:K.lookup f23=some ⟨oc23,od23,.func (fnOf "least_or_no_rule" "least_or_no_rule" (aF cE) (av cE) (ah cE) .none kV23 dc23 pm23 an23 cd23 ct23),sl23⟩) (c23:codeIn K cd23 "least_or_no_rule"=true) (k23:keepIn K (.ref f23)=true)
  (a24:nsIn K mainGlobals "check_rule"=some (some (.ref f24))) (l24:K.lookup f24=some ⟨oc24,od24,.func (fnOf "check_rule" "check_rule" (aF gq) (av gq) (ah gq) .none kV24 dc24 pm24 an24 cd24 ct24),sl24⟩) (c24:codeIn K cd24 "check_rule"=true) (k24:keepIn K (.ref f24)=true)
  (a25:nsIn K mainGlobals "first_half"=some (some (.ref f25))) (l25:K.lookup f25=some ⟨oc25,od25,.func (fnOf "first_half" "first_half" (aF gr) (av gr) (ah gr) .none kV25 dc25 pm25 an25 cd25 ct25),sl25⟩) (c25:codeIn K cd25 "first_half"=true) (k25:keepIn K (.ref f25)=true)
  (a26:nsIn K mainGlobals "halves_round"=some (some (.ref f26))) (l26:K.lookup f26=some ⟨oc26,od26,.func (fnOf "halves_round" "halves_round" (aF dI) (av dI) (ah dI) .none kV26 dc26 pm26 an26 cd26 ct26),sl26⟩) (c26:codeIn K cd26 "halves_round"=true) (k26:keepIn K (.ref f26)=true)
  (a27:nsIn K mainGlobals "round_pieces"=some (some (.ref f27))) (l27:K.lookup f27=some ⟨oc27,od27,.func (fnOf "round_pieces" "round_pieces" (aF dJ) (av dJ) (ah dJ) .none kV27 dc27 pm27 an27 cd27 ct27),sl27⟩) (c27:codeIn K cd27 "round_pieces"=true) (k27:keepIn K (.ref f27)=true)
  (a28:nsIn K mainGlobals "pieces_needed"=some (some (.ref f28))) (l28:K.lookup f28=some ⟨oc28,od28,.func (fnOf "pieces_needed" "pieces_needed" (aF dX) (av dX) (ah dX) .none kV28 dc28 pm28 an28 cd28 ct28),sl28⟩) (c28:codeIn K cd28 "pieces_needed"=true) (k28:keepIn K (.ref f28)=true)
  (a29:nsIn K mainGlobals "cord_of"=some (some (.ref f29))) (l29:K.lookup f29=some ⟨oc29,od29,.func (fnOf "cord_of" "cord_of" (aF jz) (av jz) (ah jz) .none kV29 dc29 pm29 an29 cd29 ct29),sl29⟩) (c29:codeIn K cd29 "cord_of"=true) (k29:keepIn K (.ref f29)=true)
  (a30:nsIn K mainGlobals "_law_at"=some (some (.ref f30))) (l30:K.lookup f30=some ⟨oc30,od30,.func (fnOf "_law_at" "_law_at" (aF kH) (av kH) (ah kH) .none kV30 dc30 pm30 an30 cd30 ct30),sl30⟩) (c30:codeIn K cd30 "_law_at"=true) (k30:keepIn K (.ref f30)=true)
  (a31:nsIn K mainGlobals "_law_mix"=some (some (.ref f31))) (l31:K.lookup f31=some ⟨oc31,od31,.func (fnOf "_law_mix" "_law_mix" (aF jA) (av jA) (ah jA) .none kV31 dc31 pm31 an31 cd31 ct31),sl31⟩) (c31:codeIn K cd31 "_law_mix"=true) (k31:keepIn K (.ref f31)=true)
  (a32:nsIn K mainGlobals "_law_contrary"=some (some (.ref f32))) (l32:K.lookup f32=some ⟨oc32,od32,.func (fnOf "_law_contrary" "_law_contrary" (aF fb) (av fb) (ah fb) .none kV32 dc32 pm32 an32 cd32 ct32),sl32⟩) (c32:codeIn K cd32 "_law_contrary"=true) (k32:keepIn K (.ref f32)=true)
  (a33:nsIn K mainGlobals "_law_runs"=some (some (.ref f33))) (l33:K.lookup f33=some ⟨oc33,od33,.func (fnOf "_law_runs" "_law_runs" (aF iB) (av iB) (ah iB) .none kV33 dc33 pm33 an33 cd33 ct33),sl33⟩) (c33:codeIn K cd33 "_law_runs"=true) (k33:keepIn K (.ref f33)=true)
  (a34:nsIn K mainGlobals "_law_is_cord"=some (some (.ref f34))) (l34:K.lookup f34=some ⟨oc34,od34,.func (fnOf "_law_is_cord" "_law_is_cord" (aF fO) (av fO) (ah fO) .none kV34 dc34 pm34 an34 cd34 ct34),sl34⟩) (c34:codeIn K cd34 "_law_is_cord"=true) (k34:keepIn K (.ref f34)=true)
  (a35:nsIn K mainGlobals "_law_sets"=some (some (.ref f35))) (l35:K.lookup f35=some ⟨oc35,od35,.func (fnOf "_law_sets" "_law_sets" (aF iC) (av iC) (ah iC) .none kV35 dc35 pm35 an35 cd35 ct35),sl35⟩) (c35:codeIn K cd35 "_law_sets"=true) (k35:keepIn K (.ref f35)=true)
  (a36:nsIn K mainGlobals "_law_has_part"=some (some (.ref f36))) (l36:K.lookup f36=some ⟨oc36,od36,.func (fnOf "_law_has_part" "_law_has_part" (aF fe) (av fe) (ah fe) .none kV36 dc36 pm36 an36 cd36 ct36),sl36⟩) (c36:codeIn K cd36 "_law_has_part"=true) (k36:keepIn K (.ref f36)=true)
  (a37:nsIn K mainGlobals "_law_least"=some (some (.ref f37))) (l37:K.lookup f37=some ⟨oc37,od37,.func (fnOf "_law_least" "_law_least" (aF gT) (av gT) (ah gT) .none kV37 dc37 pm37 an37 cd37 ct37),sl37⟩) (c37:codeIn K cd37 "_law_least"=true) (k37:keepIn K (.ref f37)=true)
  (a38:nsIn K mainGlobals "_law_rule"=some (some (.ref f38))) (l38:K.lookup f38=some ⟨oc38,od38,.func (fnOf "_law_rule" "_law_rule" (aF iD) (av iD) (ah iD) .none kV38 dc38 pm38 an38 cd38 ct38),sl38⟩) (c38:codeIn K cd38 "_law_rule"=true) (k38:keepIn K (.ref f38)=true)
  (a39:nsIn K mainGlobals "_law_nails"=some (some (.ref f39))) (l39:K.lookup f39=some ⟨oc39,od39,.func (fnOf "_law_nails" "_law_nails" (aF gU) (av gU) (ah gU) .none kV39 dc39 pm39 an39 cd39 ct39),sl39⟩) (c39:codeIn K cd39 "_law_nails"=true) (k39:keepIn K (.ref f39)=true)
  (a40:nsIn K mainGlobals "_law_meeting"=some (some (.ref f40))) (l40:K.lookup f40=some ⟨oc40,od40,.func (fnOf "_law_meeting" "_law_meeting" (aF fP) (av fP) (ah fP) .none kV40 dc40 pm40 an40 cd40 ct40),sl40⟩) (c40:codeIn K cd40 "_law_meeting"=true) (k40:keepIn K (.ref f40)=true)
  (a41:nsIn K mainGlobals "_law_plan"=some (some (.ref f41))) (l41:K.lookup f41=some ⟨oc41,od41,.func (fnOf "_law_plan" "_law_plan" (aF gP) (av gP) (ah gP) .none kV41 dc41 pm41 an41 cd41 ct41),sl41⟩) (c41:codeIn K cd41 "_law_plan"=true) (k41:keepIn K (.ref f41)=true)
  (a42:nsIn K mainGlobals "_law_two"=some (some (.ref f42))) (l42:K.lookup f42=some ⟨oc42,od42,.func (fnOf "_law_two" "_law_two" (aF jB) (av jB) (ah jB) .none kV42 dc42 pm42 an42 cd42 ct42),sl42⟩) (c42:codeIn K cd42 "_law_two"=true) (k42:keepIn K (.ref f42)=true)
  (a43:nsIn K mainGlobals "law"=some (some (.ref f43))) (l43:K.lookup f43=some ⟨oc43,od43,.func (fnOf "law" "law" (aF n5) (av n5) (ah n5) .none kV43 dc43 pm43 an43 cd43 ct43),sl43⟩) (c43:codeIn K cd43 "law"=true) (k43:keepIn K (.ref f43)=true)
  {t_LETTERS:Tok} (g_LETTERS:nsIn K mainGlobals "LETTERS"=some (some (.str "abcdefghijklmnopqrstuvwxyz" t_LETTERS)))
  {t_MOST_NAILS:Tok} (g_MOST_NAILS:nsIn K mainGlobals "MOST_NAILS"=some (some (.int 10 t_MOST_NAILS)))
  {t_MOST_PIECES:Tok} (g_MOST_PIECES:nsIn K mainGlobals "MOST_PIECES"=some (some (.int 800 t_MOST_PIECES)))
  (z1:nsIn K mainGlobals "len"=some none)
  (z2:nsIn K mainGlobals "range"=some none)
  (z3:nsIn K mainGlobals "abs"=some none)
  (z4:nsIn K mainGlobals "min"=some none)
  (z5:nsIn K mainGlobals "max"=some none)
  (z6:nsIn K mainGlobals "reversed"=some none)
  (z7:nsIn K mainGlobals "enumerate"=some none)
  (z8:nsIn K mainGlobals "isinstance"=some none)
  (z9:nsIn K mainGlobals "list"=some none)
  (z10:nsIn K mainGlobals "tuple"=some none)
  (z11:nsIn K mainGlobals "str"=some none)
  (z12:nsIn K mainGlobals "int"=some none)
  (z13:nsIn K mainGlobals "bool"=some none)
  (z14:nsIn K mainGlobals "sorted"=some none)
  (z15:nsIn K mainGlobals "zip"=some none)
  (z16:nsIn K mainGlobals "sum"=some none)
  (z17:nsIn K mainGlobals "any"=some none)
  (z18:nsIn K mainGlobals "all"=some none)
  (z19:nsIn K mainGlobals "set"=some none)
  (z20:nsIn K mainGlobals "dict"=some none):
  ∃fd:FuncData,(∀(s:Shared) (v:Value),BindsTo s fd ⟨[v],[]⟩ [("_law_script",v)])∧∀base:Heap,K.In base→base.Ns mainGlobals mg→FnOk l.prog w K mg base yY 13 fa fd ["_law_script"] (bZ K nr):=by
 have e:=hfa.symm.trans (PySem.W.mg_of X G a43)
 cases e
 have F0:=wm (st:=n5) l43 c43 k43
 have B:Bn mg:=Hd X G z1 z2 z3 z4 z5 z6 z7 z8 z9 z10 z11 z12 z13 z14 z15 z16 z17 z18 z19 z20
 have G_LETTERS:=PySem.W.mg_of X G g_LETTERS
 have G_MOST_NAILS:=PySem.W.mg_of X G g_MOST_NAILS
 have G_MOST_PIECES:=PySem.W.mg_of X G g_MOST_PIECES
 have e_is_nail:Def K mg "is_nail" jv ["thing"]:=aY X G a1 l1 c1 k1 fun _ _ _ _ _ _=>fun us hl=>hO (fun _=>rfl) us hl
 have e_short_form:Def K mg "short_form" gk ["cord"]:=aY X G a2 l2 c2 k2 fun _ _ _ _ _ _=>fun us hl=>hO (fun _=>rfl) us hl
 have e_is_fall:Def K mg "is_fall" jw ["cord"]:=aY X G a3 l3 c3 k3 fun _ _ _ _ _ _=>fun us hl=>hO (fun _=>rfl) us hl
 have e_joined:Def K mg "joined" kD ["one","other"]:=aY X G a4 l4 c4 k4 fun _ _ _ _ _ _=>fun us hl=>pP (fun _ _=>rfl) us hl
 have e_contrary:Def K mg "contrary" iw ["cord"]:=aY X G a5 l5 c5 k5 fun _ _ _ _ _ _=>fun us hl=>hO (fun _=>rfl) us hl
 have e_there_and_back:Def K mg "there_and_back" du ["one","other"]:=aY X G a6 l6 c6 k6 fun _ _ _ _ _ _=>fun us hl=>pP (fun _ _=>rfl) us hl
 have e_set_of:Def K mg "set_of" kE ["nails"]:=aY X G a7 l7 c7 k7 fun _ _ _ _ _ _=>fun us hl=>hO (fun _=>rfl) us hl
 have e_nails_of:Def K mg "nails_of" iy ["cord"]:=aY X G a8 l8 c8 k8 fun _ _ _ _ _ _=>fun us hl=>hO (fun _=>rfl) us hl
 have e_without:Def K mg "without" jx ["cord","nails"]:=aY X G a9 l9 c9 k9 fun _ _ _ _ _ _=>fun us hl=>pP (fun _ _=>rfl) us hl
 have e_falls_without:Def K mg "falls_without" dU ["cord","nails"]:=aY X G a10 l10 c10 k10 fun _ _ _ _ _ _=>fun us hl=>pP (fun _ _=>rfl) us hl
 have e_bits_of:Def K mg "bits_of" jy ["nails"]:=aY X G a11 l11 c11 k11 fun _ _ _ _ _ _=>fun us hl=>hO (fun _=>rfl) us hl
 have e_in_told_order:DefT K mg "in_told_order" dW ["sets"] cT PT:=⟨⟨f12,_,_,_,_,_,_,_,_,l12,c12,k12,PySem.W.mg_of X G a12,.all (fun us hl=>hO (fun _=>rfl) us hl)⟩,t3,BG a12 l12 rfl t1 t2⟩
 have e_has_part_among:Def K mg "has_part_among" dv ["bits","parts"]:=aY X G a13 l13 c13 k13 fun _ _ _ _ _ _=>fun us hl=>pP (fun _ _=>rfl) us hl
 have e_meets_each:Def K mg "meets_each" gl ["bits","others"]:=aY X G a14 l14 c14 k14 fun _ _ _ _ _ _=>fun us hl=>pP (fun _ _=>rfl) us hl
 have e_least_of:Def K mg "least_of" iz ["sets"]:=aY X G a15 l15 c15 k15 fun _ _ _ _ _ _=>fun us hl=>hO (fun _=>rfl) us hl
 have e_all_sets:Def K mg "all_sets" iA ["nails"]:=aY X G a16 l16 c16 k16 fun _ _ _ _ _ _=>fun us hl=>hO (fun _=>rfl) us hl
 have e_check_many:Def K mg "check_many" gm ["nails"]:=aY X G a17 l17 c17 k17 fun _ _ _ _ _ _=>fun us hl=>hO (fun _=>rfl) us hl
 have e_nails_among:Def K mg "nails_among" fN ["sets"]:=aY X G a18 l18 c18 k18 fun _ _ _ _ _ _=>fun us hl=>hO (fun _=>rfl) us hl
 have e_least_sets:Def K mg "least_sets" gn ["family"]:=aY X G a19 l19 c19 k19 fun _ _ _ _ _ _=>fun us hl=>hO (fun _=>rfl) us hl
 have e_meeting_sets:Def K mg "meeting_sets" eZ ["family"]:=aY X G a20 l20 c20 k20 fun _ _ _ _ _ _=>fun us hl=>hO (fun _=>rfl) us hl
 have e_falling_sets:Def K mg "falling_sets" e9 ["cord"]:=aY X G a21 l21 c21 k21 fun _ _ _ _ _ _=>fun us hl=>hO (fun _=>rfl) us hl
 have e_holding_sets:Def K mg "holding_sets" e_ ["cord"]:=aY X G a22 l22 c22 k22 fun _ _ _ _ _ _=>fun us hl=>hO (fun _=>rfl) us hl
 have e_least_or_no_rule:Def K mg "least_or_no_rule" cE ["sets"]:=aY X G a23 l23 c23 k23 fun _ _ _ _ _ _=>fun us hl=>hO (fun _=>rfl) us hl
 have e_check_rule:Def K mg "check_rule" gq ["thing"]:=aY X G a24 l24 c24 k24 fun _ _ _ _ _ _=>fun us hl=>hO (fun _=>rfl) us hl
 have e_first_half:Def K mg "first_half" gr ["number"]:=aY X G a25 l25 c25 k25 fun _ _ _ _ _ _=>fun us hl=>hO (fun _=>rfl) us hl
 have e_halves_round:Def K mg "halves_round" dI ["nails"]:=aY X G a26 l26 c26 k26 fun _ _ _ _ _ _=>fun us hl=>hO (fun _=>rfl) us hl
 have e_round_pieces:Def K mg "round_pieces" dJ ["number"]:=aY X G a27 l27 c27 k27 fun _ _ _ _ _ _=>fun us hl=>hO (fun _=>rfl) us hl
 have e_pieces_needed:Def K mg "pieces_needed" dX ["rule"]:=aY X G a28 l28 c28 k28 fun _ _ _ _ _ _=>fun us hl=>hO (fun _=>rfl) us hl
 have e_cord_of:Def K mg "cord_of" jz ["rule"]:=aY X G a29 l29 c29 k29 fun _ _ _ _ _ _=>fun us hl=>hO (fun _=>rfl) us hl
 have e_law_at:Def K mg "_law_at" kH ["_law_script","_law_k"]:=aY X G a30 l30 c30 k30 fun _ _ _ _ _ _=>fun us hl=>pP (fun _ _=>rfl) us hl
 have e_law_mix:Def K mg "_law_mix" jA ["_law_cell","_law_k"]:=aY X G a31 l31 c31 k31 fun _ _ _ _ _ _=>fun us hl=>pP (fun _ _=>rfl) us hl
 have e_law_contrary:Def K mg "_law_contrary" fb ["_law_cord"]:=aY X G a32 l32 c32 k32 fun _ _ _ _ _ _=>fun us hl=>hO (fun _=>rfl) us hl
 have e_law_runs:Def K mg "_law_runs" iB ["_law_cord"]:=aY X G a33 l33 c33 k33 fun _ _ _ _ _ _=>fun us hl=>hO (fun _=>rfl) us hl
 have e_law_is_cord:Def K mg "_law_is_cord" fO ["_law_found"]:=aY X G a34 l34 c34 k34 fun _ _ _ _ _ _=>fun us hl=>hO (fun _=>rfl) us hl
 have e_law_sets:Def K mg "_law_sets" iC ["_law_nails_here"]:=aY X G a35 l35 c35 k35 fun _ _ _ _ _ _=>fun us hl=>hO (fun _=>rfl) us hl
 have e_law_has_part:Def K mg "_law_has_part" fe ["_law_one","_law_sets_here"]:=aY X G a36 l36 c36 k36 fun _ _ _ _ _ _=>fun us hl=>pP (fun _ _=>rfl) us hl
 have e_law_least:Def K mg "_law_least" gT ["_law_sets_here"]:=aY X G a37 l37 c37 k37 fun _ _ _ _ _ _=>fun us hl=>hO (fun _=>rfl) us hl
 have e_law_rule:Def K mg "_law_rule" iD ["_law_script","_law_first","_law_nails_here"]:=aY X G a38 l38 c38 k38 fun _ _ _ _ _ _=>fun us hl=>ID (fun _ _ _=>rfl) us hl
 have e_law_nails:Def K mg "_law_nails" gU ["_law_cell","_law_most"]:=aY X G a39 l39 c39 k39 fun _ _ _ _ _ _=>fun us hl=>pP (fun _ _=>rfl) us hl
 have e_law_meeting:Def K mg "_law_meeting" fP ["_law_sets_here","_law_nails_here"]:=aY X G a40 l40 c40 k40 fun _ _ _ _ _ _=>fun us hl=>pP (fun _ _=>rfl) us hl
 have e_law_plan:Def K mg "_law_plan" gP ["_law_nails_here"]:=aY X G a41 l41 c41 k41 fun _ _ _ _ _ _=>fun us hl=>hO (fun _=>rfl) us hl
 have e_law_two:Def K mg "_law_two" jB ["_law_cell","_law_most"]:=aY X G a42 l42 c42 k42 fun _ _ _ _ _ _=>fun us hl=>pP (fun _ _=>rfl) us hl
 refine⟨fnOf "law" "law" (aF n5) (av n5) (ah n5) .none kV43 dc43 pm43 an43 cd43 ct43,fun s v=>.of_eq rfl,fun base _ _=>?_⟩
 have D_is_nail:=wR (P:=l.prog) (w:=w) (base:=base) e_is_nail B
 have D_short_form:=rP (P:=l.prog) (w:=w) (base:=base) e_short_form B
 have D_is_fall:=wT (P:=l.prog) (w:=w) (base:=base) e_is_fall B D_short_form
 have D_joined:=zP (P:=l.prog) (w:=w) (base:=base) e_joined B
 have D_contrary:=vF (P:=l.prog) (w:=w) (base:=base) e_contrary B
 have D_there_and_back:=nY (P:=l.prog) (w:=w) (base:=base) e_there_and_back B D_contrary
 have D_set_of:=zQ (P:=l.prog) (w:=w) (base:=base) e_set_of B D_is_nail
 have D_nails_of:=vH (P:=l.prog) (w:=w) (base:=base) e_nails_of B
 have D_without:=wU (P:=l.prog) (w:=w) (base:=base) e_without B D_set_of
 have D_falls_without:=oH (P:=l.prog) (w:=w) (base:=base) e_falls_without B D_without D_is_fall
 have D_bits_of:=wV (P:=l.prog) (w:=w) (base:=base) e_bits_of B G_LETTERS
 have D_in_told_order:=oJ (P:=l.prog) (w:=w) (base:=base) e_in_told_order B
 have D_has_part_among:=nZ (P:=l.prog) (w:=w) (base:=base) e_has_part_among B
 have D_meets_each:=rQ (P:=l.prog) (w:=w) (base:=base) e_meets_each B
 have D_least_of:=vI (P:=l.prog) (w:=w) (base:=base) e_least_of B D_in_told_order D_bits_of D_has_part_among
 have D_all_sets:=vJ (P:=l.prog) (w:=w) (base:=base) e_all_sets B
 have D_check_many:=rS (P:=l.prog) (w:=w) (base:=base) e_check_many B G_MOST_NAILS
 have D_nails_among:=qV (P:=l.prog) (w:=w) (base:=base) e_nails_among B D_set_of
 have D_least_sets:=rV (P:=l.prog) (w:=w) (base:=base) e_least_sets B D_set_of D_least_of
 have D_meeting_sets:=pF (P:=l.prog) (w:=w) (base:=base) e_meeting_sets B D_least_sets D_bits_of D_nails_among D_check_many D_all_sets D_meets_each D_least_of
 have D_falling_sets:=pG (P:=l.prog) (w:=w) (base:=base) e_falling_sets B D_nails_of D_check_many D_all_sets D_falls_without D_least_of
 have D_holding_sets:=pI (P:=l.prog) (w:=w) (base:=base) e_holding_sets B D_falling_sets D_meeting_sets
 have D_least_or_no_rule:=mN (P:=l.prog) (w:=w) (base:=base) e_least_or_no_rule B D_least_sets
 have D_check_rule:=rX (P:=l.prog) (w:=w) (base:=base) e_check_rule B D_least_or_no_rule
 have D_first_half:=rZ (P:=l.prog) (w:=w) (base:=base) e_first_half B
 have D_halves_round:=pJ (P:=l.prog) (w:=w) (base:=base) e_halves_round B D_first_half D_there_and_back
 have D_round_pieces:=pK (P:=l.prog) (w:=w) (base:=base) e_round_pieces B D_first_half
 have D_pieces_needed:=oM (P:=l.prog) (w:=w) (base:=base) e_pieces_needed B D_check_rule D_meeting_sets D_round_pieces
 have D_cord_of:=wW (P:=l.prog) (w:=w) (base:=base) e_cord_of B G_MOST_PIECES D_pieces_needed D_meeting_sets D_halves_round D_joined
 have D_law_at:=zS (P:=l.prog) (w:=w) (base:=base) e_law_at B
 have D_law_mix:=wX (P:=l.prog) (w:=w) (base:=base) e_law_mix B
 have D_law_contrary:=pM (P:=l.prog) (w:=w) (base:=base) e_law_contrary B
 have D_law_runs:=vK (P:=l.prog) (w:=w) (base:=base) e_law_runs B
 have D_law_is_cord:=qW (P:=l.prog) (w:=w) (base:=base) e_law_is_cord B
 have D_law_sets:=vL (P:=l.prog) (w:=w) (base:=base) e_law_sets B
 have D_law_has_part:=pN (P:=l.prog) (w:=w) (base:=base) e_law_has_part B
 have D_law_least:=ur (P:=l.prog) (w:=w) (base:=base) e_law_least B D_law_has_part
 have D_law_rule:=vM (P:=l.prog) (w:=w) (base:=base) e_law_rule B D_law_at D_law_mix D_law_least
 have D_law_nails:=ut (P:=l.prog) (w:=w) (base:=base) e_law_nails B
 have D_law_meeting:=qX (P:=l.prog) (w:=w) (base:=base) e_law_meeting B D_law_sets D_law_least
 have D_law_plan:=vN (P:=l.prog) (w:=w) (base:=base) e_law_plan B D_law_contrary
 have D_law_two:=wY (P:=l.prog) (w:=w) (base:=base) e_law_two B D_law_mix D_law_least
 exact FP F0 B D_law_at D_law_nails D_law_rule D_law_two D_law_meeting D_law_plan D_cord_of D_law_is_cord D_law_sets D_law_has_part D_law_runs D_falls_without D_falling_sets D_holding_sets
theorem IE{l:PySem.W.OpenLaw}{q:Program}{loose:List Str}{XP:(Str→Option Value)→Heap→Prop}{YP:World→Heap→Prop}{d:DefRec}{K:Params→PySem.W.Frag}(hn:l.most=some 63)(hdf:d.params.defaults=[])
  (hY:∀(w:World) (h:Heap),YP w h→(K w.params).In h∧xZ (K w.params) h)
  (F:∀(w:World) (mg:Str→Option Value) (fa:Addr) (h:Heap),(K w.params).In h→h.Ns mainGlobals mg→mg d.name=some (.ref fa)→
   ∃fd:FuncData,(∀(s:Shared) (u:Value),BindsTo s fd ⟨[u],[]⟩ [("_law_script",u)])∧∀base:Heap,(K w.params).In base→base.Ns mainGlobals mg→FnOk l.prog w (K w.params) mg base yY 13 fa fd ["_law_script"] (bZ (K w.params) nr)):
  PySem.W.WalkO q loose XP YP l.row.toRowW d [] (fun f vs=>PySem.call f vs):=
 L2.Bs (n:=63) (k:=13) (x:="_law_script") (CX:=fun _=>yY) (sp:=fun w=>bZ (K w.params) nr) hn (by decide) hdf ⟨rfl,by decide,by decide⟩ hY F (fun _ _ a ns hl hS=>Fx (Gm ns hl) hS) fun _ _ _ _ _ z=>z
end Nhk53
open PySem PySem.W PyProof.Rows
namespace PySem.W.Fast
def tw16772285259618145312:=0
def tw13800550652312285216:=0
def tw2693584116950826240:=0
def tw5031208803443412256:=0
def tw3913132021591694752:=0
def tw18065251755996705184:=0
def tw7044244857324846592:=0
def tw10025342629550920224:=0
def tw1541715974262377152:=0
def tw1682749941512090368:=0
def tw16262724648559002400:=0
def tw7706291458251055968:=0
def tw8380479381909674848:=0
def tw9860226513152736353:=0
def tw16182300986203591777:=0
def tw13388516130031873:=0
def tw17318376966727238945:=0
def tw16255443565711711617:=0
def tw16069275032559947201:=0
def tw14818938271756411585:=0
def tw9019788400199543681:=0
def tw13875096513100076993:=0
def tw17530738568912027714:=0
def tw13413353984480482402:=0
def tw692603138000425218:=0
def tw11102856956188452226:=0
def tw6256179257008401890:=0
def tw4556030373939240514:=0
def tw107875930100578882:=0
def tw7748846309992931938:=0
def tw16088206132455961346:=0
def tw17971039391627592546:=0
def tw14539961016436180866:=0
def tw6372519606237666403:=0
def tw18252863913056060515:=0
def tw6978791561646449827:=0
def tw7690040095189595299:=0
def tw11110722291226565827:=0
def tw3110785987516648707:=0
def tw11440559863092450659:=0
def tw17189468748738424387:=0
def tw12724528145321114307:=0
def tw11346237797638801283:=0
def tw13275770704434625604:=0
def tw14516080526598283364:=0
def tw6546977913151656100:=0
def tw9539779889328706820:=0
def tw11018113927984633188:=0
def tw18445277567212487172:=0
def tw6546622817637634660:=0
def tw10757234049682140772:=0
def tw16830281082484270980:=0
def tw5837444012023195556:=0
def tw1161870678106262533:=0
def tw10421321792676304965:=0
def tw9844263319104301157:=0
def tw17578609086004918437:=0
def tw8644255148943713477:=0
def tw7124163850607941829:=0
def tw9674633528426311941:=0
def tw8121015749856924101:=0
def tw42647646387528229:=0
def tw16479358255498109893:=0
def tw4019156834681127974:=0
def tw16845511056631978022:=0
def tw10087689271869706310:=0
def tw2003310043264798854:=0
def tw6778704831680221414:=0
def tw436652062763153798:=0
def tw400071855164949254:=0
def tw3398997041354291110:=0
def tw8383935012515465255:=0
def tw17290814613575060679:=0
def tw7944453953905556807:=0
def tw13508511405383661159:=0
def tw12603232332668587687:=0
def tw3625763269896718023:=0
def tw4209873869974206183:=0
def tw2934119218399436551:=0
def tw4116622002180793223:=0
def tw13515189356782187399:=0
def tw4222492503875423240:=0
def tw9034920722747011208:=0
def tw16963810801573410120:=0
def tw1231606353630291944:=0
def tw13210793975007831049:=0
def tw13435294944317581385:=0
def tw11653072838238212297:=0
def tw3767894835182480681:=0
def tw14916971878136132041:=0
def tw16132193208977760841:=0
def tw6078854880306459273:=0
def tw15434918910535751337:=0
def tw17240475832040442761:=0
def tw1917457256975578025:=0
def tw5902157407877950409:=0
def tw7877317715183365097:=0
def tw7941610916885836906:=0
def tw9221164323535698090:=0
def tw9030900658060503274:=0
def tw14646399105188161930:=0
def tw8820235396035275242:=0
def tw9473997805556133354:=0
def tw11552777002300428938:=0
def tw10885034722985629450:=0
def tw14397955026636641098:=0
def tw12770903166741314474:=0
def tw14565650598723236907:=0
def tw12881720956154893643:=0
def tw2919633869460608459:=0
def tw5427860806787673803:=0
def tw1550824115743133451:=0
def tw8162177401872972747:=0
def tw13089609656683855819:=0
def tw3810169160395798507:=0
def tw11350928750985163788:=0
def tw7194028983921977484:=0
def tw15895998793860275532:=0
def tw13097793453950442828:=0
def tw5164846818864062828:=0
def tw12887704586859776428:=0
def tw13478617145031709132:=0
def tw10886463101479672332:=0
def tw5295087725290441388:=0
def tw8806870272116983532:=0
def tw4188943568747836268:=0
def tw8445761097351177164:=0
def tw2650989132443365453:=0
def tw1920071232453790829:=0
def tw6725420033530752205:=0
def tw16536339890248683725:=0
def tw3911307896888959309:=0
def tw9718928243771474509:=0
def tw13014829223035975309:=0
def tw7522758988405014221:=0
def tw6485901728261261005:=0
def tw15370620058211553229:=0
def tw14717998964985342957:=0
def tw7907822906157658126:=0
def tw519172440666810414:=0
def tw4101486974656818286:=0
def tw4716282365007633678:=0
def tw17924624576751708494:=0
def tw1921887094090867150:=0
def tw3628277816989228526:=0
def tw14643900155282814574:=0
def tw3432989030267439822:=0
def tw11511922713295465198:=0
def tw255880588056453135:=0
def tw11833350368397145359:=0
def tw5048659140112332207:=0
def tw10433507064741751343:=0
def tw13111547543901708207:=0
def tw13786692469558127920:=0
def tw2322123160290217328:=0
def tw17252970707345658288:=0
def tw4385946421193652656:=0
def tw16747859087542406832:=0
def tw4536624753221222160:=0
def tw11548686946459622449:=0
def tw17672570243568289841:=0
def tw13163218174312732849:=0
def tw13107280851078655473:=0
def tw13271288693375349265:=0
def tw16096053201447982673:=0
def tw18083634139760997969:=0
def tw4367819388253200337:=0
def tw8529231535922254898:=0
def tw15243683608870013298:=0
def tw605119952525701746:=0
def tw5852671684707962578:=0
def tw9806806461772802802:=0
def tw3869301417188881491:=0
def tw5319622977673387315:=0
def tw16005847052434388307:=0
def tw3711741903089206835:=0
def tw15491022847339936435:=0
def tw13272366194277824275:=0
def tw2419176062508477363:=0
def tw15298751288023217139:=0
def tw12182775731136819220:=0
def tw11896041745161064468:=0
def tw3150663250643753172:=0
def tw732242700444003604:=0
def tw3564291562994369940:=0
def tw11975950844641186196:=0
def tw6404242782568405428:=0
def tw6479035845649655348:=0
def tw9347845217164718676:=0
def tw17321646651627111028:=0
def tw11383006946832927412:=0
def tw13351909005659291316:=0
def tw13964299999333385940:=0
def tw1705659598201335508:=0
def tw8418155603415659220:=0
def tw153314064505045908:=0
def tw1274739071564265428:=0
def tw12353011392690994293:=0
def tw17371630922557205653:=0
def tw17136519691138904277:=0
def tw14767412448877070709:=0
def tw14152817402639243669:=0
def tw6770344774993899989:=0
def tw14341967757139911157:=0
def tw15550365414379779605:=0
def tw130602708252634773:=0
def tw6952162789432032917:=0
def tw3986657427677185749:=0
def tw15241330356879255317:=0
def tw9516640964796275605:=0
def tw7337139077979160565:=0
def tw2841646084622875766:=0
def tw1566206870152327350:=0
def tw9242888557749220534:=0
def tw3549672576812786902:=0
def tw5488541618069359894:=0
def tw16554143902947984726:=0
def tw4121253550798763414:=0
def tw8233067811818505622:=0
def tw13872579553875786230:=0
def tw8692399765067712022:=0
def tw6604173804843499158:=0
def tw7271884176591707126:=0
def tw61260197274863831:=0
def tw10213398180401243575:=0
def tw16736890845391232887:=0
def tw12939876082364614551:=0
def tw12097957655190392888:=0
def tw10028936265705014360:=0
def tw4002121696028496984:=0
def tw13893466286499810456:=0
def tw5494571248581055000:=0
def tw1426069298026859064:=0
def tw9250150396927695768:=0
def tw15794303234006031449:=0
def tw3787058751289987193:=0
def tw13145775348307034297:=0
def tw10133316318052656409:=0
def tw6545877807268933113:=0
def tw12484155345877613081:=0
def tw949789706832038457:=0
def tw4918057940148433465:=0
def tw11332867788067189369:=0
def tw13628385857327719033:=0
def tw17516900022541530745:=0
def tw5236895977355938649:=0
def tw13053317282131213338:=0
def tw8785057620292286554:=0
def tw11569574876962242810:=0
def tw751423966058933530:=0
def tw8971455727335048602:=0
def tw12815462536537791930:=0
def tw18245183359249523194:=0
def tw2191975248334152218:=0
def tw5631107519373377114:=0
def tw1386808850779423354:=0
def tw798494556568400538:=0
def tw6656784203181081370:=0
def tw10534921782332317530:=0
def tw11624176228898349946:=0
def tw15665291174494612378:=0
def tw3880482860286049178:=0
def tw5356237067893210074:=0
def tw9703532720351697083:=0
def tw2275239031054973403:=0
def tw5913476376553744955:=0
def tw6035039696984370811:=0
def tw12734852435030094651:=0
def tw4712424476491562971:=0
def tw681181547996442780:=0
def tw14452351043923637500:=0
def tw15440766649693487388:=0
def tw5272784513008044412:=0
def tw16561299431525835260:=0
def tw9087796642280423932:=0
def tw11671895492426293852:=0
def tw17167522783397215868:=0
def tw11863693244609189660:=0
def tw4637349538393211836:=0
def tw3313476613882498012:=0
def tw887176518324436956:=0
def tw16774666019681426461:=0
def tw5808119898270270557:=0
def tw1222217467401262205:=0
def tw17250734114880310493:=0
def tw5589498359625224477:=0
def tw500760895114070493:=0
def tw15512790098524964413:=0
def tw11714105148127071901:=0
def tw4728709775921474269:=0
def tw10747530233821964093:=0
def tw11295520933524278141:=0
def tw17012074044211308445:=0
def tw113845850071555069:=0
def tw17622592064050633758:=0
def tw2836059300591138046:=0
def tw12080313830408055038:=0
def tw7118063633616531838:=0
def tw6139373693340044894:=0
def tw4521719167242986142:=0
def tw10865283080058422238:=0
def tw1308842985891512607:=0
def tw15953036207582786911:=0
def tw7145110979614010719:=0
def tw11087505189035921823:=0
def tw16664816048498652575:=0
def tw2117688384774998463:=0
def tw13975838073891632607:=0
def tw17564653898094585599:=0
def tw14553956777461932831:=0
def tw6122587773757929311:=0
def tw1058477071172168575:=0
def tw12699378968291527615:=0
def tw10630386231448904671:=0
def tw7755936833652962303:=0
def tw912809223905565984:=0
end PySem.W.Fast
set_option maxRecDepth 100000 in
set_option maxHeartbeats 0 in
theorem PySem.Challenge.cw_nailhang_k53_whole_cords_fall_by_rules_holds : PySem.Challenge.rw_nailhang_k53_whole_cords_fall_by_rules.Holds := by
 w_on;o_law;k_head;(case hw=>w_witness2)
 k_fill
 refine Nhk53.IE (l:=PySem.Challenge.rw_nailhang_k53_whole_cords_fall_by_rules) rfl rfl (fun w h Y=>⟨PySem.W.km_in_of Y,by
  refine' PL.BH (PySem.W.km_in_of Y) ?y1 ?y2 ?y3 ?y4 ?y5 ?y6 ?y7 (PySem.W.km_tabs_of Y _ ?y8)
  (case y1=>k_is)
  (case y2=>k_is)
  (case y3=>exact rfl)
  (case y4=>k_is)
  (case y5=>exact rfl)
  (case y6=>kernel_rfl)
  (case y7=>kernel_rfl)
  (case y8=>k_mem)⟩) ?F
 case F=>
  intro w mg fa h KX G hmg
  refine' Nhk53.Gn KX G hmg ?_ ?_ ?_ ?_ ?_ ?_ ?_ ?_ ?_ ?_ ?_ ?_ ?_ ?_ ?_ ?_ ?_ ?_ ?_ ?_ ?_ ?_ ?_ ?_ ?_ ?_ ?_ ?_ ?_ ?_ ?_ ?_ ?_ ?_ ?_ ?_ ?_ ?_ ?_ ?_ ?_ ?_ ?_ ?_ ?_ ?_ ?_ ?_ ?_ ?_ ?_ ?_ ?_ ?_ ?_ ?_ ?_ ?_ ?_ ?_ ?_ ?_ ?_ ?_ ?_ ?_ ?_ ?_ ?_ ?_ ?_ ?_ ?_ ?_ ?_ ?_ ?_ ?_ ?_ ?_ ?_ ?_ ?_ ?_ ?_ ?_ ?_ ?_ ?_ ?_ ?_ ?_ ?_ ?_ ?_ ?_ ?_ ?_ ?_ ?_ ?_ ?_ ?_ ?_ ?_ ?_ ?_ ?_ ?_ ?_ ?_ ?_ ?_ ?_ ?_ ?_ ?_ ?_ ?_ ?_ ?_ ?_ ?_ ?_ ?_ ?_ ?_ ?_ ?_ ?_ ?_ ?_ ?_ ?_ ?_ ?_ ?_ ?_ ?_ ?_ ?_ ?_ ?_ ?_ ?_ ?_ ?_ ?_ ?_ ?_ ?_ ?_ ?_ ?_ ?_ ?_ ?_ ?_ ?_ ?_ ?_ ?_ ?_ ?_ ?_ ?_ ?_ ?_ ?_ ?_ ?_ ?_ ?_ ?_ ?_ ?_ ?_ ?_ ?_ ?_ ?_ ?_ ?_ ?_ ?_ ?_ ?_ ?_ ?_ ?_ ?_ ?_ ?_ ?_ ?_ ?_ ?_ ?_
  all_goals first |k_is |exact rfl |kernel_rfl |skip
