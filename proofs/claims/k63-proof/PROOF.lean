import PyProof.Rows.All
import KE.KLam
import KE.KNestM
import PyProof.OldK
import Wide.All
import OpenK.AllK
import Wide.FinOn
import Lean
import PyProof.EqAt
import PyProof.EqKinds
import PyProof.TupleCall
import KE.KRevIter
import PyProof.Rows.SeqMore
import PyProof.Rows.ListMulArg
import PyProof.ZipIter
import PyProof.Rows.ZipGen
import PyProof.EnumMake
import PyProof.StrWalks
import PyProof.SliceStr2
import PyProof.StrBlockH
import PyProof.FString5
import PyProof.Rows.StrJoin2
import PyProof.Rows.Range3
import KE.KDictLaws
import PyProof.ConsumeWalk
import PyProof.SumWalkG
import PyProof.Rows.SeqCalls
import PyProof.Rows.SeqGen
import PyProof.Rows.MinMaxN
import PyProof.Rows.CallKwBuiltin
import PyProof.Rows.SortStr
import PyProof.StrOps2
import PyProof.Rows.StrMul
import PyProof.IsRules
import PyProof.Rows.SetFrom
import PyProof.CollectStr
import KE.KTryMore
import PyProof.PureStr
import PyProof.CallStr
import KE.KIntText
import KE.IntTextLaws
import PyProof.Rows.ReprOcc
import PyProof.StrLawsIdx
import PyProof.StrLawsIn
import PyProof.StrLaws
import KE.RegKIsAll
import KE.RegKTryMore
import PySem.Challenge.RW_nailhang_k63_no_text
set_option Elab.async false
set_option linter.all false
set_option maxRecDepth 100000
set_option maxHeartbeats 4000000
local macro_rules | `(tactic|omega) => `(tactic|lia)
noncomputable section
namespace L2
open PySem PySem.Spec PyProof.Rows
abbrev iJ:=Sum Int Str
def AD:iJ→Value→Bool
 |.inl k,v=>Value.isInt k v
 |.inr x,v=>Value.isStrOf x v
def E9(w:World):iJ→Int
 |.inl k=>hashInt k
 |.inr x=>hashStr w x
theorem dl:∀{k:iJ} {v:Value},AD k v=true→(∃i t,k=Sum.inl i∧v=Value.int i t)∨(∃x t,k=Sum.inr x∧v=Value.str x t)
 |.inl i,v,h=>by
  obtain⟨t,e⟩:=Value.isInt_shape (k:=i) (v:=v) h
  exact .inl ⟨i,t,rfl,e⟩
 |.inr x,v,h=>by
  obtain⟨t,e⟩:=Value.isStrOf_shape (x:=x) (v:=v) h
  exact .inr ⟨x,t,rfl,e⟩
theorem Bo(a b:Int):decide ((Sum.inl a:iJ)=Sum.inl b)=(a == b):=by
 by_cases e:a=b
 ·subst e;simp
 ·have h:¬(Sum.inl a:iJ)=Sum.inl b:=fun q=>e (Sum.inl.inj q)
  rw[decide_eq_false h]
  exact(beq_eq_false_iff_ne.mpr e).symm
theorem Bp(a b:Str):decide ((Sum.inr a:iJ)=Sum.inr b)=decide (a=b):=by
 by_cases e:a=b
 ·subst e;simp
 ·have h:¬(Sum.inr a:iJ)=Sum.inr b:=fun q=>e (Sum.inr.inj q)
  rw[decide_eq_false h,decide_eq_false e]
theorem Bq(a:Int)(b:Str):decide ((Sum.inl a:iJ)=Sum.inr b)=false:=decide_eq_false (fun q=>nomatch q)
theorem Br(a:Str)(b:Int):decide ((Sum.inr a:iJ)=Sum.inl b)=false:=decide_eq_false (fun q=>nomatch q)
def mH(prog:Program)(w:World):PySem.KeyKind prog w iJ where
 is:=AD
 hash:=E9 w
 inj:=fun v a b ha hb=>by
  rcases dl ha with⟨i,t,rfl,rfl⟩ |⟨x,t,rfl,rfl⟩
  ·rcases dl hb with⟨j,u,rfl,e⟩ |⟨y,u,rfl,e⟩
   ·injection e with e1 _;rw[e1]
   ·exact nomatch e
  ·rcases dl hb with⟨j,u,rfl,e⟩ |⟨y,u,rfl,e⟩
   ·exact nomatch e
   ·injection e with e1 _;rw[e1]
 byValue:=fun k v h=>by
  rcases dl h with⟨i,t,rfl,rfl⟩ |⟨x,t,rfl,rfl⟩ <;> rfl
 pyHash:=fun hv h=>by
  rcases dl hv with⟨i,t,rfl,rfl⟩ |⟨x,t,rfl,rfl⟩
  ·exact wpAny_pyHash_int h
  ·exact wpAny_pyHash_str h
 eqBool:=fun hu hv h=>by
  rcases dl hu with⟨i,t,rfl,rfl⟩ |⟨x,t,rfl,rfl⟩
  ·rcases dl hv with⟨j,u,rfl,rfl⟩ |⟨y,u,rfl,rfl⟩
   ·rw[Bo]at h;exact wpAny_eqBool_int h
   ·rw[Bq]at h;exact SeqAt.EqAt.int_str i t y u _ _ _ _ h
  ·rcases dl hv with⟨j,u,rfl,rfl⟩ |⟨y,u,rfl,rfl⟩
   ·rw[Br]at h;exact SeqAt.EqAt.str_int x t j u _ _ _ _ h
   ·rw[Bp]at h;exact wpAny_eqBool_str h
 «strs»:=fun k x t v h=>by
  rcases dl h with⟨i,u,rfl,e⟩ |⟨y,u,rfl,e⟩
  ·exact nomatch e
  ·injection e with e1 _
   subst e1
   cases v <;> rfl
end L2
namespace L2
open PySem PySem.Spec PyProof.Rows
inductive V where
 |non |bl (b:Bool) |int (i:Int) |str (x:Str) |byt (b:Array UInt8) |flt (b:UInt64) |ref (a:Addr) |ty (n:String)
 deriving DecidableEq
def RelV:V→Value→Prop
 |.non,u=>u=Value.none
 |.bl b,u=>u=Value.bool b
 |.int i,u=>∃t,u=Value.int i t
 |.str x,u=>∃t,u=Value.str x t
 |.byt b,u=>∃t,u=Value.bytes b t
 |.flt b,u=>∃t,u=Value.float b t
 |.ref a,u=>u=Value.ref a
 |.ty n,u=>u=Value.type n
abbrev Vals:List V→List Value→Prop:=Paired RelV
theorem Vals.length{xs:List V}{us:List Value}(r:Vals xs us):xs.length=us.length:=Paired.length r
theorem Vals.get:∀{xs:List V} {us:List Value} {i:Nat} {x:V},Vals xs us→xs[i]? =some x→∃u,us[i]? =some u∧RelV x u
 |_,_,_,_,.nil,e=>by simp at e
 |_,_,0,_,.cons r _,e=>by simp at e;subst e;exact⟨_,rfl,r⟩
 |_,_,i+1,x,.cons _ t,e=>by
  obtain⟨u,h1,h2⟩:=Vals.get (i:=i) (x:=x) t (by simpa using e)
  exact⟨u,by simpa using h1,h2⟩
theorem Vals.set{x:V}{u:Value}(r:RelV x u):∀{xs:List V} {us:List Value} (i:Nat),Vals xs us→Vals (xs.set i x) (us.set i u)
 |_,_,_,.nil=>.nil
 |_,_,0,.cons _ t=>.cons r t
 |_,_,i+1,.cons q t=>.cons q (Vals.set r i t)
theorem Vals.append:∀{xs ys:List V} {us ws:List Value},Vals xs us→Vals ys ws→Vals (xs++ys) (us++ws)
 |_,_,_,_,.nil,s=>s
 |_,_,_,_,.cons r t,s=>.cons r (Vals.append t s)
theorem Vals.take:∀{xs:List V} {us:List Value} (n:Nat),Vals xs us→Vals (xs.take n) (us.take n)
 |_,_,0,_=>.nil
 |_,_,_+1,.nil=>.nil
 |_,_,n+1,.cons r t=>.cons r (Vals.take n t)
theorem Vals.drop:∀{xs:List V} {us:List Value} (n:Nat),Vals xs us→Vals (xs.drop n) (us.drop n)
 |_,_,0,r=>r
 |_,_,_+1,.nil=>.nil
 |_,_,n+1,.cons _ t=>Vals.drop n t
theorem Vals.none_of:∀{xs:List V} {us:List Value} {i:Nat},Vals xs us→xs[i]? =none→us[i]? =none:=fun {xs us i} r e=>by
 have h1:=r.length
 have h2:xs.length≤i:=List.getElem?_eq_none_iff.mp e
 exact List.getElem?_eq_none_iff.mpr (by omega)
def RelO:Option V→Option Value→Prop
 |some v,some u=>RelV v u
 |none,none=>True
 |_,_=>False
def KV{κ:Type}:List (κ×V)→List (κ×Value)→Prop:=Paired fun(p:κ×V) (q:κ×Value)=>p.1=q.1∧RelV p.2 q.2
def kV:iJ→V
 |.inl i=>.int i
 |.inr x=>.str x
inductive HO where
 /-- a list -/
 |lst (xs:List V)
 /-- a tuple (never changes) -/
 |tup (xs:List V)
 /-- a dict whose keys are ints and texts;one whose keys are tuples of ints and texts (the empty one is both) -/
 |dK (kvs:List (iJ×V)) |dT (kvs:List (List iJ×V))
 /-- a set of ints:its members,its size -/
 |set (S:Int→Bool) (n:Nat)
 /-- an instance of the class at C,its dict at dx,its attributes -/
 |ins (C dx:Addr) (fs:List (Str×V))
 /-- the dict of the instance at x -/
 |own (x:Addr)
 /-- the dict of an exception -/
 |xd (fs:List (Str×V))
 /-- a bound method,f of x -/
 |met (f x:Addr)
 /-- a range object lo,lo+1,.. below hi -/
 |rng (lo hi:Int)
 /-- a thing that is known to the object (the script;a dict while a loop walks it):read,never written while it is so -/
 |frz (o:Obj) (u:HO)
 /-- a code object's table -/
 |tbl (q:Str)
 /-- any other thing,by what is true of its one object (a def of one's own:SetO a S n:=HO.ext fun h=> ..) -/
 |ext (φ:Heap→Prop)
abbrev Hp:=Addr→Option HO
def upd(H:Hp)(a:Addr)(o:HO):Hp:=fun b=>if b=a then some o else H b
theorem upd_same{H:Hp}{a:Addr}{o:HO}:upd H a o a=some o:=by unfold upd;rw[if_pos rfl]
theorem aC{H:Hp}{a b:Addr}{o:HO}(h:b≠a):upd H a o b=H b:=by unfold upd;rw[if_neg h]
theorem tL{H:Hp}{a:Addr}{o u:HO}:upd (upd H a o) a u=upd H a u:=by
 funext b;unfold upd;split <;> rfl
theorem AE{H:Hp}{a b:Addr}{o u:HO}(h:H a=some o)(h':H b=some u)(d:o≠u):a≠b:=by
 intro e;subst e;rw[h]at h';exact d (Option.some.inj h')
theorem bc{H:Hp}{a b:Addr}{o:HO}(h:H a=some o)(h':H b=none):a≠b:=by
 intro e;subst e;rw[h]at h';cases h'
section
variable (P:Program) (w:World)
def ObjOk(H:Hp)(h:Heap)(a:Addr):HO→Prop
 |.lst xs=>xs.length≤sizeLine∧∃(its:List Value) (n:Nat),Vals xs its∧h.get? a=some {cls:=.type "list",data:=.seq its.toArray n}
 |.tup xs=>xs.length≤sizeLine∧∃its:List Value,Vals xs its∧IsTup h a its.toArray
 |.dK kvs=>kvs.length≤sizeLine∧(a == sysModules)=false∧∃vs,KV kvs vs∧h.DictOf (mH P w) a vs
 |.dT kvs=>kvs.length≤sizeLine∧(a == sysModules)=false∧∃xs:List (List iJ×Addr×Value),
   Paired (fun(p:List iJ×V) (q:List iJ×Addr×Value)=>p.1=q.1∧H q.2.1=some (.tup (p.1.map kV))∧RelV p.2 q.2.2) kvs xs∧
   ∃o es ep,h.get? a=some o∧o.ExactDict∧o.data=.dict es ep∧es.toList=xs.map (entryOfKey (tupleKind (mH P w)))∧(xs.map (·.1)).Nodup
 |.set S n=>h.SetOf (intKind P w) a S n
 |.ins C dx fs=>H dx=some (.own a)∧fs.length≤1000∧dx≠a∧h.get? a=some (PySem.W.instObj C dx)∧
   ∃mA,h.Ns1 dx mA∧(∀f,RelO (fs.lookup f) (mA f))∧PySem.Within mA (fs.map (·.1))
 |.own _=>∃o,h.get? a=some o
 |.xd fs=>∃mA,h.Ns1 a mA∧∀f,RelO (fs.lookup f) (mA f)
 |.rng lo hi=>∃t u v,h.get? a=some {cls:=.type "range",data:=.fields #[.int lo t,.int hi u,.int 1 v]}
 |.frz o u=>h.get? a=some o∧ObjOk H h a u
 |.tbl q=>∃ps:Array Value,h.get? a=some (PySem.W.tabObj ps)∧TriplesOk ps.toList∧∀pos cv,codeAmong pos ps.toList=some cv→∃c,cv=Value.ref c∧H c=some (.own a)∧h.CodeRec cv q
 |.met f x=>h.get? a=some (PySem.W.methodObj (.ref f) (.ref x))
 |.ext φ=>φ h∧(∃o,h.get? a=some o)∧∀h1 h2:Heap,φ h1→(∀o,h1.get? a=some o→h2.get? a=some o)→φ h2
def HOk(H:Hp)(h:Heap):Prop:=∀a o,H a=some o→ObjOk P w H h a o
end
section
variable {P:Program} {w:World} {H H':Hp} {h h':Heap} {a:Addr} {o:HO}
theorem ObjOk.lt(x:ObjOk P w H h a o):a < h.objs.size:=by
 cases o with
 |lst xs=>obtain⟨_,_,_,_,e⟩:=x;exact Heap.lt_size e
 |tup xs=>obtain⟨_,_,_,p⟩:=x;exact p.lt
 |dK kvs=>obtain⟨_,_,_,_,o,_,_,e,_⟩:=x;exact Heap.lt_size e
 |dT kvs=>obtain⟨_,_,_,_,o,_,_,e,_⟩:=x;exact Heap.lt_size e
 |set S n=>obtain⟨o,_,_,_,e,_⟩:=x;exact Heap.lt_size e
 |ins C dx fs=>obtain⟨_,_,_,e,_⟩:=x;exact Heap.lt_size e
 |own y=>obtain⟨_,e⟩:=x;exact Heap.lt_size e
 |xd fs=>obtain⟨_,⟨_,_,_,e,_⟩,_⟩:=x;exact Heap.lt_size e
 |rng lo hi=>obtain⟨_,_,_,e⟩:=x;exact Heap.lt_size e
 |frz ob u=>obtain⟨e,_⟩:=x;exact Heap.lt_size e
 |tbl q=>obtain⟨_,e,_⟩:=x;exact Heap.lt_size e
 |met f y=>exact Heap.lt_size (show h.get? a=some _ from x)
 |ext φ=>obtain⟨_,⟨_,e⟩,_⟩:=x;exact Heap.lt_size e
theorem Paired.mapP{α β:Type}{F G:α→β→Prop}{l₁:List α}{l₂:List β}(h:Paired F l₁ l₂)(f:∀a b,F a b→G a b):Paired G l₁ l₂:=by
 induction h with
 |nil=>exact .nil
 |cons r _ t=>exact .cons (f _ _ r) t
theorem ObjOk.stay(x:ObjOk P w H h a o)(k:∀b u,(b=a∨H b=some (.own a))→h.get? b=some u→h'.get? b=some u)
  (ho:∀b,H b=some (.own a)→H' b=some (.own a)) (ht:∀b xs,H b=some (.tup xs)→H' b=some (.tup xs)):ObjOk P w H' h' a o:=by
 induction o with
 |lst xs=>obtain⟨z,its,n,r,e⟩:=x;exact⟨z,its,n,r,k _ _ (.inl rfl) e⟩
 |tup xs=>obtain⟨z,its,r,ob,e,c⟩:=x;exact⟨z,its,r,ob,k _ _ (.inl rfl) e,c⟩
 |dK kvs=>obtain⟨z,y,vs,r,ob,es,ep,e,c⟩:=x;exact⟨z,y,vs,r,ob,es,ep,k _ _ (.inl rfl) e,c⟩
 |dT kvs=>
  obtain⟨z,y,xs,r,ob,es,ep,e,c⟩:=x
  exact⟨z,y,xs,Paired.mapP r fun p q z=>⟨z.1,ht _ _ z.2.1,z.2.2⟩,ob,es,ep,k _ _ (.inl rfl) e,c⟩
 |set S n=>obtain⟨ob,es,ep,t,e,c⟩:=x;exact⟨ob,es,ep,t,k _ _ (.inl rfl) e,c⟩
 |ins C dx fs=>
  obtain⟨d,z,ne,e,mA,⟨od,es,ep,e2,c⟩,r⟩:=x
  exact⟨ho _ d,z,ne,k _ _ (.inl rfl) e,mA,⟨od,es,ep,k _ _ (.inr d) e2,c⟩,r⟩
 |own y=>obtain⟨ob,e⟩:=x;exact⟨ob,k _ _ (.inl rfl) e⟩
 |xd fs=>obtain⟨mA,⟨od,es,ep,e,c⟩,r⟩:=x;exact⟨mA,⟨od,es,ep,k _ _ (.inl rfl) e,c⟩,r⟩
 |rng lo hi=>obtain⟨t,u,v,e⟩:=x;exact⟨t,u,v,k _ _ (.inl rfl) e⟩
 |frz ob u ih=>obtain⟨e,q⟩:=x;exact⟨k _ _ (.inl rfl) e,ih q⟩
 |tbl q=>
  obtain⟨ps,e,t,r⟩:=x
  refine⟨ps,k _ _ (.inl rfl) e,t,fun pos cv z=>?_⟩
  obtain⟨c,ec,ho',c2,oc,vs,tq,hc,hoc,hd⟩:=r pos cv z
  subst ec
  cases hc
  exact⟨c,rfl,ho _ ho',c,oc,vs,tq,rfl,k _ _ (.inr ho') hoc,hd⟩
 |met f y=>
  have e:h.get? a=some (PySem.W.methodObj (.ref f) (.ref y)):=x
  show h'.get? a=some (PySem.W.methodObj (.ref f) (.ref y))
  exact k a _ (.inl rfl) e
 |ext φ=>obtain⟨p,⟨o,e⟩,st⟩:=x;exact⟨st _ _ p fun o q=>k _ _ (.inl rfl) q,⟨o,k _ _ (.inl rfl) e⟩,st⟩
theorem HOk.lt(x:HOk P w H h)(e:H a=some o):a < h.objs.size:=(x a o e).lt
theorem HOk.fresh(x:HOk P w H h)(e:h.objs.size≤a):H a=none:=by
 cases q:H a with
 |none=>rfl
 |some u=>exact absurd (Nat.lt_of_lt_of_le (x.lt q) e) (Nat.lt_irrefl _)
theorem HOk.kept(x:HOk P w H h)(k:∀b u,h.get? b=some u→h'.get? b=some u):HOk P w H h':=fun a o e=>
 (x a o e).stay (fun b u _ q=>k b u q) (fun _ q=>q) fun _ _ q=>q
theorem HOk.laid(x:HOk P w H h)(k:∀b u,h.get? b=some u→h'.get? b=some u)(hp:h.objs.size≤a)(new:ObjOk P w (upd H a o) h' a o):HOk P w (upd H a o) h':=fun b u e=>by
 have hn:=x.fresh hp
 by_cases hb:b=a
 ·subst hb;rw[upd_same]at e;cases e;exact new
 ·rw[aC hb]at e
  exact(x b u e).stay (fun c v _ q=>k c v q) (fun c q=>by rw[aC (bc q hn)];exact q) fun c xs q=>by rw[aC (bc q hn)];exact q
end
def Rd(H:Hp)(a:Addr)(u:HO):Prop:=H a=some u∨∃o,H a=some (.frz o u)
theorem Rd.ok{P:Program}{w:World}{H:Hp}{h:Heap}{a:Addr}{u:HO}(r:Rd H a u)(x:HOk P w H h):ObjOk P w H h a u:=by
 rcases r with r |⟨o,r⟩
 ·exact x a u r
 ·obtain⟨_,q⟩:=x a _ r
  exact q
def EM:Option HO→Prop
 |some (.lst _)=>True
 |some (.dK _)=>True
 |some (.dT _)=>True
 |some (.set _ _)=>True
 |some (.ins _ _ _)=>True
 |some (.ext _)=>True
 |_=>False
section
variable {P:Program} {w:World} {H:Hp} {h h':Heap} {x e:Addr} {o':HO}
theorem HOk.write(ok:HOk P w H h)(mu:EM (H x))(he:e=x∨H e=some (.own x))(k:∀b u,b≠e→h.get? b=some u→h'.get? b=some u)(heo:∃u,h'.get? e=some u)
  (new:ObjOk P w (upd H x o') h' x o'):HOk P w (upd H x o') h':=fun b u q=>by
 have nown:∀c y,H c=some (.own y)→c≠x:=fun c y r z=>by subst z;rw[r]at mu;exact mu
 have ntup:∀c xs,H c=some (.tup xs)→c≠x:=fun c xs r z=>by subst z;rw[r]at mu;exact mu
 by_cases hb:b=x
 ·subst hb;rw[upd_same]at q;cases q;exact new
 ·rw[aC hb]at q
  by_cases hbe:b=e
  ·have q':H b=some (.own x):=by
    rcases he with z |z
    ·exact absurd (hbe.trans z) hb
    ·rw[hbe];exact z
   rw[q]at q';cases q'
   obtain⟨v,hv⟩:=heo
   exact⟨v,by rw[hbe];exact hv⟩
  ·refine(ok b u q).stay (fun c v hc r=>k c v ?_ r) (fun c r=>by rw[aC (nown c b r)];exact r) fun c xs r=>by rw[aC (ntup c xs r)];exact r
   rcases hc with rfl |hc
   ·exact hbe
   ·rintro rfl
    rcases he with z |z
    ·exact nown c b hc z
    ·rw[hc]at z;cases z;exact hb rfl
end
structure Un (fs ex:List Addr) (H H':Hp) (h h':Heap):Prop where
 keep:∀b o,h.get? b=some o→H b=none→b∉fs→b∉ex→h'.get? b=some o
 slot:∀b o,h.get? b=some o→H b=none→b∈fs→b∉ex→∃sl,h'.get? b=some {o with slots:=sl}
 free:∀b o,h.get? b=some o→H b=none→b∉ex→H' b=none
 there:∀b o,h.get? b=some o→b∉ex→∃o',h'.get? b=some o'
 tups:∀b xs,H b=some (.tup xs)→H' b=some (.tup xs)
 frzs:∀b o u,H b=some (.frz o u)→H' b=some (.frz o u)
 tbls:∀b ps,H b=some (.tbl ps)→H' b=some (.tbl ps)
section
variable {fs fs' ex ex':List Addr} {H H1 H2:Hp} {h h1 h2 h':Heap} {a x e:Addr} {o:HO}
theorem Un.any(u:Un fs ex H H1 h h1){b:Addr}{ob:Obj}(q:h.get? b=some ob)(n:H b=none)(hx:b∉ex):∃sl,h1.get? b=some {ob with slots:=sl}:=by
 by_cases hb:b∈fs
 ·exact u.slot b ob q n hb hx
 ·exact⟨ob.slots,u.keep b ob q n hb hx⟩
theorem Un.trans(a:Un fs ex H H1 h h1)(b:Un fs ex H1 H2 h1 h2):Un fs ex H H2 h h2 where
 keep:=fun c ob q n hc hx=>b.keep c ob (a.keep c ob q n hc hx) (a.free c ob q n hx) hc hx
 slot:=fun c ob q n hc hx=>by
  obtain⟨sl,e1⟩:=a.slot c ob q n hc hx
  obtain⟨sl',e2⟩:=b.slot c _ e1 (a.free c ob q n hx) hc hx
  exact⟨sl',e2⟩
 free:=fun c ob q n hx=>by
  obtain⟨o',e1⟩:=a.there c ob q hx
  exact b.free c o' e1 (a.free c ob q n hx) hx
 there:=fun c ob q hx=>by
  obtain⟨o',e1⟩:=a.there c ob q hx
  exact b.there c o' e1 hx
 tups:=fun c xs q=>b.tups c xs (a.tups c xs q)
 frzs:=fun c ob xs q=>b.frzs c ob xs (a.frzs c ob xs q)
 tbls:=fun c ps q=>b.tbls c ps (a.tbls c ps q)
theorem Un.kept(k:∀b u,h.get? b=some u→h'.get? b=some u):Un fs ex H H h h':=
 ⟨fun b ob q _ _ _=>k b ob q,fun b ob q _ _ _=>⟨ob.slots,k b ob q⟩,fun _ _ _ n _=>n,fun b ob q _=>⟨ob,k b ob q⟩,fun _ _ q=>q,fun _ _ _ q=>q,fun _ _ q=>q⟩
theorem Un.refl:Un fs ex H H h h:=Un.kept fun _ _ q=>q
theorem Un.laid(k:∀b u,h.get? b=some u→h'.get? b=some u)(hp:h.objs.size≤a)(hn:H a=none):Un fs ex H (upd H a o) h h' where
 keep:=fun b u q _ _ _=>k b u q
 slot:=fun b u q _ _ _=>⟨u.slots,k b u q⟩
 free:=fun b u q n _=>by rw[aC (Nat.ne_of_lt (Nat.lt_of_lt_of_le (Heap.lt_size q) hp))];exact n
 there:=fun b u q _=>⟨u,k b u q⟩
 tups:=fun b xs q=>by rw[aC (bc q hn)];exact q
 frzs:=fun b u xs q=>by rw[aC (bc q hn)];exact q
 tbls:=fun b ps q=>by rw[aC (bc q hn)];exact q
theorem Un.write(mu:EM (H x))(he:e=x∨H e=some (.own x))(k:∀b u,b≠e→h.get? b=some u→h'.get? b=some u)(heo:∃u,h'.get? e=some u):Un fs ex H (upd H x o) h h':=by
 have hx:∀b,H b=none→b≠x:=fun b n z=>by subst z;rw[n]at mu;exact mu
 have hb:∀b,H b=none→b≠e:=fun b n z=>by
  subst z
  rcases he with r |r
  ·exact hx b n r
  ·rw[n]at r;cases r
 have hm:∀b u,H b=some u→¬EM (some u)→b≠x:=fun b u q nm z=>by subst z;rw[q]at mu;exact nm mu
 refine⟨fun b u q n _ _=>k b u (hb b n) q,fun b u q n _ _=>⟨u.slots,k b u (hb b n) q⟩,fun b u q n _=>by rw[aC (hx b n)];exact n,fun b u q _=>?_,
  fun b xs q=>by rw[aC (hm b _ q fun z=>z)];exact q,fun b u xs q=>by rw[aC (hm b _ q fun z=>z)];exact q,fun b ps q=>by rw[aC (hm b _ q fun z=>z)];exact q⟩
 by_cases hbe:b=e
 ·subst hbe;exact heo
 ·exact⟨u,k b u hbe q⟩
theorem Un.mono(u:Un fs ex H H1 h h1)(hs:∀b∈fs,b∈fs')(hx:∀b∈ex,b∈ex'):Un fs' ex' H H1 h h1:=
 ⟨fun b ob q n hb he=>u.keep b ob q n (fun z=>hb (hs b z)) fun z=>he (hx b z),fun _ _ q n _ he=>u.any q n fun z=>he (hx _ z),fun b ob q n he=>u.free b ob q n fun z=>he (hx b z),fun b ob q he=>u.there b ob q fun z=>he (hx b z),u.tups,u.frzs,u.tbls⟩
end
def EN(h:Heap)(H:Hp):List Addr:=(List.range h.objs.size).filter fun a=>(H a).isSome
def qx(h:Heap)(H:Hp):Heap:=PySem.W.hideAll h (EN h H)
theorem uM(h:Heap)(H:Hp):(qx h H).objs.size=h.objs.size:=PySem.W.hideAll_size _ _
theorem mQ{h:Heap}{H:Hp}{b:Addr}{o:Obj}(e:h.get? b=some o)(n:H b=none):(qx h H).get? b=some o:=
 PySem.W.hideAll_get _ e fun hm=>by
  have q:(H b).isSome=true:=(List.mem_filter.mp hm).2
  rw[n]at q;simp at q
theorem yI{h:Heap}{H:Hp}{b:Addr}{o:Obj}(e:(qx h H).get? b=some o):h.get? b=some o∧H b=none:=by
 have e':h.get? b=some o:=PySem.W.of_hideAll (EN h H) e
 refine⟨e',?_⟩
 cases q:H b with
 |none=>rfl
 |some x=>
  have hm:b∈EN h H:=List.mem_filter.mpr ⟨List.mem_range.mpr (Heap.lt_size e'),by simp[q]⟩
  have z:(qx h H).get? b=none:=PySem.W.hideAll_none (EN h H) hm
  rw[z]at e;cases e
def yJ(g h:Heap)(L:Addr):List (Addr×Obj):=(List.range h.objs.size).filterMap fun a=>if a=L∨(g.get? a).isSome=true then none else (h.get? a).map fun o=>(a,o)
def dW(g h:Heap)(L d:Addr):List (Addr×Obj):=(yJ g h L).filter fun p=>decide (p.1≠d)
end L2
namespace L2
open PySem PySem.Spec PyProof.Rows
def vY(K:PySem.W.Frag)(n:Str):Option Addr:=match PySem.W.nsIn K mainGlobals n with
 |some (some (.ref f))=>match K.lookup f with
  |some ⟨_,_,.func fd,_⟩=>match fd.code with
   |.ref c=>match K.lookup c with
    |some ⟨_,_,.fields vs,_⟩=>match (vs[11]? :Option Value)with
     |some (.ref P)=>some P
     |_=>none
    |_=>none
   |_=>none
  |_=>none
 |_=>none
def AF:List (Str×Str):=[("in_told_order","in_told_order.<locals>.<lambda>"),("_law_moves_refused","_law_moves_refused.<locals>.<lambda>"),("_law_long_refused","_law_long_refused.<locals>.<lambda>"),("_law_sets_refused","_law_sets_refused.<locals>.<lambda>"),("_law_cords_refused","_law_cords_refused.<locals>.<lambda>"),("_law_many_refused","_law_many_refused.<locals>.<lambda>"),("_law_two_refused","_law_two_refused.<locals>.<lambda>"),("_law_at_least_refused","_law_at_least_refused.<locals>.<lambda>")]
def yK(K:PySem.W.Frag)(b:Addr):List (Str×Str)→Option Str
 |[]=>none
 |n::r=>if vY K n.1=some b then some n.2 else yK K b r
def mR(K:PySem.W.Frag)(b:Addr):Option Str:=yK K b AF
structure Mod (K:PySem.W.Frag) (mg:Str→Option Value) (base:Heap):Prop where
 kin:K.In base
 glob:base.Ns mainGlobals mg
 blt:∃mb,base.Ns builtinsNs mb∧∀x:Str,x≠"__name__"→mb x=bootBuiltins x
 nolimit:base.NoLimit
 bmain:∃bm ob,mg "__builtins__"=some (.ref bm)∧bm≠builtinsNs∧base.get? bm=some ob∧ob.cls=.type "module"∧ob.dict=some builtinsNs∧ob.data=.plain
structure Cx where
 prog:Program
 w:World
 K:PySem.W.Frag
 mg:Str→Option Value
 base:Heap
 A:Around
 N:List Str
 s₀:Shared
 H₀:Hp
 env:Env
 outer:List Env
 stack:List Env
 ex:List Addr
 fn:Str→Bool
 calm:Bool
 pn:List (Addr×Obj)
 xe:Value→Shared→Prop
def kP(l:List Env):List Addr:=l.filterMap (·.frame)
abbrev Cx.fs(X:Cx):List Addr:=kP X.outer
def AG(sc:Scope)(x:Str):Prop:=sc.names.lookup x=some .local∨sc.names.lookup x=some .cell∨sc.names.lookup x=some .free
def C8(sc:Scope)(x:Str):Prop:=sc.names.lookup x=some .local∨sc.names.lookup x=some .cell
def E_(env:Env)(h:Heap)(m:Str→Option Value)(x:Str)(u:Value):Prop:=
 (env.kindOf x=some .local∧m x=some u)∨((env.kindOf x=some .cell∨env.kindOf x=some .free)∧∃c,env.cells.lookup x=some c∧h.IsCell c (some u))
structure Cx.Ok (X:Cx):Prop where
 mod:Mod X.K X.mg X.base
 kind:X.env.scope.kind=.function
 glob:X.env.globals=mainGlobals
 blt:X.env.builtins=builtinsNs
 above:X.s₀.heap.objs.size≤X.env.locals
 inj:∀x y c,X.env.cells.lookup x=some c→X.env.cells.lookup y=some c→x=y
 has:∀x,(X.env.kindOf x=some .cell∨X.env.kindOf x=some .free)→∃c,X.env.cells.lookup x=some c
 cab:∀x c,X.fn x=true→X.env.cells.lookup x=some c→X.s₀.heap.objs.size≤c
 hd:X.calm=true→X.A.handled=none
 frames:X.A.frames=some X.stack
 stk:X.stack=X.outer∨(X.stack=X.env::X.outer∧X.env.frame=some X.env.locals)
 exf:∀b∈X.ex,b≠X.env.locals∧∀x c,X.env.cells.lookup x=some c→c≠b
 bs:∀b o,X.base.get? b=some o→X.s₀.heap.get? b=some o∧X.H₀ b=none
 bsz:X.base.objs.size≤X.s₀.heap.objs.size
 noex:∀b o,X.base.get? b=some o→b∉X.ex
 exfs:∀b∈X.ex,b∉X.fs
 funs:X.s₀.heap.FunFrames X.base X.outer
 frf:∀b∈X.fs,X.H₀ b=none
 tab:∀b q,mR X.K b=some q→X.H₀ b=some (.tbl q)
structure Inv (X:Cx) (pins:List (Addr×Obj)) (σ:List (Option V)) (H:Hp) (s:Shared):Prop where
 ok:X.Ok
 os:s.os=X.s₀.os
 bare:AllBare s.gens
 base:Un X.fs X.ex X.H₀ H X.s₀.heap s.heap
 loc:∃m,s.heap.Ns X.env.locals m∧∀(i:Nat) (x:Str) (v:V),X.N[i]? =some x→σ[i]? =some (some v)→AG X.env.scope x→∃u,RelV v u∧E_ X.env s.heap m x u
 cell:∀x c,X.env.cells.lookup x=some c→∃v,s.heap.IsCell c v
 free:H X.env.locals=none
 freeC:∀x c,X.env.cells.lookup x=some c→H c=none
 pin:∀p∈X.pn++pins,s.heap.get? p.1=some p.2∧H p.1=none∧p.1≠X.env.locals∧p.1∉X.fs∧∀v,p.2.data≠ .cell v
 hok:HOk X.prog X.w H s.heap
 len:σ.length=X.N.length
section
variable {X:Cx} {pins:List (Addr×Obj)} {σ:List (Option V)} {H H':Hp} {s:Shared} {h':Heap}
theorem Cx.Ok.nofr(ok:X.Ok){b:Addr}{o:Obj}(e:X.base.get? b=some o):b∉X.fs:=fun hb=>by
 have:=(ok.funs.mem hb).1
 rw[e]at this;cases this
theorem Inv.bs(I:Inv X pins σ H s):∀b o,X.base.get? b=some o→s.heap.get? b=some o∧H b=none:=fun b o e=>
 ⟨I.base.keep b o (I.ok.bs b o e).1 (I.ok.bs b o e).2 (I.ok.nofr e) (I.ok.noex b o e),I.base.free b o (I.ok.bs b o e).1 (I.ok.bs b o e).2 (I.ok.noex b o e)⟩
theorem Inv.bk(I:Inv X pins σ H s):∀b o,X.base.get? b=some o→s.heap.get? b=some o:=fun b o e=>(I.bs b o e).1
theorem Inv.mod(I:Inv X pins σ H s):Mod X.K X.mg X.base:=I.ok.mod
theorem Inv.tab(I:Inv X pins σ H s):∀b q,mR X.K b=some q→H b=some (.tbl q):=fun b q e=>I.base.tbls b q (I.ok.tab b q e)
theorem Inv.kIn(I:Inv X pins σ H s):X.K.In s.heap:=I.ok.mod.kin.keeps I.bk
theorem Inv.nolimit(I:Inv X pins σ H s):s.heap.NoLimit:=I.ok.mod.nolimit.keeps I.bk
theorem Inv.lt(I:Inv X pins σ H s):X.env.locals < s.heap.objs.size:=let ⟨_,hn,_⟩:=I.loc;hn.lt
theorem Inv.sz(I:Inv X pins σ H s):X.s₀.heap.objs.size≤s.heap.objs.size:=Nat.le_trans I.ok.above (Nat.le_of_lt I.lt)
theorem Inv.nofs(I:Inv X pins σ H s){a:Addr}(h:s.heap.objs.size≤a):a∉X.fs:=fun hb=>by
 obtain⟨_,o,ho,_⟩:=I.ok.funs.mem hb
 exact absurd (Nat.lt_of_lt_of_le (Heap.lt_size ho) (Nat.le_trans I.sz h)) (Nat.lt_irrefl _)
theorem Inv.cne(I:Inv X pins σ H s):∀x c,X.env.cells.lookup x=some c→c≠X.env.locals:=fun x c e z=>by
 obtain⟨v,o,ho,hd⟩:=I.cell x c e
 obtain⟨m,⟨o',es,ep,ho',hd',_⟩,_⟩:=I.loc
 rw[z,ho']at ho;cases ho;rw[hd']at hd;cases hd
theorem Inv.funs(I:Inv X pins σ H s):s.heap.FunFrames X.base X.outer:=by
 have all:∀(l:List Env),(∀b∈kP l,b∈X.fs)→X.s₀.heap.FunFrames X.base l→s.heap.FunFrames X.base l:=by
  intro l
  induction l with
  |nil=>intro _ _;trivial
  |cons env r ih=>
   intro hs hl
   obtain⟨hk,⟨L,o,hf,hn,ho,hd⟩,hr⟩:=hl
   have hL:L∈X.fs:=hs L (by unfold kP;rw[List.filterMap_cons,hf];exact List.mem_cons_self)
   obtain⟨sl,e⟩:=I.base.slot L o ho (I.ok.frf L hL) hL fun z=>I.ok.exfs L z hL
   exact⟨hk,⟨L,_,hf,hn,e,hd⟩,ih (fun b hb=>hs b (by unfold kP;rw[List.filterMap_cons,hf];exact List.mem_cons_of_mem _ hb)) hr⟩
 exact all X.outer (fun _ hb=>hb) I.ok.funs
theorem Inv.stack(I:Inv X pins σ H s):s.heap.FunFrames X.base X.stack:=by
 rcases I.ok.stk with e |⟨e,hf⟩
 ·rw[e];exact I.funs
 ·rw[e]
  obtain⟨m,hn,_⟩:=I.loc
  refine .cons (by rw[I.ok.kind];decide) hf hn ?_ I.funs
  exact Heap.get?_none_of_le (Nat.le_trans I.ok.bsz I.ok.above)
theorem Inv.stkSub(I:Inv X pins σ H s):∀b∈kP X.stack,b∈X.env.locals::X.fs:=fun b hb=>by
 rcases I.ok.stk with e |⟨e,hf⟩
 ·rw[e]at hb;exact List.mem_cons_of_mem _ hb
 ·rw[e]at hb
  unfold kP at hb
  rw[List.filterMap_cons,hf]at hb
  exact hb
theorem Inv.stkFree(I:Inv X pins σ H s):∀b∈kP X.stack,H b=none:=fun b hb=>by
 rcases List.mem_cons.mp (I.stkSub b hb)with e |hb
 ·rw[e];exact I.free
 ·obtain⟨_,o,ho,_⟩:=I.ok.funs.mem hb
  exact I.base.free b o ho (I.ok.frf b hb) fun z=>I.ok.exfs b z hb
theorem Inv.step{g':Array GenState}{t':Nat}{d':Drawn}{ch:List Addr}(I:Inv X pins σ H s)
  (hch:∀b∈ch,(b∈X.ex∨X.s₀.heap.objs.size≤b)∧b≠X.env.locals∧(∀x c,X.env.cells.lookup x=some c→c≠b)∧∀p∈X.pn++pins,p.1≠b)
  (keep:∀b o,b≠X.env.locals→b∉X.fs→b∉ch→s.heap.get? b=some o→H b=none→h'.get? b=some o)
  (slot:∀b o,b≠X.env.locals→b∈X.fs→b∉ch→s.heap.get? b=some o→H b=none→∃sl,h'.get? b=some {o with slots:=sl}) (free:∀b o,b∉ch→s.heap.get? b=some o→H b=none→H' b=none)
  (there:∀b o,b∉ch→s.heap.get? b=some o→∃o',h'.get? b=some o')
  (tups:∀b xs,H b=some (.tup xs)→H' b=some (.tup xs)) (frzs:∀b o u,H b=some (.frz o u)→H' b=some (.frz o u)) (tbls:∀b ps,H b=some (.tbl ps)→H' b=some (.tbl ps))
  (ns:∀m,s.heap.Ns X.env.locals m→h'.Ns X.env.locals m) (hok:HOk X.prog X.w H' h') (hg:AllBare g'):
  Inv X pins σ H' {s with heap:=h',gens:=g',drawn:=d',toks:=t'}:=by
 have neL:∀b o,X.s₀.heap.get? b=some o→b≠X.env.locals:=fun b o e=>Nat.ne_of_lt (Nat.lt_of_lt_of_le (Heap.lt_size e) I.ok.above)
 have neC:∀b o,X.s₀.heap.get? b=some o→b∉X.ex→b∉ch:=fun b o e hx hb=>by
  rcases(hch b hb).1 with z |z
  ·exact hx z
  ·exact absurd (Nat.lt_of_lt_of_le (Heap.lt_size e) z) (Nat.lt_irrefl _)
 have cellK:∀x c,X.env.cells.lookup x=some c→∀v,s.heap.IsCell c v→h'.IsCell c v:=fun x c e v ⟨o,ho,hd⟩=>by
  have nch:c∉ch:=fun z=>(hch c z).2.2.1 x c e rfl
  by_cases hc:c∈X.fs
  ·obtain⟨sl,q⟩:=slot c o (I.cne x c e) hc nch ho (I.freeC x c e)
   exact⟨_,q,hd⟩
  ·exact⟨o,keep c o (I.cne x c e) hc nch ho (I.freeC x c e),hd⟩
 refine⟨I.ok,I.os,hg,⟨fun b o e n hb hx=>?_,fun b o e n hb hx=>?_,fun b o e n hx=>?_,fun b o e hx=>?_,fun b xs e=>tups b xs (I.base.tups b xs e),fun b o xs e=>frzs b o xs (I.base.frzs b o xs e),fun b ps e=>?_⟩,?_,fun x c e=>?_,?_,fun x c e=>?_,fun p hp=>?_,hok,I.len⟩
 ·exact keep b o (neL b o e) hb (neC b o e hx) (I.base.keep b o e n hb hx) (I.base.free b o e n hx)
 ·obtain⟨sl,e1⟩:=I.base.slot b o e n hb hx
  obtain⟨sl',e2⟩:=slot b _ (neL b o e) hb (neC b o e hx) e1 (I.base.free b o e n hx)
  exact⟨sl',e2⟩
 ·obtain⟨o',e1⟩:=I.base.there b o e hx
  exact free b o' (neC b o e hx) e1 (I.base.free b o e n hx)
 ·obtain⟨o',e1⟩:=I.base.there b o e hx
  exact there b o' (neC b o e hx) e1
 ·exact tbls b _ (I.base.tbls b ps e)
 ·obtain⟨m,hn,hl⟩:=I.loc
  refine⟨m,ns m hn,fun i x v e1 e2 e3=>?_⟩
  obtain⟨u,r,l⟩:=hl i x v e1 e2 e3
  refine⟨u,r,?_⟩
  rcases l with l |⟨k,c,e,z⟩
  ·exact .inl l
  ·exact .inr ⟨k,c,e,cellK x c e _ z⟩
 ·obtain⟨v,z⟩:=I.cell x c e
  exact⟨v,cellK x c e v z⟩
 ·obtain⟨m,⟨o,_,_,ho,_⟩,_⟩:=I.loc
  exact free _ o (fun z=>(hch _ z).2.1 rfl) ho I.free
 ·obtain⟨v,o,ho,hd⟩:=I.cell x c e
  exact free c o (fun z=>(hch c z).2.2.1 x c e rfl) ho (I.freeC x c e)
 ·obtain⟨e,n,ne,nf,d⟩:=I.pin p hp
  have nch:p.1∉ch:=fun z=>(hch p.1 z).2.2.2 p hp rfl
  exact⟨keep p.1 p.2 ne nf nch e n,free p.1 p.2 nch e n,ne,nf,d⟩
theorem Inv.un{t':Nat}(I:Inv X pins σ H s)(u:Un X.fs [] H H' s.heap h')(hok:HOk X.prog X.w H' h'):Inv X pins σ H' {s with heap:=h',toks:=t'}:=by
 obtain⟨m,⟨o,es,ep,ho,r⟩,_⟩:=id I.loc
 obtain⟨sl,hL⟩:=u.any ho I.free (by simp)
 exact I.step (g':=s.gens) (d':=s.drawn) (ch:=[]) (fun _ z=>nomatch z) (fun b o _ hb _ e n=>u.keep b o e n hb (by simp)) (fun b o _ hb _ e n=>u.slot b o e n hb (by simp)) (fun b o _ e n=>u.free b o e n (by simp)) (fun b o _ e=>u.there b o e (by simp)) u.tups u.frzs u.tbls (fun m' hm=>by
  obtain⟨o',es',ep',ho',r'⟩:=hm
  rw[ho]at ho';cases ho'
  exact⟨_,es',ep',hL,r'⟩) hok I.bare
theorem Inv.call{g':Array GenState}{t':Nat}{d':Drawn}{ch:List Addr}(I:Inv X pins σ H s)(u:Un (kP X.stack) ch H H' s.heap h')(hok:HOk X.prog X.w H' h')(hg:AllBare g')
  (hch:∀b∈ch,(b∈X.ex∨X.s₀.heap.objs.size≤b)∧b≠X.env.locals∧(∀x c,X.env.cells.lookup x=some c→c≠b)∧∀p∈X.pn++pins,p.1≠b):
  Inv X pins σ H' {s with heap:=h',gens:=g',drawn:=d',toks:=t'}:=by
 obtain⟨m,⟨o,es,ep,ho,r⟩,_⟩:=id I.loc
 obtain⟨sl,hL⟩:=u.any ho I.free fun z=>(hch _ z).2.1 rfl
 exact I.step (ch:=ch) hch (fun b o hL hb hc e n=>u.keep b o e n (fun z=>(List.mem_cons.mp (I.stkSub b z)).elim hL hb) hc) (fun b o _ _ hc e n=>u.any e n hc) (fun b o hc e n=>u.free b o e n hc) (fun b o hc e=>u.there b o e hc) u.tups u.frzs u.tbls (fun m' hm=>by
  obtain⟨o',es',ep',ho',r'⟩:=hm
  rw[ho]at ho';cases ho'
  exact⟨_,es',ep',hL,r'⟩) hok hg
theorem Inv.turned{t':Nat}{it:Addr}(I:Inv X pins σ H s)(k:∀b o,b≠it→s.heap.get? b=some o→h'.get? b=some o)(hn:H it=none)(hL:it≠X.env.locals)
  (h1:it∈X.ex∨X.s₀.heap.objs.size≤it) (h2:∀x c,X.env.cells.lookup x=some c→c≠it) (h3:∀p∈X.pn++pins,p.1≠it):Inv X pins σ H {s with heap:=h',toks:=t'}:=by
 have nit:∀b u,H b=some u→b≠it:=fun b u e z=>by rw[z,hn]at e;cases e
 refine I.step (g':=s.gens) (d':=s.drawn) (ch:=[it]) (fun b hb=>?_) (fun b o _ _ hc e _=>k b o (fun z=>hc (by simp[z])) e) (fun b o _ _ hc e _=>⟨o.slots,k b o (fun z=>hc (by simp[z])) e⟩) (fun _ _ _ _ n=>n)
  (fun b o hc e=>⟨o,k b o (fun z=>hc (by simp[z])) e⟩) (fun _ _ e=>e) (fun _ _ _ e=>e) (fun _ _ e=>e) (fun m hm=>?_) (fun b u e=>?_) I.bare
 ·have e:b=it:=by simpa using hb
  subst e
  exact⟨h1,hL,h2,h3⟩
 ·obtain⟨o,es,ep,ho,r⟩:=hm
  exact⟨o,es,ep,k _ o (Ne.symm hL) ho,r⟩
 ·refine(I.hok b u e).stay (fun c v hc q=>k c v ?_ q) (fun _ q=>q) fun _ _ q=>q
  rcases hc with z |z
  ·rw[z];exact nit b u e
  ·exact nit c _ z
theorem Inv.tok(I:Inv X pins σ H s)(t:Nat):Inv X pins σ H {s with toks:=t}:=I.un (h':=s.heap) (t':=t) Un.refl I.hok
theorem Inv.kept{t':Nat}(I:Inv X pins σ H s)(k:∀b u,s.heap.get? b=some u→h'.get? b=some u):Inv X pins σ H {s with heap:=h',toks:=t'}:=I.un (Un.kept k) (I.hok.kept k)
theorem Inv.laid{a:Addr}{o:HO}{t':Nat}(I:Inv X pins σ H s)(k:∀b u,s.heap.get? b=some u→h'.get? b=some u)(hp:s.heap.objs.size≤a)(new:ObjOk X.prog X.w (upd H a o) h' a o):
  Inv X pins σ (upd H a o) {s with heap:=h',toks:=t'}:=I.un (Un.laid k hp (I.hok.fresh hp)) (I.hok.laid k hp new)
theorem Inv.write{x e:Addr}{o:HO}{t':Nat}(I:Inv X pins σ H s)(mu:EM (H x))(he:e=x∨H e=some (.own x))(k:∀b u,b≠e→s.heap.get? b=some u→h'.get? b=some u)(heo:∃u,h'.get? e=some u)
  (new:ObjOk X.prog X.w (upd H x o) h' x o):Inv X pins σ (upd H x o) {s with heap:=h',toks:=t'}:=I.un (Un.write mu he k heo) (I.hok.write mu he k heo new)
theorem Inv.pins_of{pins':List (Addr×Obj)}(I:Inv X pins σ H s)(h:∀p∈pins',s.heap.get? p.1=some p.2∧H p.1=none∧p.1≠X.env.locals∧p.1∉X.fs∧∀v,p.2.data≠ .cell v):Inv X pins' σ H s:=
 ⟨I.ok,I.os,I.bare,I.base,I.loc,I.cell,I.free,I.freeC,fun p hp=>(List.mem_append.mp hp).elim (fun z=>I.pin p (List.mem_append_left _ z)) (h p),I.hok,I.len⟩
theorem mS{N:List Str}(hN:N.Nodup){i j:Nat}{x:Str}(a:N[i]? =some x)(b:N[j]? =some x):i=j:=by
 obtain⟨h1,e1⟩:=List.getElem?_eq_some_iff.mp a
 obtain⟨h2,e2⟩:=List.getElem?_eq_some_iff.mp b
 exact(List.getElem_inj hN).mp (e1.trans e2.symm)
theorem uN{M:Model}{A:Around}{E:Value→Shared→Prop}{i:Nat}{x:Str}{v:V}{u:Value}{Q:Unit→Shared→Prop}(I:Inv X pins σ H s)(hN:X.N.Nodup)(hi:X.N[i]? =some x)(hx:C8 X.env.scope x)(r:RelV v u)
  (h:∀s',Inv X pins (σ.set i (some v)) H s'→(∃a,Heap.SameBut a s.heap s'.heap∧(a=X.env.locals∨X.env.cells.lookup x=some a))→Q () s') (hf:X.fn x=true∨X.env.scope.names.lookup x=some .local:=by first |exact .inl rfl |exact .inr rfl |assumption):wpAny M A (storeName X.env x u) Q E s:=by
 obtain⟨m,hn,hl⟩:=id I.loc
 have hcls:(X.env.scope.kind ==.class||(X.env.scope.kind ==.module&&X.env.locals != X.env.globals))=false:=by rw[I.ok.kind];rfl
 have hiσ:i < σ.length:=by rw[I.len];exact(List.getElem?_eq_some_iff.mp hi).1
 have cne:=I.cne
 have tracked:∀{a:Addr} {h':Heap},(∃o,s.heap.get? a=some o∧H a=none)→Heap.SameBut a s.heap h'→HOk X.prog X.w H h':=fun {a h'} ha hs b ob e=>by
  obtain⟨_,_,hfree⟩:=ha
  refine(I.hok b ob e).stay (fun c w' hc q=>(hs.2 c ?_).trans q) (fun _ q=>q) fun _ _ q=>q
  rintro rfl
  rcases hc with rfl |hc
  ·rw[hfree]at e;cases e
  ·rw[hfree]at hc;cases hc
 rcases hx with hk |hk
 ·refine wpAny_storeName_local hk hn (fun h' hn' hs=>?_) hcls
  obtain⟨oL,_,_,hoL,_⟩:=id hn
  refine h _ ⟨I.ok,I.os,I.bare,⟨fun b o e n hb hx=>?_,fun b o e n hb hx=>?_,I.base.free,fun b o e hx=>?_,I.base.tups,I.base.frzs,I.base.tbls⟩,⟨_,hn',fun j y v' e1 e2 e3=>?_⟩,fun y c e=>?_,I.free,I.freeC,fun p hp=>?_,tracked ⟨oL,hoL,I.free⟩ hs,by simpa using I.len⟩ ⟨_,hs,.inl rfl⟩
  ·exact(hs.2 b (Nat.ne_of_lt (Nat.lt_of_lt_of_le (Heap.lt_size e) I.ok.above))).trans (I.base.keep b o e n hb hx)
  ·obtain⟨sl,e1⟩:=I.base.slot b o e n hb hx
   exact⟨sl,(hs.2 b (Nat.ne_of_lt (Nat.lt_of_lt_of_le (Heap.lt_size e) I.ok.above))).trans e1⟩
  ·obtain⟨o',e1⟩:=I.base.there b o e hx
   exact⟨o',(hs.2 b (Nat.ne_of_lt (Nat.lt_of_lt_of_le (Heap.lt_size e) I.ok.above))).trans e1⟩
  ·by_cases hj:j=i
   ·subst hj
    rw[hi]at e1;cases e1
    rw[List.getElem?_set_self hiσ]at e2
    cases e2
    exact⟨u,r,.inl ⟨hk,by simp⟩⟩
   ·rw[List.getElem?_set_ne (Ne.symm hj)]at e2
    obtain⟨u',r',q⟩:=hl j y v' e1 e2 e3
    refine⟨u',r',?_⟩
    rcases q with⟨k,e⟩ |⟨k,c,e,z⟩
    ·refine .inl ⟨k,?_⟩
     have:y≠x:=fun e=>hj (mS hN e1 (e▸hi))
     simp[this,e]
    ·exact .inr ⟨k,c,e,z.sameBut hs (cne y c e)⟩
  ·obtain⟨w',z⟩:=I.cell y c e
   exact⟨w',z.sameBut hs (cne y c e)⟩
  ·obtain⟨e,n,ne,nf,d⟩:=I.pin p hp
   exact⟨(hs.2 p.1 ne).trans e,n,ne,nf,d⟩
 ·have hfn:X.fn x=true:=by
   rcases hf with z |z
   ·exact z
   ·rw[z]at hk;cases hk
  obtain⟨c,hc⟩:=I.ok.has x (.inl hk)
  obtain⟨w',z⟩:=I.cell x c hc
  refine wpAny_storeName_cell I.ok.kind hk hc z (fun h' hc' hs=>?_)
  obtain⟨oc,hoc,hocd⟩:=id z
  refine h {s with heap:=h'} ⟨I.ok,I.os,I.bare,⟨fun b o e n hb hx=>?_,fun b o e n hb hx=>?_,I.base.free,fun b o e hx=>?_,I.base.tups,I.base.frzs,I.base.tbls⟩,⟨m,hn.sameBut hs (Ne.symm (cne x c hc)),fun j y v' e1 e2 e3=>?_⟩,fun y c' e=>?_,I.free,I.freeC,fun p hp=>?_,tracked ⟨oc,hoc,I.freeC x c hc⟩ hs,by simpa using I.len⟩ ⟨c,hs,.inr hc⟩
  ·exact(hs.2 b (Nat.ne_of_lt (Nat.lt_of_lt_of_le (Heap.lt_size e) (I.ok.cab x c hfn hc)))).trans (I.base.keep b o e n hb hx)
  ·obtain⟨sl,e1⟩:=I.base.slot b o e n hb hx
   exact⟨sl,(hs.2 b (Nat.ne_of_lt (Nat.lt_of_lt_of_le (Heap.lt_size e) (I.ok.cab x c hfn hc)))).trans e1⟩
  ·obtain⟨o',e1⟩:=I.base.there b o e hx
   exact⟨o',(hs.2 b (Nat.ne_of_lt (Nat.lt_of_lt_of_le (Heap.lt_size e) (I.ok.cab x c hfn hc)))).trans e1⟩
  ·by_cases hj:j=i
   ·subst hj
    rw[hi]at e1;cases e1
    rw[List.getElem?_set_self hiσ]at e2
    cases e2
    exact⟨u,r,.inr ⟨.inl hk,c,hc,hc'⟩⟩
   ·rw[List.getElem?_set_ne (Ne.symm hj)]at e2
    obtain⟨u',r',q⟩:=hl j y v' e1 e2 e3
    refine⟨u',r',?_⟩
    rcases q with q |⟨k,c',e,z'⟩
    ·exact .inl q
    ·refine .inr ⟨k,c',e,z'.sameBut hs ?_⟩
     rintro rfl
     exact hj (mS hN e1 (I.ok.inj _ _ _ e hc▸hi))
  ·by_cases hcc:c'=c
   ·subst hcc;exact⟨_,hc'⟩
   ·obtain⟨w2,z2⟩:=I.cell y c' e
    exact⟨w2,z2.sameBut hs hcc⟩
  ·obtain⟨e,n,ne,nf,d⟩:=I.pin p hp
   refine⟨(hs.2 p.1 ?_).trans e,n,ne,nf,d⟩
   intro q
   rw[q,hoc]at e
   have q':oc=p.2:=Option.some.inj e
   exact d w' (by rw[←q'];exact hocd)
theorem mT{M:Model}{A:Around}{E:Value→Shared→Prop}{i:Nat}{x:Str}{v:V}{u:Value}{Q:Unit→Shared→Prop}(I:Inv X pins σ H s)(hN:X.N.Nodup)(hi:X.N[i]? =some x)(hx:C8 X.env.scope x)(r:RelV v u)
  (h:∀s',Inv X pins (σ.set i (some v)) H s'→Q () s') (hf:X.fn x=true∨X.env.scope.names.lookup x=some .local:=by first |exact .inl rfl |exact .inr rfl |assumption):wpAny M A (storeName X.env x u) Q E s:=
 uN I hN hi hx r (fun s' I' _=>h s' I') hf
theorem Inv.call'{s':Shared}{ch:List Addr}(I:Inv X pins σ H s)(ho:s'.os=s.os)(u:Un (kP X.stack) ch H H' s.heap s'.heap)(hok:HOk X.prog X.w H' s'.heap)(hg:AllBare s'.gens)
  (hch:∀b∈ch,(b∈X.ex∨X.s₀.heap.objs.size≤b)∧b≠X.env.locals∧(∀x c,X.env.cells.lookup x=some c→c≠b)∧∀p∈X.pn++pins,p.1≠b):Inv X pins σ H' s':=by
 obtain⟨h',g',d',t',o'⟩:=s'
 have e:o'=s.os:=ho
 subst e
 exact I.call (g':=g') (t':=t') (d':=d') u hok hg hch
end
abbrev XK:=Value→Option Addr→Hp→Prop
abbrev St:=List (Option V)
abbrev VK:=V→Hp→Prop
abbrev TE:=St→Hp→VK→Prop
abbrev TT:=St→Hp→(Bool→Hp→Prop)→Prop
abbrev TA:=St→Hp→(List V→Hp→Prop)→Prop
structure Ends where
 nx:St→Hp→Prop
 rt:VK
 bk:St→Hp→Prop:=fun _ _=>False
 ct:St→Hp→Prop:=fun _ _=>False
abbrev TS:=Ends→St→Hp→Prop
def EP(X:Cx)(pins:List (Addr×Obj))(σ:St)(Q:VK)(u:Value)(s':Shared):Prop:=∃v H',Inv X pins σ H' s'∧RelV v u∧Q v H'
def TP(X:Cx)(pins:List (Addr×Obj))(σ:St)(Q:Bool→Hp→Prop)(b:Bool)(s':Shared):Prop:=∃H',Inv X pins σ H' s'∧Q b H'
def AP(X:Cx)(pins:List (Addr×Obj))(σ:St)(Q:List V→Hp→Prop)(us:List Value)(s':Shared):Prop:=∃vs H',Inv X pins σ H' s'∧Vals vs us∧Q vs H'
def SP(X:Cx)(pins:List (Addr×Obj))(D:Ends)(f:Flow)(s':Shared):Prop:=
 match f with
 |.next=>∃σ' H',Inv X pins σ' H' s'∧D.nx σ' H'
 |.brk=>∃σ' H',Inv X pins σ' H' s'∧D.bk σ' H'
 |.cont=>∃σ' H',Inv X pins σ' H' s'∧D.ct σ' H'
 |.ret u=>∃v σ' H',Inv X pins σ' H' s'∧RelV v u∧D.rt v H'
def PE(X:Cx)(e:Expr)(t:TE):Prop:=
 ∀(pins:List (Addr×Obj)) (s:Shared) (σ:St) (H:Hp) (Q:VK),Inv X pins σ H s→t σ H Q→wpAny (model X.prog X.w) X.A (eval e X.env) (EP X pins σ Q) X.xe s
def PT(X:Cx)(e:Expr)(t:TT):Prop:=
 ∀(pins:List (Addr×Obj)) (s:Shared) (σ:St) (H:Hp) (Q:Bool→Hp→Prop),Inv X pins σ H s→t σ H Q→wpAny (model X.prog X.w) X.A (isTrue e X.env (eval e X.env)) (TP X pins σ Q) X.xe s
def PW(X:Cx)(e:Expr)(t:TT):Prop:=
 ∀(whole:Sem Value) (pins:List (Addr×Obj)) (s:Shared) (σ:St) (H:Hp) (Q:Bool→Hp→Prop),Inv X pins σ H s→t σ H Q→wpAny (model X.prog X.w) X.A (isTrue e X.env whole) (TP X pins σ Q) X.xe s
theorem PW.pt{X:Cx}{e:Expr}{t:TT}(h:PW X e t):PT X e t:=h _
def PA(X:Cx)(es:List Expr)(t:TA):Prop:=
 ∀(pos:Pos) (pins:List (Addr×Obj)) (s:Shared) (σ:St) (H:Hp) (Q:List V→Hp→Prop),Inv X pins σ H s→t σ H Q→wpAny (model X.prog X.w) X.A (spliced (backTo pos (starEach es X.env))) (AP X pins σ Q) X.xe s
def PS(X:Cx)(st:Stmt)(t:TS):Prop:=
 ∀(pins:List (Addr×Obj)) (s:Shared) (σ:St) (H:Hp) (D:Ends),Inv X pins σ H s→t D σ H→wpAny (model X.prog X.w) X.A (exec st X.env) (SP X pins D) X.xe s
def PSs(X:Cx)(st:List Stmt)(t:TS):Prop:=
 ∀(pins:List (Addr×Obj)) (s:Shared) (σ:St) (H:Hp) (D:Ends),Inv X pins σ H s→t D σ H→wpAny (model X.prog X.w) X.A (execs st X.env) (SP X pins D) X.xe s
theorem dF{α:Type}{t:Sem α}{Q Q':α→Shared→Prop}{M:Model}{A:Around}{E:Value→Shared→Prop}{s:Shared}(h:wpAny M A t Q E s)(hQ:∀a s,Q a s→Q' a s):wpAny M A t Q' E s:=wpAny_mono h hQ fun _ _ x=>x
end L2
namespace L2
open PySem PySem.Spec PyProof.Rows
section
variable {X:Cx}
def fc(i:Nat):TE:=fun σ H Q=>∃v,σ[i]? =some (some v)∧Q v H
def tC(v:V):TE:=fun _ H Q=>Q v H
theorem lL {i:Nat} {x:Str} {pos:Pos} (hN:X.N[i]? =some x) (hv:AG X.env.scope x) (hd:(x == ("__debug__":Str))=false:=by decide) (hcd:(x == ("__classdict__":Str))=false:=by decide):PE X (.Name x pos) (fc i):=by
 intro pins s σ H Q I h
 obtain⟨v,e,h⟩:=h
 obtain⟨m,hn,hl⟩:=I.loc
 obtain⟨u,r,l⟩:=hl i x v hN e hv
 have fin:EP X pins σ Q u s:=⟨v,H,I,r,h⟩
 rcases l with⟨hk,hm⟩ |⟨hk,c,hc,hcell⟩
 ·exact wpAny_Name (wpAny_loadName_local I.ok.kind hk hn hm fin) hd
 ·rcases hk with hk |hk
  ·exact wpAny_Name (wpAny_loadName_cell I.ok.kind hk hc hcell fin) hd
  ·exact wpAny_Name (wpAny_loadName_free I.ok.kind hk hc hcell fin hcd) hd
theorem rV{i j pos}:PE X (.Constant (.int i) j pos) (tC (.int i)):=fun _ _ _ H _ I h=>wpAny_Constant_int ⟨.int i,H,I.tok _,⟨_,rfl⟩,h⟩
theorem Dd{b j pos}:PE X (.Constant (.bool b) j pos) (tC (.bl b)):=fun _ _ _ H _ I h=>Constant_bool ⟨.bl b,H,I,rfl,h⟩
theorem Bs{j pos}:PE X (.Constant .none j pos) (tC .non):=fun _ _ _ H _ I h=>Constant_none ⟨.non,H,I,rfl,h⟩
theorem rW{x j pos}:PE X (.Constant (.str x) j pos) (tC (.str x)):=fun _ _ _ H _ I h=>Calls.Constant_str ⟨.str x,H,I.tok _,⟨_,rfl⟩,h⟩
def Gl(X:Cx)(x:Str):Prop:=X.env.kindOf x=some .globalImplicit
theorem iq{E:Value→Shared→Prop}{pins:List (Addr×Obj)}{s:Shared}{σ:St}{H:Hp}{x:Str}{u:Value}{pos:Pos}{Q:Value→Shared→Prop}(I:Inv X pins σ H s)(hg:Gl X x)(hm:X.mg x=some u)(h:Q u s)
  (hd:(x == ("__debug__":Str))=false:=by decide):wpAny (model X.prog X.w) X.A (eval (.Name x pos) X.env) Q E s:=
 Calls.Name_function_global I.ok.kind hg (Calls.loadGlobal_global (by rw[I.ok.glob];exact I.mod.glob.keeps I.bk) hm h) hd
theorem lN{E:Value→Shared→Prop}{pins:List (Addr×Obj)}{s:Shared}{σ:St}{H:Hp}{x:Str}{u:Value}{pos:Pos}{Q:Value→Shared→Prop}(I:Inv X pins σ H s)(hg:Gl X x)(hm:X.mg x=none)(hv:bootBuiltins x=some u)(h:Q u s)
  (hn:x≠"__name__":=by decide) (hd:(x == ("__debug__":Str))=false:=by decide):wpAny (model X.prog X.w) X.A (eval (.Name x pos) X.env) Q E s:=by
 obtain⟨mb,h1,h2⟩:=I.mod.blt
 exact Calls.Name_function_global I.ok.kind hg (Calls.loadGlobal_builtin (by rw[I.ok.glob];exact I.mod.glob.keeps I.bk) hm (by rw[I.ok.blt];exact h1.keeps I.bk) ((h2 x hn).trans hv) h) hd
theorem tM {x:Str} {v:V} {u:Value} {pos:Pos} (hg:Gl X x) (hm:X.mg x=some u) (r:RelV v u) (hd:(x == ("__debug__":Str))=false:=by decide):PE X (.Name x pos) (tC v):=
 fun _ _ _ H _ I h=>iq I hg hm ⟨v,H,I,r,h⟩ hd
theorem tN {x:Str} {v:V} {u:Value} {pos:Pos} (hg:Gl X x) (hm:X.mg x=none) (hv:bootBuiltins x=some u) (r:RelV v u) (hn:x≠"__name__":=by decide) (hd:(x == ("__debug__":Str))=false:=by decide):PE X (.Name x pos) (tC v):=
 fun _ _ _ H _ I h=>lN I hg hm hv ⟨v,H,I,r,h⟩ hn hd
variable {a b:Expr} {ta tb:TE} {pos:Pos}
variable {tA tB':TT} {dW:List Expr}
def Fa(t u:TT):TT:=fun σ H Q=>t σ H fun c H1=>if c=true then u σ H1 Q else Q false H1
def Gy(t u:TT):TT:=fun σ H Q=>t σ H fun c H1=>if c=true then Q true H1 else u σ H1 Q
def Fb(t:TT):TT:=fun σ H Q=>t σ H fun c H1=>Q (!c) H1
theorem yL(ha:PT X a tA):PW X (.BoolOp .And [a] pos) tA:=by
 intro wh pins s σ H Q I h
 refine isTrue_and (dF (ha pins s σ H Q I h) fun c s1 e=>?_)
 cases c with
 |true=>exact isTrue_and_nil e
 |false=>exact e
theorem Bt(ha:PT X a tA):PW X (.BoolOp .Or [a] pos) tA:=by
 intro wh pins s σ H Q I h
 refine isTrue_or (dF (ha pins s σ H Q I h) fun c s1 e=>?_)
 cases c with
 |false=>exact isTrue_or_nil e
 |true=>exact e
theorem Bu(ha:PT X a tA)(hb:PW X (.BoolOp .And (b::dW) pos) tB'):PW X (.BoolOp .And (a::b::dW) pos) (Fa tA tB'):=by
 intro wh pins s σ H Q I h
 refine isTrue_and (dF (ha pins s σ H _ I h) fun c s1 ⟨H1,I1,q1⟩=>?_)
 cases c with
 |true=>exact hb wh pins s1 σ H1 Q I1 q1
 |false=>exact⟨H1,I1,q1⟩
theorem De(ha:PT X a tA)(hb:PW X (.BoolOp .Or (b::dW) pos) tB'):PW X (.BoolOp .Or (a::b::dW) pos) (Gy tA tB'):=by
 intro wh pins s σ H Q I h
 refine isTrue_or (dF (ha pins s σ H _ I h) fun c s1 ⟨H1,I1,q1⟩=>?_)
 cases c with
 |true=>exact⟨H1,I1,q1⟩
 |false=>exact hb wh pins s1 σ H1 Q I1 q1
theorem Bv(ha:PT X a tA):PT X (.UnaryOp .Not a pos) (Fb tA):=by
 intro pins s σ H Q I h
 exact isTrue_not (ha pins s σ H (fun c H1=>Q (!c) H1) I h)
def Df(ta tb:TE):TE:=fun σ H Q=>ta σ H fun x H1=>∃c,x=.bl c∧if c=true then tb σ H1 Q else Q (.bl false) H1
def Fc(ta tb:TE):TE:=fun σ H Q=>ta σ H fun x H1=>∃c,x=.bl c∧if c=true then Q (.bl true) H1 else tb σ H1 Q
theorem Bw{op}{t:TE}(h:PE X a t):PE X (.BoolOp op [a] pos) t:=fun pins s σ H Q I hw=>BoolOp_one (h pins s σ H Q I hw)
theorem Bx(ha:PE X a ta)(hb:PE X (.BoolOp .And (b::dW) pos) tb):PE X (.BoolOp .And (a::b::dW) pos) (Df ta tb):=by
 intro pins s σ H Q I h
 refine BoolOp_and (dF (ha pins s σ H _ I h) fun v s1 ⟨x,H1,I1,r1,q1⟩=>?_)
 obtain⟨c,rfl,q1⟩:=q1
 cases r1
 refine wpAny_truthy_bool ?_
 cases c with
 |true=>exact hb pins s1 σ H1 Q I1 q1
 |false=>exact⟨.bl false,H1,I1,rfl,q1⟩
theorem Dh(ha:PE X a ta)(hb:PE X (.BoolOp .Or (b::dW) pos) tb):PE X (.BoolOp .Or (a::b::dW) pos) (Fc ta tb):=by
 intro pins s σ H Q I h
 refine BoolOp_or (dF (ha pins s σ H _ I h) fun v s1 ⟨x,H1,I1,r1,q1⟩=>?_)
 obtain⟨c,rfl,q1⟩:=q1
 cases r1
 refine wpAny_truthy_bool ?_
 cases c with
 |false=>exact hb pins s1 σ H1 Q I1 q1
 |true=>exact⟨.bl true,H1,I1,rfl,q1⟩
def Gz(t:TT)(ta tb:TE):TE:=fun σ H Q=>t σ H fun c H1=>if c=true then ta σ H1 Q else tb σ H1 Q
theorem vZ{c:Expr}(hc:PT X c tA)(ha:PE X a ta)(hb:PE X b tb):PE X (.IfExp c a b pos) (Gz tA ta tb):=by
 intro pins s σ H Q I h
 refine wpAny_IfExp (dF (hc pins s σ H _ I h) fun d s1 ⟨H1,I1,q1⟩=>?_)
 cases d with
 |true=>exact ha pins s1 σ H1 Q I1 q1
 |false=>exact hb pins s1 σ H1 Q I1 q1
end
end L2
namespace L2
open PySem PySem.Spec PyProof.Rows
def SqL(K:PySem.W.Frag)(H:Hp)(a:Addr)(xs:List V):Prop:=
 Rd H a (.lst xs)∨
  ∃(o:Obj) (its:Array Value) (n:Nat),K.lookup a=some o∧o.cls=.type "list"∧o.dict=none∧o.data=.seq its n∧its.size≤sizeLine∧Vals xs its.toList
def SqT(K:PySem.W.Frag)(H:Hp)(a:Addr)(xs:List V):Prop:=
 Rd H a (.tup xs)∨
  ∃(o:Obj) (its:Array Value) (n:Nat),K.lookup a=some o∧o.cls=.type "tuple"∧o.data=.seq its n∧its.size≤sizeLine∧Vals xs its.toList
def Fd:Value→Option V
 |.none=>some .non
 |.bool b=>some (.bl b)
 |.int i _=>some (.int i)
 |.str x _=>some (.str x)
 |.bytes b _=>some (.byt b)
 |.float b _=>some (.flt b)
 |.ref a=>some (.ref a)
 |.type n=>some (.ty n)
 |_=>none
theorem RelV.abs{x:V}{u:Value}(r:RelV x u):Fd u=some x:=by
 cases x with
 |non=>cases r;rfl
 |bl _=>cases r;rfl
 |int _=>obtain⟨t,rfl⟩:=r;rfl
 |str _=>obtain⟨t,rfl⟩:=r;rfl
 |byt _=>obtain⟨t,rfl⟩:=r;rfl
 |flt _=>obtain⟨t,rfl⟩:=r;rfl
 |ref _=>cases r;rfl
 |ty _=>cases r;rfl
theorem RelV.inj{x y:V}{u:Value}(r:RelV x u)(q:RelV y u):x=y:=Option.some.inj (r.abs.symm.trans q.abs)
theorem Vals.inj{xs ys:List V}{us:List Value}(h:Vals xs us)(k:Vals ys us):xs=ys:=by
 induction h generalizing ys with
 |nil=>cases k;rfl
 |cons r _ ih=>cases k with |cons r' t'=>rw[r.inj r',ih t']
section
variable {X:Cx} {pins:List (Addr×Obj)} {σ:St} {H:Hp} {s:Shared} {a:Addr} {xs ys:List V}
theorem SqL.of{K:PySem.W.Frag}(h:H a=some (.lst xs)):SqL K H a xs:=.inl (.inl h)
theorem SqT.of{K:PySem.W.Frag}(h:H a=some (.tup xs)):SqT K H a xs:=.inl (.inl h)
theorem Inv.list(I:Inv X pins σ H s)(h:SqL X.K H a xs):∃its:List Value,Vals xs its∧PlainL s.heap a its.toArray∧xs.length≤sizeLine:=by
 rcases h with h |⟨o,its,n,hk,hc,hd,hs,hz,r⟩
 ·obtain⟨z,its,n,r,e⟩:=h.ok I.hok
  exact⟨its,r,⟨_,n,e,rfl,rfl,rfl⟩,z⟩
 ·refine⟨its.toList,r,⟨o,n,I.kIn a o hk,hc,hd,by simpa using hs⟩,?_⟩
  have e:=r.length
  simp only[Array.length_toList]at e
  omega
theorem Inv.tuple(I:Inv X pins σ H s)(h:SqT X.K H a xs):∃its:List Value,Vals xs its∧IsTup s.heap a its.toArray∧xs.length≤sizeLine:=by
 rcases h with h |⟨o,its,n,hk,hc,hs,hz,r⟩
 ·obtain⟨z,its,r,p⟩:=h.ok I.hok
  exact⟨its,r,p,z⟩
 ·refine⟨its.toList,r,⟨o,I.kIn a o hk,hc,n,by simpa using hs⟩,?_⟩
  have e:=r.length
  simp only[Array.length_toList]at e
  omega
theorem Inv.list_inj(I:Inv X pins σ H s)(h:SqL X.K H a xs)(h':SqL X.K H a ys):xs=ys:=by
 obtain⟨its,r,⟨o,n,e,_,_,d⟩,_⟩:=I.list h
 obtain⟨its',r',⟨o',n',e',_,_,d'⟩,_⟩:=I.list h'
 rw[e]at e';cases e'
 rw[d]at d'
 injection d' with d1 _
 have:its=its':=by simpa using congrArg Array.toList d1
 subst this
 exact r.inj r'
theorem Inv.tuple_inj(I:Inv X pins σ H s)(h:SqT X.K H a xs)(h':SqT X.K H a ys):xs=ys:=by
 obtain⟨its,r,⟨o,e,_,n,d⟩,_⟩:=I.tuple h
 obtain⟨its',r',⟨o',e',_,n',d'⟩,_⟩:=I.tuple h'
 rw[e]at e';cases e'
 rw[d]at d'
 injection d' with d1 _
 have:its=its':=by simpa using congrArg Array.toList d1
 subst this
 exact r.inj r'
end
abbrev Cx.wish(X:Cx)(E:Value→Shared→Prop):Cx:={X with xe:=E}
abbrev Cx.nox(X:Cx):Cx:=X.wish fun _ _=>False
theorem Cx.Ok.wish{X:Cx}(ok:X.Ok)(E:Value→Shared→Prop):(X.wish E).Ok:=
 ⟨ok.mod,ok.kind,ok.glob,ok.blt,ok.above,ok.inj,ok.has,ok.cab,ok.hd,ok.frames,ok.stk,ok.exf,ok.bs,ok.bsz,ok.noex,ok.exfs,ok.funs,ok.frf,ok.tab⟩
theorem Cx.Ok.unwish{X:Cx}{E:Value→Shared→Prop}(ok:(X.wish E).Ok):X.Ok:=
 ⟨ok.mod,ok.kind,ok.glob,ok.blt,ok.above,ok.inj,ok.has,ok.cab,ok.hd,ok.frames,ok.stk,ok.exf,ok.bs,ok.bsz,ok.noex,ok.exfs,ok.funs,ok.frf,ok.tab⟩
section
variable {X:Cx} {pins:List (Addr×Obj)} {σ:St} {H:Hp} {s:Shared} {E:Value→Shared→Prop}
theorem Inv.wish(I:Inv X pins σ H s)(E:Value→Shared→Prop):Inv (X.wish E) pins σ H s:=⟨I.ok.wish E,I.os,I.bare,I.base,I.loc,I.cell,I.free,I.freeC,I.pin,I.hok,I.len⟩
theorem Inv.unwish(I:Inv (X.wish E) pins σ H s):Inv X pins σ H s:=⟨I.ok.unwish,I.os,I.bare,I.base,I.loc,I.cell,I.free,I.freeC,I.pin,I.hok,I.len⟩
theorem SP.unwish{D:Ends}{f:Flow}{s':Shared}(h:SP (X.wish E) pins D f s'):SP X pins D f s':=by
 cases f with
 |next=>obtain⟨σ',H',I,q⟩:=h;exact⟨σ',H',I.unwish,q⟩
 |brk=>obtain⟨σ',H',I,q⟩:=h;exact⟨σ',H',I.unwish,q⟩
 |cont=>obtain⟨σ',H',I,q⟩:=h;exact⟨σ',H',I.unwish,q⟩
 |ret u=>obtain⟨v,σ',H',I,r,q⟩:=h;exact⟨v,σ',H',I.unwish,r,q⟩
theorem PE.nox{e:Expr}{t:TE}(h:PE X.nox e t):PE X e t:=fun pins s σ H Q I hw=>
 wpAny_mono (h pins s σ H Q (I.wish _) hw) (fun _ _ ⟨v,H',I',r,q⟩=>⟨v,H',I'.unwish,r,q⟩) fun _ _ z=>False.elim z
theorem PT.nox{e:Expr}{t:TT}(h:PT X.nox e t):PT X e t:=fun pins s σ H Q I hw=>
 wpAny_mono (h pins s σ H Q (I.wish _) hw) (fun _ _ ⟨H',I',q⟩=>⟨H',I'.unwish,q⟩) fun _ _ z=>False.elim z
theorem PSs.nox{st:List Stmt}{t:TS}(h:PSs X.nox st t):PSs X st t:=fun pins s σ H D I hw=>
 wpAny_mono (h pins s σ H D (I.wish _) hw) (fun _ _ q=>q.unwish) fun _ _ z=>False.elim z
end
section
variable {X:Cx} {st:Stmt} {dW:List Stmt} {t u:TS} {e:Expr} {te:TE} {pos:Pos}
def Di:TS:=fun D σ H=>D.nx σ H
def pB(t u:TS):TS:=fun D σ H=>t {D with nx:=u D} σ H
theorem yM:PSs X [] Di:=fun _ _ σ H _ I h=>wpAny_execs_nil ⟨σ,H,I,h⟩
theorem fD(h1:PS X st t)(h2:PSs X dW u):PSs X (st::dW) (pB t u):=by
 intro pins s σ H D I h
 refine wpAny_execs_cons (dF (h1 pins s σ H {D with nx:=u D} I h) fun f s1 q=>?_)
 cases f with
 |next=>
  obtain⟨σ',H',I',q⟩:=q
  exact h2 pins s1 σ' H' D I' q
 |ret v=>exact q
 |brk=>exact q
 |cont=>exact q
theorem kQ(h1:PS X st t):PSs X [st] t:=by
 intro pins s σ H D I h
 refine wpAny_execs_cons (dF (h1 pins s σ H D I h) fun f s1 q=>?_)
 cases f with
 |next=>exact wpAny_execs_nil q
 |ret v=>exact q
 |brk=>exact q
 |cont=>exact q
theorem Inv.quiet{pins:List (Addr×Obj)}{σ:St}{H:Hp}{s:Shared}(I:Inv X pins σ H s):interactive X.env=false:=by simp[interactive,I.ok.kind]
def Dj(te:TE):TS:=fun D σ H=>te σ H fun _ H1=>D.nx σ H1
theorem yN(he:PE X e te)(hs:swapsWith e none pos.line X.env=pure false:=by rfl):PS X (.Expr e pos) (Dj te):=by
 intro pins s σ H D I h
 exact wpAny_Expr_any (dF (he pins s σ H _ I h) fun v s1 ⟨x,H1,I1,r1,q1⟩=>⟨σ,H1,I1,q1⟩) I.quiet hs
def Fe(te:TE):TS:=fun D σ H=>te σ H D.rt
theorem By(he:PE X e te):PS X (.Return (some e) pos) (Fe te):=by
 intro pins s σ H D I h
 exact wpAny_Return_some (dF (he pins s σ H _ I h) fun v s1 ⟨x,H1,I1,r1,q1⟩=>⟨x,σ,H1,I1,r1,q1⟩)
def Ff(c:TT)(t u:TS):TS:=fun D σ H=>c σ H fun b H1=>if b=true then t D σ H1 else u D σ H1
theorem Dk{c:Expr}{a b:List Stmt}{tc:TT}(hc:PT X c tc)(ha:PSs X a t)(hb:PSs X b u):PS X (.If c a b pos) (Ff tc t u):=by
 intro pins s σ H D I h
 refine wpAny_If (dF (hc pins s σ H _ I h) fun d s1 ⟨H1,I1,q1⟩=>?_)
 cases d with
 |true=>exact ha pins s1 σ H1 D I1 q1
 |false=>exact hb pins s1 σ H1 D I1 q1
def Bz:TS:=fun _ _ _=>False
theorem v4:PS X st Bz:=fun _ _ _ _ _ _ h=>h.elim
end
abbrev TG:=V→St→Hp→(St→Hp→Prop)→Prop
abbrev yO:=List V→St→Hp→(St→Hp→Prop)→Prop
def PG(X:Cx)(target:Expr)(t:TG):Prop:=
 ∀(pins:List (Addr×Obj)) (s:Shared) (σ:St) (H:Hp) (v:V) (u:Value) (Q:St→Hp→Prop),Inv X pins σ H s→RelV v u→t v σ H Q→
  wpAny (model X.prog X.w) X.A (assign target X.env u) (fun _ s'=>∃σ' H',Inv X pins σ' H' s'∧Q σ' H') X.xe s
def BA(X:Cx)(ts:List Expr)(t:yO):Prop:=
 ∀(pins:List (Addr×Obj)) (s:Shared) (σ:St) (H:Hp) (vs:List V) (us:List Value) (Q:St→Hp→Prop),Inv X pins σ H s→Vals vs us→t vs σ H Q→
  wpAny (model X.prog X.w) X.A (assignInOrder ((assignEach ts X.env).map (·.2)) us) (fun _ s'=>∃σ' H',Inv X pins σ' H' s'∧Q σ' H') X.xe s
section
variable {X:Cx} {pos:Pos}
def qy(i:Nat):TG:=fun v σ H Q=>Q (σ.set i (some v)) H
theorem tO{i:Nat}{x:Str}(hN:X.N.Nodup)(hi:X.N[i]? =some x)(hx:C8 X.env.scope x)(hf:X.fn x=true∨X.env.scope.names.lookup x=some .local:=by first |exact .inl rfl |exact .inr rfl |assumption):PG X (.Name x pos) (qy i):=by
 intro pins s σ H v u Q I r h
 exact wpAny_assign_Name (mT I hN hi hx r (fun s' I'=>⟨_,H,I',h⟩) hf)
def Fg:yO:=fun vs σ H Q=>vs=[]∧Q σ H
def Dl(t:TG)(u:yO):yO:=fun vs σ H Q=>∃v r,vs=v::r∧t v σ H fun σ' H'=>u r σ' H' Q
theorem yP:BA X [] Fg:=by
 intro pins s σ H vs us Q I r h
 obtain⟨e,h⟩:=h
 subst e
 cases r
 exact assignInOrder_nil ⟨σ,H,I,h⟩
theorem v5{e:Expr}{es:List Expr}{t:TG}{u:yO}(h1:PG X e t)(h2:BA X es u)
  (hs:(assignEach (e::es) X.env).map (·.2)=assign e X.env::(assignEach es X.env).map (·.2):=by rfl):BA X (e::es) (Dl t u):=by
 intro pins s σ H vs us Q I r h
 obtain⟨v,vr,e1,h⟩:=h
 subst e1
 cases r with
 |cons r rr=>
  rw[hs]
  refine assignInOrder_cons (dF (h1 pins s σ H _ _ _ I r h) fun _ s1 ⟨σ1,H1,I1,q1⟩=>?_)
  exact h2 pins s1 σ1 H1 _ _ Q I1 rr q1
def Fh(K:PySem.W.Frag)(n:Nat)(t:yO):TG:=fun v σ H Q=>∃a xs,v=.ref a∧SqT K H a xs∧xs.length=n∧t xs σ H Q
theorem BB{es:List Expr}{k:Nat}{t:yO}{n:Nat}(hc:X.calm=true)(h:BA X es t)
  (hn:(assignEach es X.env).length=n:=by rfl) (hst:(assignEach es X.env).findIdx? (·.1)=none:=by rfl):PG X (.Tuple es k pos) (Fh X.K n t):=by
 intro pins s σ H v u Q I r hw
 obtain⟨a,xs,e1,hq,hl,hw⟩:=hw
 subst e1
 cases r
 obtain⟨its,rv,ht,hz⟩:=I.tuple hq
 refine assign_Tuple_tuple (I.ok.hd hc) ht (by simp[hn,←hl,rv.length]) hst fun h' hx=>?_
 have I1:Inv X pins σ H {s with heap:=h'}:=I.kept (t':=s.toks) fun b o e=>hx b o (Nat.ne_of_lt (Heap.lt_size e)) e
 exact h pins _ σ H xs _ Q I1 (by simpa using rv) hw
def Fi(te:TE)(g:TG):TS:=fun D σ H=>te σ H fun x H1=>g x σ H1 D.nx
theorem BC{i:Nat}{x:Str}{e:Expr}{te:TE}{pos':Pos}(hN:X.N.Nodup)(hi:X.N[i]? =some x)(hx:C8 X.env.scope x)(he:PE X e te)(hs:swapsWith e (some (.Name x pos')) pos.line X.env=pure false:=by rfl)(hf:X.fn x=true∨X.env.scope.names.lookup x=some .local:=by first |exact .inl rfl |exact .inr rfl |assumption):
  PS X (.Assign [.Name x pos'] e pos) (Fi te (qy i)):=by
 intro pins s σ H D I h
 refine wpAny_Assign_Name (dF (he pins s σ H _ I h) fun v s1 ⟨y,H1,I1,r1,q1⟩=>?_) hs
 exact mT I1 hN hi hx r1 (fun s2 I2=>⟨_,H1,I2,q1⟩) hf
end
section
variable {X:Cx} {pos:Pos}
def BD(c:TT)(tb:TS):TS:=fun D σ H=>∃W:Nat→St→Hp→Prop,(∃m,W m σ H)∧∀m σ H,W m σ H→
 c σ H fun b H1=>if b=true then ∃N:St→Hp→Prop,(∀σ' H',N σ' H'→∃m',m' < m∧W m' σ' H')∧tb {D with nx:=N,ct:=N,bk:=D.nx} σ H1 else D.nx σ H1
theorem qz{c:Expr}{body:List Stmt}{tc:TT}{tb:TS}(hp:PassesOwn (model X.prog X.w) X.A X.env X.xe)(hc:PT X c tc)(hb:PSs X body tb):PS X (.While c body [] pos) (BD tc tb):=by
 intro pins s σ H D I h
 obtain⟨W,⟨m0,w0⟩,turn⟩:=h
 refine wpAny_While (codeAny_whileLoop (fun n s'=>∃σ' H',Inv X pins σ' H' s'∧W n σ' H') ?_ m0 ⟨σ,H,I,w0⟩)
 rintro n s1 ⟨σ1,H1,I1,w1⟩
 refine wpAny_passesOwn hp (dF (hc pins s1 σ1 H1 _ I1 (turn n σ1 H1 w1)) fun b s2 ⟨H2,I2,q2⟩=>?_)
 cases b with
 |true=>
  obtain⟨N,hN,q2⟩:=q2
  rw[if_pos rfl]
  refine wpAny_passesOwn hp (dF (hb pins s2 σ1 H2 _ I2 q2) fun f s3 q3=>?_)
  cases f with
  |next=>
   obtain⟨σ3,H3,I3,n3⟩:=q3
   obtain⟨m',hm,w3⟩:=hN σ3 H3 n3
   exact⟨m',hm,σ3,H3,I3,w3⟩
  |cont=>
   obtain⟨σ3,H3,I3,n3⟩:=q3
   obtain⟨m',hm,w3⟩:=hN σ3 H3 n3
   exact⟨m',hm,σ3,H3,I3,w3⟩
  |brk=>exact q3
  |ret v=>exact q3
 |false=>
  rw[if_neg Bool.false_ne_true]
  exact wpAny_execs_nil ⟨σ1,H2,I2,q2⟩
end
structure It where
 go:Nat→Hp→Prop
 yld:Nat→Hp→V→Hp→Prop
 stop:Nat→Hp→Prop
def nT(X:Cx)(pins:List (Addr×Obj))(H:Hp)(b:Addr):Prop:=
 H b=none∧b≠X.env.locals∧b∉X.fs∧(b∈X.ex∨X.s₀.heap.objs.size≤b)∧(∀x c,X.env.cells.lookup x=some c→c≠b)∧∀p∈X.pn++pins,p.1≠b
theorem Inv.fpOk{X:Cx}{pins:List (Addr×Obj)}{σ:St}{H H':Hp}{s:Shared}{b:Addr}(I:Inv X pins σ H s)(hb:s.heap.objs.size≤b)(hn:H' b=none):nT X pins H' b:=by
 refine⟨hn,Nat.ne_of_gt (Nat.lt_of_lt_of_le I.lt hb),I.nofs hb,.inr (Nat.le_trans I.sz hb),fun x c e z=>?_,fun p hp z=>?_⟩
 ·obtain⟨v,q⟩:=I.cell x c e
  exact absurd (Nat.lt_of_lt_of_le q.lt (by rw[z];exact hb)) (Nat.lt_irrefl _)
 ·exact absurd (Nat.lt_of_lt_of_le (Heap.lt_size (I.pin p hp).1) (by rw[z];exact hb)) (Nat.lt_irrefl _)
structure Turn (P:Program) (w:World) (K:PySem.W.Frag) (tg:Expr) (J:It) (fp:List Addr) (it:Addr) (tn:Nat→Heap→Prop):Prop where
 mem:it∈fp
 obj:∀i h,tn i h→∀b∈fp,∃o,h.get? b=some o∧∀v,o.data≠ .cell v
 keep:∀i h h',tn i h→(∀b∈fp,∀o,h.get? b=some o→h'.get? b=some o)→tn i h'
 item:∀(X:Cx),X.prog=P→X.w=w→X.K=K→X.calm=true→∀(i:Nat) (pins:List (Addr×Obj)) (s:Shared) (σ:St) (H:Hp) (E:Value→Shared→Prop),Inv X pins σ H s→(∀b∈fp,nT X pins H b)→tn i s.heap→J.go i H→
  wpAny (model P w) X.A (pyNext (.ref it)) (fun r s1=>∃u,r=some u∧
   wpAny (model P w) X.A (letOwnedTupleGo tg (.ref it) u) (fun _ s2=>∃x H',Inv X pins σ H' s2∧RelV x u∧J.yld i H x H'∧tn (i+1) s2.heap∧∀b∈fp,H' b=none) E s1) E s
 done:∀(X:Cx),X.prog=P→X.w=w→X.K=K→X.calm=true→∀(i:Nat) (pins:List (Addr×Obj)) (s:Shared) (σ:St) (H:Hp) (E:Value→Shared→Prop),Inv X pins σ H s→(∀b∈fp,nT X pins H b)→tn i s.heap→J.stop i H→
  wpAny (model P w) X.A (pyNext (.ref it)) (fun r s1=>r=none∧Inv X pins σ H s1) E s
 self:∀(A:Around) (i:Nat) (s:Shared) (Q:Value→Shared→Prop) (E:Value→Shared→Prop),tn i s.heap→Q (.ref it) s→wpAny (model P w) A (pyIter (.ref it)) Q E s
abbrev TI:=St→Hp→(It→Hp→Prop)→Prop
def Gi(X:Cx)(pins:List (Addr×Obj))(σ:St)(tg:Expr)(R:It→Hp→Prop)(itv:Value)(s2:Shared):Prop:=
 ∃(it:Addr) (fp:List Addr) (tn:Nat→Heap→Prop) (J:It) (H':Hp),itv=.ref it∧Inv X pins σ H' s2∧Turn X.prog X.w X.K tg J fp it tn∧tn 0 s2.heap∧(∀b∈fp,nT X pins H' b)∧R J H'
def PI(X:Cx)(tg iter:Expr)(wi:TI):Prop:=
 ∀(pins:List (Addr×Obj)) (s:Shared) (σ:St) (H:Hp) (R:It→Hp→Prop),Inv X pins σ H s→wi σ H R→
  wpAny (model X.prog X.w) X.A (eval iter X.env) (fun v s1=>wpAny (model X.prog X.w) X.A (pyIter v) (Gi X pins σ tg R) X.xe s1) X.xe s
theorem qA{M:Model}{A:Around}{E:Value→Shared→Prop}{s:Shared}{tg:Expr}{it:Addr}{u:Value}{o:Obj}{n:String}{vs:Array Value}{Q:Unit→Shared→Prop}(ho:s.heap.get? it=some o)(hc:o.cls=.type n)(hd:o.data=.fields vs)
  (hn:["enumerate","zip","dict_itemiterator","dict_reverseitemiterator","odict_iterator","itertools.zip_longest","itertools.pairwise"].contains n=false) (hQ:Q () s):wpAny M A (letOwnedTupleGo tg (.ref it) u) Q E s:=by
 unfold letOwnedTupleGo
 cases tg <;> first
  |exact wpAny_pure hQ
  |(cases u <;> first
    |exact wpAny_pure hQ
    |(refine wpAny_bind (wpAny_load ho ?_)
      rw[hc,hd]
      show wpAny M A (if (["enumerate","zip","dict_itemiterator","dict_reverseitemiterator","odict_iterator","itertools.zip_longest","itertools.pairwise"].contains n&&vs[0]? == some (rawInt _))=true then _ else _) Q E s
      rw[if_neg (by intro h;rw[hn,Bool.false_and]at h;cases h)]
      exact wpAny_pure hQ))
def C9(K:PySem.W.Frag)(a:Addr):It:=
 ⟨fun i H=>∃xs x,SqL K H a xs∧xs[i]? =some x,fun i H x H'=>H'=H∧∀xs,SqL K H a xs→xs[i]? =some x,fun i H=>∃xs,SqL K H a xs∧xs.length≤i⟩
def Fj(K:PySem.W.Frag)(a:Addr):It:=
 ⟨fun i H=>∃xs x,SqT K H a xs∧xs[i]? =some x,fun i H x H'=>H'=H∧∀xs,SqT K H a xs→xs[i]? =some x,fun i H=>∃xs,SqT K H a xs∧xs.length≤i⟩
def EO(lo:Int)(n:Nat):It:=⟨fun i _=>i < n,fun i H x H'=>H'=H∧x=.int (lo+i),fun i _=>n≤i⟩
theorem uO{P:Program}{w:World}{K:PySem.W.Frag}{tg:Expr}(a it:Addr):Turn P w K tg (C9 K a) [it] it (fun i h=>h.IsListIter it a i) where
 mem:=by simp
 obj:=fun i h st b hb=>by
  have e:b=it:=by simpa using hb
  subst e
  obtain⟨o,e,c,d⟩:=st
  exact⟨o,e,fun v z=>by rw[d]at z;cases z⟩
 keep:=fun i h h' st k=>st.at fun o e=>k it (by simp) o e
 item:=by
  intro X hP hw hK hc i pins s σ H E I hf st hg
  subst hP hw hK
  obtain⟨xs,x,hq,hx⟩:=hg
  obtain⟨its,rv,p,hz⟩:=I.list hq
  obtain⟨u,hu,ru⟩:=rv.get hx
  obtain⟨f0,f1,f2,f3,f4,f5⟩:=hf it (by simp)
  refine wpAny_pyNext_list_item st p.isList (x:=u) (by simpa using hu) fun h' st' sb=>?_
  have I1:Inv X pins σ H {s with heap:=h'}:=I.turned (t':=s.toks) (fun b o hb e=>(sb.2 b hb).trans e) f0 f1 f3 f4 f5
  obtain⟨o,e,c,d⟩:=id st'
  exact⟨u,rfl,qA (s:={s with heap:=h'}) e c d (by decide) ⟨x,H,I1,ru,⟨rfl,fun ys hy=>by rw[I.list_inj hy hq];exact hx⟩,st',fun b hb=>(hf b hb).1⟩⟩
 done:=by
  intro X hP hw hK hc i pins s σ H E I hf st hg
  subst hP hw hK
  obtain⟨xs,hq,hx⟩:=hg
  obtain⟨its,rv,p,hz⟩:=I.list hq
  obtain⟨f0,f1,f2,f3,f4,f5⟩:=hf it (by simp)
  have hl:=rv.length
  exact wpAny_pyNext_list_end (I.ok.hd hc) st p.isList (by simp;omega) fun h' eb=>⟨rfl,I.turned (t':=s.toks) (fun b o hb e=>eb b o hb e) f0 f1 f3 f4 f5⟩
 self:=fun _ _ _ _ _ st h=>wpAny_pyIter_listiter st h
theorem rX{P:Program}{w:World}{K:PySem.W.Frag}{tg:Expr}(a it:Addr):Turn P w K tg (Fj K a) [it] it (fun i h=>h.IsTupleIter it a i) where
 mem:=by simp
 obj:=fun i h st b hb=>by
  have e:b=it:=by simpa using hb
  subst e
  obtain⟨o,e,c,d⟩:=st
  exact⟨o,e,fun v z=>by rw[d]at z;cases z⟩
 keep:=fun i h h' st k=>st.at fun o e=>k it (by simp) o e
 item:=by
  intro X hP hw hK hc i pins s σ H E I hf st hg
  subst hP hw hK
  obtain⟨xs,x,hq,hx⟩:=hg
  obtain⟨its,rv,p,hz⟩:=I.tuple hq
  obtain⟨u,hu,ru⟩:=rv.get hx
  obtain⟨f0,f1,f2,f3,f4,f5⟩:=hf it (by simp)
  refine wpAny_pyNext_tuple_item st (show s.heap.IsTuple a its.toArray from p) (x:=u) (by simpa using hu) fun h' st' sb=>?_
  have I1:Inv X pins σ H {s with heap:=h'}:=I.turned (t':=s.toks) (fun b o hb e=>(sb.2 b hb).trans e) f0 f1 f3 f4 f5
  obtain⟨o,e,c,d⟩:=id st'
  exact⟨u,rfl,qA (s:={s with heap:=h'}) e c d (by decide) ⟨x,H,I1,ru,⟨rfl,fun ys hy=>by rw[I.tuple_inj hy hq];exact hx⟩,st',fun b hb=>(hf b hb).1⟩⟩
 done:=by
  intro X hP hw hK hc i pins s σ H E I hf st hg
  subst hP hw hK
  obtain⟨xs,hq,hx⟩:=hg
  obtain⟨its,rv,p,hz⟩:=I.tuple hq
  obtain⟨f0,f1,f2,f3,f4,f5⟩:=hf it (by simp)
  have hl:=rv.length
  exact wpAny_pyNext_tuple_end (I.ok.hd hc) st (show s.heap.IsTuple a its.toArray from p) (by simp;omega) fun h' eb=>⟨rfl,I.turned (t':=s.toks) (fun b o hb e=>eb b o hb e) f0 f1 f3 f4 f5⟩
 self:=fun _ _ _ _ _ st h=>wpAny_pyIter_tupleiter st h
theorem rY{P:Program}{w:World}{K:PySem.W.Frag}{tg:Expr}(it:Addr)(lo:Int)(n:Nat):Turn P w K tg (EO lo n) [it] it (fun i h=>IsRangeIter h it (lo+(i:Nat)*1) ((n:Int) - (i:Nat)) 1) where
 mem:=by simp
 obj:=fun i h st b hb=>by
  have e:b=it:=by simpa using hb
  subst e
  exact⟨_,st,fun v z=>by
   have z':Data.fields _=Data.cell v:=z
   cases z'⟩
 keep:=fun i h h' st k=>k it (by simp) _ st
 item:=by
  intro X hP hw hK hc i pins s σ H E I hf st hg
  subst hP hw hK
  obtain⟨f0,f1,f2,f3,f4,f5⟩:=hf it (by simp)
  have W:=Walks.range (prog:=X.prog) (w:=X.w) (I.ok.hd hc) it lo 1 n
  refine W.item i s _ _ hg st fun v h' tk hv st' kk=>?_
  obtain⟨t,rfl⟩:=hv
  have I1:Inv X pins σ H {s with heap:=h',toks:=tk}:=I.turned (fun b o hb e=>kk b o (by simpa using hb) e) f0 f1 f3 f4 f5
  refine⟨_,rfl,qA (s:={s with heap:=h',toks:=tk}) (n:="range_iterator") st' rfl rfl (by decide) ⟨.int (lo+i),H,I1,⟨t,?_⟩,⟨rfl,rfl⟩,st',fun b hb=>(hf b hb).1⟩⟩
  rw[Int.mul_one]
 done:=by
  intro X hP hw hK hc i pins s σ H E I hf st hg
  subst hP hw hK
  obtain⟨f0,f1,f2,f3,f4,f5⟩:=hf it (by simp)
  exact wpAny_pyNext_range_end (I.ok.hd hc) st (by have:n≤i:=hg;omega) fun h' eb=>⟨rfl,I.turned (t':=s.toks) (fun b o hb e=>eb b o hb e) f0 f1 f3 f4 f5⟩
 self:=fun _ _ _ _ _ st h=>wpAny_pyIter_rangeiter st h
end L2
namespace L2
open PySem PySem.Spec PyProof.Rows
section
variable {X:Cx} {tg:Expr}
def AH(K:PySem.W.Frag)(tl:TE):TI:=fun σ H R=>tl σ H fun x H1=>∃a,x=.ref a∧(∃xs,SqL K H1 a xs)∧R (C9 K a) H1
def Fm(K:PySem.W.Frag)(tl:TE):TI:=fun σ H R=>tl σ H fun x H1=>∃a,x=.ref a∧(∃xs,SqT K H1 a xs)∧R (Fj K a) H1
theorem pD{l:Expr}{tl:TE}(hl:PE X l tl):PI X tg l (AH X.K tl):=by
 intro pins s σ H R I h
 refine dF (hl pins s σ H _ I h) fun v s1 ⟨x,H1,I1,r1,q1⟩=>?_
 obtain⟨a,e,⟨xs,hq⟩,q⟩:=q1
 subst e
 cases r1
 obtain⟨its,rv,p,hz⟩:=I1.list hq
 refine wpAny_pyIter_list p.isList ?_
 refine⟨s1.heap.objs.size,[s1.heap.objs.size],_,_,H1,rfl,I1.kept (t':=s1.toks) fun b o e=>Heap.get?_push_of_some _ e,uO a _,⟨_,Heap.get?_push_size _ rfl,rfl,rfl⟩,fun b hb=>?_,q⟩
 have e:b=s1.heap.objs.size:=by simpa using hb
 subst e
 exact I1.fpOk (Nat.le_refl _) (I1.hok.fresh (Nat.le_refl _))
theorem BE{l:Expr}{tl:TE}(hl:PE X l tl):PI X tg l (Fm X.K tl):=by
 intro pins s σ H R I h
 refine dF (hl pins s σ H _ I h) fun v s1 ⟨x,H1,I1,r1,q1⟩=>?_
 obtain⟨a,e,⟨xs,hq⟩,q⟩:=q1
 subst e
 cases r1
 obtain⟨its,rv,p,hz⟩:=I1.tuple hq
 refine wpAny_pyIter_tuple (show s1.heap.IsTuple a its.toArray from p) ?_
 refine⟨s1.heap.objs.size,[s1.heap.objs.size],_,_,H1,rfl,I1.kept (t':=s1.toks) fun b o e=>Heap.get?_push_of_some _ e,rX a _,⟨_,Heap.get?_push_size _ rfl,rfl,rfl⟩,fun b hb=>?_,q⟩
 have e:b=s1.heap.objs.size:=by simpa using hb
 subst e
 exact I1.fpOk (Nat.le_refl _) (I1.hok.fresh (Nat.le_refl _))
theorem v6{pins:List (Addr×Obj)}{σ:St}{H:Hp}{s:Shared}{R:It→Hp→Prop}{E:Value→Shared→Prop}{lo hi:Int}{t u v:Tok}{tk:Nat}(I:Inv X pins σ H s)(h1: -(2 ^ 62)≤lo)(h2:lo < 2 ^ 62)(h3: -(2 ^ 62)≤hi)(h4:hi < 2 ^ 62)
  (q:R (EO lo (hi - lo).toNat) H):wpAny (model X.prog X.w) X.A (pyIter (.ref s.heap.objs.size)) (Gi X pins σ tg R) E {s with heap:=s.heap.push {cls:=.type "range",data:=.fields #[.int lo t,.int hi u,.int 1 v]},toks:=tk}:=by
 refine wpAny_pyIter_range (IsRange.new ..) (small_one h1 h2 h3 h4) ?_
 have I1:Inv X pins σ H {s with heap:=s.heap.push {cls:=.type "range",data:=.fields #[.int lo t,.int hi u,.int 1 v]},toks:=tk}:=I.kept fun b o e=>Heap.get?_push_of_some _ e
 refine⟨(s.heap.push {cls:=.type "range",data:=.fields #[.int lo t,.int hi u,.int 1 v]}).objs.size,[(s.heap.push {cls:=.type "range",data:=.fields #[.int lo t,.int hi u,.int 1 v]}).objs.size],_,_,H,rfl,
  I1.kept (t':=tk) fun b o e=>Heap.get?_push_of_some _ e,rY _ lo (hi - lo).toNat,?_,fun b hb=>?_,q⟩
 ·have e1:lo+((0:Nat):Int)*1=lo:=by simp
  have e2:(((hi - lo).toNat:Nat):Int) - ((0:Nat):Int)=Builtin.Range.rangeSize lo hi 1:=by rw[rangeSize_one];split <;> omega
  show IsRangeIter _ _ (lo+((0:Nat):Int)*1) ((((hi - lo).toNat:Nat):Int) - ((0:Nat):Int)) 1
  rw[e1,e2]
  exact Heap.get?_push_size _ rfl
 ·have e:b=(s.heap.push {cls:=.type "range",data:=.fields #[.int lo t,.int hi u,.int 1 v]}).objs.size:=by simpa using hb
  subst e
  exact I1.fpOk (Nat.le_refl _) (I1.hok.fresh (Nat.le_refl _))
def Dm(ta:TA):TI:=fun σ H R=>ta σ H fun vs H1=>∃j:Int,vs=[.int j]∧ -(2 ^ 62)≤j∧j < 2 ^ 62∧R (EO 0 j.toNat) H1
theorem uP {a:Expr} {ta:TA} {p pos:Pos} (hg:Gl X "range") (hm:X.mg "range"=none) (ha:PA X [a] ta) (hs:starEach [a] X.env=[(false,eval a X.env)]:=by rfl):PI X tg (.Call (.Name "range" p) [a] [] pos) (Dm ta):=by
 intro pins s σ H R I h
 refine Call_ (lN I hg hm boot_range (PyProof.Rows.callWith_type1 (dF (ha pos pins s σ H _ I h) fun us s1 ⟨vs,H1,I1,r1,q1⟩=>?_) hs rfl))
 obtain⟨j,e,q1,q2,q⟩:=q1
 subst e
 cases r1 with
 |cons r rr=>
  cases rr
  obtain⟨t,rfl⟩:=r
  exact call_range_1 (v6 I1 (by omega) (by omega) q1 q2 (by simpa using q))
def Fn(wi:TI)(g:TG)(tb:TS):TS:=fun D σ H=>wi σ H fun J H1=>∃W:Nat→Nat→St→Hp→Prop,(∃m,W 0 m σ H1)∧∀i m σ H,W i m σ H→
 (J.stop i H∧D.nx σ H)∨(J.go i H∧∃N:St→Hp→Prop,(∀σ' H',N σ' H'→∃m',m' < m∧W (i+1) m' σ' H')∧∀x H',J.yld i H x H'→g x σ H' fun σ2 H2=>tb {D with nx:=N,ct:=N,bk:=D.nx} σ2 H2)
def mU(fp:List Addr)(h:Heap):List (Addr×Obj):=fp.filterMap fun b=>(h.get? b).map fun o=>(b,o)
theorem iV{fp:List Addr}{h:Heap}{b:Addr}{o:Obj}(hb:b∈fp)(e:h.get? b=some o):(b,o)∈mU fp h:=List.mem_filterMap.mpr ⟨b,hb,by rw[e];rfl⟩
theorem uQ{fp:List Addr}{h:Heap}{p:Addr×Obj}(hp:p∈mU fp h):p.1∈fp∧h.get? p.1=some p.2:=by
 obtain⟨b,hb,e⟩:=List.mem_filterMap.mp hp
 cases q:h.get? b with
 |none=>rw[q]at e;cases e
 |some o=>
  rw[q]at e
  have e':(b,o)=p:=Option.some.inj e
  subst e'
  exact⟨hb,q⟩
theorem Inv.pinned{pins:List (Addr×Obj)}{σ:St}{H:Hp}{s:Shared}{fp:List Addr}(I:Inv X pins σ H s)(hf:∀b∈fp,nT X pins H b)(ho:∀b∈fp,∃o,s.heap.get? b=some o∧∀v,o.data≠ .cell v):Inv X (pins++mU fp s.heap) σ H s:=
 I.pins_of fun p hp=>(List.mem_append.mp hp).elim (fun z=>I.pin p (List.mem_append_right _ z)) fun z=>by
  obtain⟨hb,e⟩:=uQ z
  obtain⟨f0,f1,f2,_⟩:=hf p.1 hb
  obtain⟨o,e',d⟩:=ho p.1 hb
  rw[e]at e';cases e'
  exact⟨e,f0,f1,f2,d⟩
theorem Inv.unpinned{pins pl:List (Addr×Obj)}{σ:St}{H:Hp}{s:Shared}(I:Inv X (pins++pl) σ H s):Inv X pins σ H s:=I.pins_of fun p hp=>I.pin p (List.mem_append_right _ (List.mem_append_left _ hp))
theorem BF{iter:Expr}{body:List Stmt}{wi:TI}{g:TG}{tb:TS}{pos:Pos}(hp:PassesOwn (model X.prog X.w) X.A X.env X.xe)(hc:X.calm=true)(hi:PI X tg iter wi)(hg:PG X tg g)(hb:PSs X body tb)
  (hs:∀x,foldedSetIterable iter X.env x=pure x:=by intro _;rfl):PS X (.For tg iter body [] pos) (Fn wi g tb):=by
 intro pins s σ H D I h
 refine wpAny_For (dF (hi pins s σ H _ I h) fun v s1 h1=>dF h1 fun itv s2 h2=>?_) hs
 obtain⟨it,fp,tn,J,H2,e,I2,T,st2,f2,W,⟨m0,w0⟩,turn⟩:=h2
 subst e
 -- what stays true of the iterator's objects through the loop
 have stat:∀{H':Hp},(∀b∈fp,H' b=none)→∀b∈fp,nT X pins H' b:=fun hn b hb=>⟨hn b hb,(f2 b hb).2⟩
 refine codeAny_forLoop_any (fun n s'=>∃i σ' H',Inv X pins σ' H' s'∧tn i s'.heap∧(∀b∈fp,H' b=none)∧W i n σ' H') ?_ m0 ⟨0,σ,H2,I2,st2,fun b hb=>(f2 b hb).1,w0⟩
 rintro n s3 ⟨i,σ3,H3,I3,st3,fr3,w3⟩
 rcases turn i n σ3 H3 w3 with⟨stop,qn⟩ |⟨go,N,hN,step⟩
 ·refine wpAny_passesOwn hp (dF (T.done X rfl rfl rfl hc i pins s3 σ3 H3 X.xe I3 (stat fr3) st3 stop) fun r s4 ⟨hr,I4⟩=>?_)
  subst hr
  exact wpAny_execs_nil ⟨σ3,H3,I4,qn⟩
 ·refine wpAny_passesOwn hp (dF (T.item X rfl rfl rfl hc i pins s3 σ3 H3 X.xe I3 (stat fr3) st3 go) fun r s4 ⟨u,hr,h4⟩=>?_)
  subst hr
  refine wpAny_passesOwn hp (dF h4 fun _ s5 ⟨x,H5,I5,r5,y5,st5,fr5⟩=>?_)
  have I5':=I5.pinned (stat fr5) (T.obj _ _ st5)
  refine wpAny_passesOwn hp (dF (hg _ s5 σ3 H5 x u _ I5' r5 (step x H5 y5)) fun _ s6 ⟨σ6,H6,I6,q6⟩=>?_)
  refine wpAny_passesOwn hp (dF (hb _ s6 σ6 H6 _ I6 q6) fun f s7 q7=>?_)
  have again:∀{σ7:St} {H7:Hp},Inv X (pins++mU fp s5.heap) σ7 H7 s7→N σ7 H7→∃m,m < n∧∃i σ' H',Inv X pins σ' H' s7∧tn i s7.heap∧(∀b∈fp,H' b=none)∧W i m σ' H':=fun {σ7 H7} I7 n7=>by
   obtain⟨m',hm,w7⟩:=hN σ7 H7 n7
   refine⟨m',hm,i+1,σ7,H7,I7.unpinned,T.keep _ _ _ st5 fun b hb o e=>(I7.pin (b,o) (List.mem_append_right _ (List.mem_append_right _ (iV hb e)))).1,fun b hb=>?_,w7⟩
   obtain⟨o,e,d⟩:=T.obj _ _ st5 b hb
   exact(I7.pin (b,o) (List.mem_append_right _ (List.mem_append_right _ (iV hb e)))).2.1
  cases f with
  |next=>obtain⟨σ7,H7,I7,n7⟩:=q7;exact again I7 n7
  |cont=>obtain⟨σ7,H7,I7,n7⟩:=q7;exact again I7 n7
  |brk=>obtain⟨σ7,H7,I7,q7⟩:=q7;exact⟨σ7,H7,I7.unpinned,q7⟩
  |ret v=>obtain⟨x7,σ7,H7,I7,r7,q7⟩:=q7;exact⟨x7,σ7,H7,I7.unpinned,r7,q7⟩
end
end L2
namespace L2
open PySem PySem.Spec PyProof.Rows
abbrev R2:=V→V→Hp→VK→Prop
def OpR(X:Cx)(f:Value→Value→Sem Value)(r:R2):Prop:=
 ∀(pins:List (Addr×Obj)) (s:Shared) (σ:St) (H:Hp) (x y:V) (v u:Value) (Q:VK),Inv X pins σ H s→RelV x v→RelV y u→r x y H Q→
  wpAny (model X.prog X.w) X.A (f v u) (EP X pins σ Q) X.xe s
def Fo(X:Cx)(f:Value→Sem Value)(r:V→Hp→VK→Prop):Prop:=
 ∀(pins:List (Addr×Obj)) (s:Shared) (σ:St) (H:Hp) (x:V) (v:Value) (Q:VK),Inv X pins σ H s→RelV x v→r x H Q→
  wpAny (model X.prog X.w) X.A (f v) (EP X pins σ Q) X.xe s
def CallR(X:Cx)(f:Value)(r:List V→Hp→VK→Prop):Prop:=
 ∀(pins:List (Addr×Obj)) (s:Shared) (σ:St) (H:Hp) (xs:List V) (us:List Value) (Q:VK),Inv X pins σ H s→Vals xs us→r xs H Q→
  wpAny (model X.prog X.w) X.A (call f us) (EP X pins σ Q) X.xe s
def Fp(X:Cx)(r:V→Hp→(Bool→Hp→Prop)→Prop):Prop:=
 ∀(pins:List (Addr×Obj)) (s:Shared) (σ:St) (H:Hp) (x:V) (v:Value) (Q:Bool→Hp→Prop),Inv X pins σ H s→RelV x v→r x H Q→
  wpAny (model X.prog X.w) X.A (truthy v) (TP X pins σ Q) X.xe s
def AI(r:R2)(ta tb:TE):TE:=fun σ H Q=>ta σ H fun x H1=>tb σ H1 fun y H2=>r x y H2 Q
def GA(r:V→Hp→VK→Prop)(ta:TE):TE:=fun σ H Q=>ta σ H fun x H1=>r x H1 Q
def rI(C:Int→Int→Prop)(g:Int→Int→V):R2:=fun x y H Q=>∃i j,x=.int i∧y=.int j∧C i j∧Q (g i j) H
def yQ(g:Int→Int→V):R2:=fun x y H Q=>∃i j,x=.int i∧y=.int j∧Q (g i j) H
def rU(g:Int→V):V→Hp→VK→Prop:=fun x H Q=>∃i,x=.int i∧Q (g i) H
section
variable {X:Cx} {a b c:Expr} {ta tb tc:TE} {pos:Pos}
theorem BG(ha:PE X a ta)(hb:PE X b tb){pins:List (Addr×Obj)}{s:Shared}{σ:St}{H:Hp}{R:V→V→Hp→Prop}(I:Inv X pins σ H s)
  (h:ta σ H fun x H1=>tb σ H1 fun y H2=>R x y H2) {Q:Value→Shared→Prop} {f:Value→Value→Sem Value}
  (hf:∀v u s2 x y H2,Inv X pins σ H2 s2→RelV x v→RelV y u→R x y H2→wpAny (model X.prog X.w) X.A (f v u) Q X.xe s2):
  wpAny (model X.prog X.w) X.A (eval a X.env) (fun v s₁=>wpAny (model X.prog X.w) X.A (eval b X.env) (fun u s₂=>wpAny (model X.prog X.w) X.A (f v u) Q X.xe s₂) X.xe s₁) X.xe s:=by
 refine dF (ha pins s σ H _ I h) fun v s1 ⟨x,H1,I1,r1,q1⟩=>?_
 refine dF (hb pins s1 σ H1 _ I1 q1) fun u s2 ⟨y,H2,I2,r2,q2⟩=>?_
 exact hf v u s2 x y H2 I2 r1 r2 q2
theorem tP{op:Operator}{r:R2}(ho:OpR X (binaryOp op) r)(ha:PE X a ta)(hb:PE X b tb):PE X (.BinOp a op b pos) (AI r ta tb):=by
 intro pins s σ H Q I h
 exact wpAny_BinOp (BG ha hb I h fun v u s2 x y H2 I2 rx ry q=>ho pins s2 σ H2 x y v u Q I2 rx ry q)
theorem Dn{op:UnaryOp}{r:V→Hp→VK→Prop}(ho:Fo X (unaryOp op) r)(ha:PE X a ta):PE X (.UnaryOp op a pos) (GA r ta):=by
 intro pins s σ H Q I h
 exact UnaryOp_ (dF (ha pins s σ H _ I h) fun v s1 ⟨x,H1,I1,r1,q1⟩=>ho pins s1 σ H1 x v Q I1 r1 q1)
theorem Fq{f:Value→Value→Sem Value}{C:Int→Int→Prop}{g:Int→Int→Int}
  (rule:∀(i j:Int) (t u:Tok) (s:Shared) (Q:Value→Shared→Prop) (E:Value→Shared→Prop),C i j→Q (.int (g i j) s.toks) {s with toks:=s.toks+1}→wpAny (model X.prog X.w) X.A (f (.int i t) (.int j u)) Q E s):
  OpR X f (rI C fun i j=>.int (g i j)):=by
 intro pins s σ H x y v u Q I rx ry h
 obtain⟨i,j,rfl,rfl,hc,q⟩:=h
 obtain⟨t,rfl⟩:=rx
 obtain⟨t',rfl⟩:=ry
 exact rule i j t t' s _ _ hc ⟨.int (g i j),H,I.tok _,⟨_,rfl⟩,q⟩
theorem Do{f:Value→Value→Sem Value}{g:Int→Int→Int}
  (rule:∀(i j:Int) (t u:Tok) (s:Shared) (Q:Value→Shared→Prop) (E:Value→Shared→Prop),Q (.int (g i j) s.toks) {s with toks:=s.toks+1}→wpAny (model X.prog X.w) X.A (f (.int i t) (.int j u)) Q E s):
  OpR X f (yQ fun i j=>.int (g i j)):=by
 intro pins s σ H x y v u Q I rx ry h
 obtain⟨i,j,rfl,rfl,q⟩:=h
 obtain⟨t,rfl⟩:=rx
 obtain⟨t',rfl⟩:=ry
 exact rule i j t t' s _ _ ⟨.int (g i j),H,I.tok _,⟨_,rfl⟩,q⟩
theorem yR{f:Value→Value→Sem Value}{g:Int→Int→Bool}
  (rule:∀(i j:Int) (t u:Tok) (s:Shared) (Q:Value→Shared→Prop) (E:Value→Shared→Prop),Q (.bool (g i j)) s→wpAny (model X.prog X.w) X.A (f (.int i t) (.int j u)) Q E s):
  OpR X f (yQ fun i j=>.bl (g i j)):=by
 intro pins s σ H x y v u Q I rx ry h
 obtain⟨i,j,rfl,rfl,q⟩:=h
 obtain⟨t,rfl⟩:=rx
 obtain⟨t',rfl⟩:=ry
 exact rule i j t t' s _ _ ⟨.bl (g i j),H,I,rfl,q⟩
def CMul(i j:Int):Prop:=(-(2 ^ 64) < i∧i < 2 ^ 64)∨(-(2 ^ 64) < j∧j < 2 ^ 64)
theorem CMul.ok{i j:Int}(h:CMul i j):IntMulOk i j:=by
 rcases h with⟨h1,h2⟩ |⟨h1,h2⟩
 ·exact .of_left (intBits_le_64 h1 h2)
 ·exact .of_right (intBits_le_64 h1 h2)
theorem v7:OpR X (binaryOp .Add) (yQ fun i j=>.int (i+j)):=Do fun _ _ _ _ _ _ _ q=>add_int q
theorem BH:OpR X (binaryOp .Sub) (yQ fun i j=>.int (i - j)):=Do fun _ _ _ _ _ _ _ q=>sub_int q
theorem BI:OpR X (binaryOp .Mod) (rI (fun _ j=>0 < j) fun i j=>.int (i % j)):=Fq fun i j _ _ _ _ _ hc q=>by
 have h1:(0:Int) < j:=hc
 exact mod_int' (by omega) (by rw[Int.fmod_eq_emod_of_nonneg i (by omega)];exact q)
theorem GB{f:Value→Sem Value}{g:Int→Int}
  (rule:∀(i:Int) (t:Tok) (s:Shared) (Q:Value→Shared→Prop) (E:Value→Shared→Prop),Q (.int (g i) s.toks) {s with toks:=s.toks+1}→wpAny (model X.prog X.w) X.A (f (.int i t)) Q E s):
  Fo X f (rU fun i=>.int (g i)):=by
 intro pins s σ H x v Q I rx h
 obtain⟨i,rfl,q⟩:=h
 obtain⟨t,rfl⟩:=rx
 exact rule i t s _ _ ⟨.int (g i),H,I.tok _,⟨_,rfl⟩,q⟩
theorem BJ:Fo X (unaryOp .USub) (rU fun i=>.int (-i)):=GB fun _ _ _ _ _ q=>neg_int q
end
def BK:V→V→Bool
 |.non,.non=>true |.non,.int _=>true |.int _,.non=>true |.non,.bl _=>true |.bl _,.non=>true |.non,.str _=>true |.str _,.non=>true
 |.int _,.int _=>true |.bl _,.bl _=>true |.str _,.str _=>true |.byt _,.byt _=>true
 |.int _,.str _=>true |.str _,.int _=>true |.bl _,.str _=>true |.str _,.bl _=>true
 |_,_=>false
def Fr:R2:=fun x y H Q=>BK x y=true∧Q (.bl (decide (x=y))) H
def Gj:R2:=fun x y H Q=>BK x y=true∧Q (.bl (!decide (x=y))) H
theorem tQ{i j:Int}:decide (V.int i=V.int j)=(i == j):=by
 rw[Bool.eq_iff_iff]
 simp
theorem v8{i j:Bool}:decide (V.bl i=V.bl j)=(i == j):=by
 rw[Bool.eq_iff_iff]
 simp
theorem tR{i j:Str}:decide (V.str i=V.str j)=(i == j):=by
 rw[Bool.eq_iff_iff]
 simp
theorem tS{i j:Array UInt8}:decide (V.byt i=V.byt j)=(i.toList == j.toList):=by
 rw[Bool.eq_iff_iff]
 cases i
 cases j
 simp
section
variable {X:Cx} {a b c:Expr} {ta tb tc:TE} {pos:Pos}
theorem bM{pins:List (Addr×Obj)}{σ:St}{H:Hp}{s:Shared}{Q:VK}{k k':Bool}(I:Inv X pins σ H s)(q:Q (.bl k) H)(e:k=k'):EP X pins σ Q (.bool k') s:=by
 subst e
 exact⟨.bl k,H,I,rfl,q⟩
theorem v9:OpR X (compareOp .Eq) Fr:=by
 intro pins s σ H x y v u Q I rx ry h
 obtain⟨hs,q⟩:=h
 cases x with
 |non=>
  cases rx
  cases y with
  |non=>cases ry;exact PySem.EqNone.eq_none_none (bM I q (by simp))
  |bl j=>cases ry;exact PySem.EqNone.eq_none_bool (bM I q (by simp))
  |int j=>obtain⟨t',rfl⟩:=ry;exact PySem.EqNone.eq_none_int (bM I q (by simp))
  |str j=>obtain⟨t',rfl⟩:=ry;exact PySem.EqNone.eq_none_str (bM I q (by simp))
  |_=>exact absurd (show false=true from hs) Bool.false_ne_true
 |bl i=>
  cases rx
  cases y with
  |non=>cases ry;exact PySem.EqNone.eq_bool_none (bM I q (by simp))
  |bl j=>cases ry;exact eq_bool (bM I q v8)
  |str j=>obtain⟨t',rfl⟩:=ry;exact PySem.EqMixed.eq_bool_str (bM I q (by simp))
  |_=>exact absurd (show false=true from hs) Bool.false_ne_true
 |int i=>
  obtain⟨t,rfl⟩:=rx
  cases y with
  |non=>cases ry;exact PySem.EqNone.eq_int_none (bM I q (by simp))
  |int j=>obtain⟨t',rfl⟩:=ry;exact eq_int (bM I q tQ)
  |str j=>obtain⟨t',rfl⟩:=ry;exact PySem.EqMixed.eq_int_str (bM I q (by simp))
  |_=>exact absurd (show false=true from hs) Bool.false_ne_true
 |str i=>
  obtain⟨t,rfl⟩:=rx
  cases y with
  |non=>cases ry;exact PySem.EqNone.eq_str_none (bM I q (by simp))
  |bl j=>cases ry;exact PySem.EqMixed.eq_str_bool (bM I q (by simp))
  |int j=>obtain⟨t',rfl⟩:=ry;exact PySem.EqMixed.eq_str_int (bM I q (by simp))
  |str j=>obtain⟨t',rfl⟩:=ry;exact eq_str (bM I q tR)
  |_=>exact absurd (show false=true from hs) Bool.false_ne_true
 |byt i=>
  obtain⟨t,rfl⟩:=rx
  cases y with
  |byt j=>obtain⟨t',rfl⟩:=ry;exact PySem.W.eq_bytes (bM I q tS)
  |_=>exact absurd (show false=true from hs) Bool.false_ne_true
 |_=>cases y <;> exact absurd (show false=true from hs) Bool.false_ne_true
theorem Dp:OpR X (compareOp .NotEq) Gj:=by
 intro pins s σ H x y v u Q I rx ry h
 obtain⟨hs,q⟩:=h
 cases x with
 |non=>
  cases rx
  cases y with
  |non=>cases ry;exact PySem.EqNone.ne_none_none (bM I q (by simp))
  |bl j=>cases ry;exact PySem.EqNone.ne_none_bool (bM I q (by simp))
  |int j=>obtain⟨t',rfl⟩:=ry;exact PySem.EqNone.ne_none_int (bM I q (by simp))
  |str j=>obtain⟨t',rfl⟩:=ry;exact PySem.EqNone.ne_none_str (bM I q (by simp))
  |_=>exact absurd (show false=true from hs) Bool.false_ne_true
 |bl i=>
  cases rx
  cases y with
  |non=>cases ry;exact PySem.EqNone.ne_bool_none (bM I q (by simp))
  |bl j=>cases ry;exact ne_bool (bM I q (congrArg not v8))
  |str j=>obtain⟨t',rfl⟩:=ry;exact PySem.EqMixed.ne_bool_str (bM I q (by simp))
  |_=>exact absurd (show false=true from hs) Bool.false_ne_true
 |int i=>
  obtain⟨t,rfl⟩:=rx
  cases y with
  |non=>cases ry;exact PySem.EqNone.ne_int_none (bM I q (by simp))
  |int j=>obtain⟨t',rfl⟩:=ry;exact ne_int (bM I q (congrArg not tQ))
  |str j=>obtain⟨t',rfl⟩:=ry;exact PySem.EqMixed.ne_int_str (bM I q (by simp))
  |_=>exact absurd (show false=true from hs) Bool.false_ne_true
 |str i=>
  obtain⟨t,rfl⟩:=rx
  cases y with
  |non=>cases ry;exact PySem.EqNone.ne_str_none (bM I q (by simp))
  |bl j=>cases ry;exact PySem.EqMixed.ne_str_bool (bM I q (by simp))
  |int j=>obtain⟨t',rfl⟩:=ry;exact PySem.EqMixed.ne_str_int (bM I q (by simp))
  |str j=>obtain⟨t',rfl⟩:=ry;exact ne_str (bM I q (congrArg not tR))
  |_=>exact absurd (show false=true from hs) Bool.false_ne_true
 |byt i=>
  obtain⟨t,rfl⟩:=rx
  cases y with
  |byt j=>obtain⟨t',rfl⟩:=ry;exact PySem.W.ne_bytes (bM I q (congrArg not tS))
  |_=>exact absurd (show false=true from hs) Bool.false_ne_true
 |_=>cases y <;> exact absurd (show false=true from hs) Bool.false_ne_true
theorem Dq:OpR X (compareOp .Lt) (yQ fun i j=>.bl (decide (i < j))):=yR fun _ _ _ _ _ _ _ q=>lt_int q
theorem Dr:OpR X (compareOp .LtE) (yQ fun i j=>.bl (decide (i≤j))):=yR fun _ _ _ _ _ _ _ q=>le_int q
theorem Ds:OpR X (compareOp .Gt) (yQ fun i j=>.bl (decide (j < i))):=yR fun _ _ _ _ _ _ _ q=>gt_int q
theorem Dt:OpR X (compareOp .GtE) (yQ fun i j=>.bl (decide (j≤i))):=yR fun _ _ _ _ _ _ _ q=>ge_int q
theorem uR:OpR X (compareOp .Lt) (fun x y H Q=>∃i j,x=.str i∧y=.str j∧Q (.bl (decide (i.cps.toList < j.cps.toList))) H):=by
 intro pins s σ H x y v u Q I rx ry h
 obtain⟨i,j,rfl,rfl,q⟩:=h
 obtain⟨t,rfl⟩:=rx
 obtain⟨t',rfl⟩:=ry
 exact lt_str (bM I q rfl)
theorem uS:OpR X (compareOp .In) (fun x y H Q=>∃i j,x=.str i∧y=.str j∧Q (.bl (!(Builtin.Str.occurrences j i 0 j.length 1).isEmpty)) H):=by
 intro pins s σ H x y v u Q I rx ry h
 obtain⟨i,j,rfl,rfl,q⟩:=h
 obtain⟨t,rfl⟩:=rx
 obtain⟨t',rfl⟩:=ry
 exact in_str (bM I q rfl)
theorem v_:OpR X (compareOp .Is) (fun x y H Q=>y=.non∧Q (.bl (decide (x=.non))) H):=by
 intro pins s σ H x y v u Q I rx ry h
 obtain⟨rfl,q⟩:=h
 cases ry
 refine is_none_gen (bM I q ?_)
 cases x <;> first
  |(cases rx;rfl)
  |(obtain⟨t,rfl⟩:=rx;rfl)
theorem yS:OpR X (compareOp .IsNot) (fun x y H Q=>y=.non∧Q (.bl (!decide (x=.non))) H):=by
 intro pins s σ H x y v u Q I rx ry h
 obtain⟨rfl,q⟩:=h
 cases ry
 refine isnot_none_gen (bM I q ?_)
 cases x <;> first
  |(cases rx;rfl)
  |(obtain⟨t,rfl⟩:=rx;rfl)
theorem OpR.or{f:Value→Value→Sem Value}{r r':R2}(h:OpR X f r)(h':OpR X f r'):OpR X f (fun x y H Q=>r x y H Q∨r' x y H Q):=by
 intro pins s σ H x y v u Q I rx ry q
 rcases q with q |q
 ·exact h pins s σ H x y v u Q I rx ry q
 ·exact h' pins s σ H x y v u Q I rx ry q
theorem jw(b:Expr){op:CmpOp}(h:op≠ .In:=by decide)(h2:op≠ .NotIn:=by decide):behindInMarks op b=false:=by
 have e1:(op == CmpOp.In)=false:=by cases op <;> first |rfl |exact absurd rfl h
 have e2:(op == CmpOp.NotIn)=false:=by cases op <;> first |rfl |exact absurd rfl h2
 cases b <;> simp[behindInMarks,e1,e2]
theorem yT{op:CmpOp}{r:R2}(ho:OpR X (compareOp op) r)(ha:PE X a ta)(hb:PE X b tb)(hm:behindInMarks op b=false):PE X (.Compare a [op] [b] pos) (AI r ta tb):=by
 intro pins s σ H Q I h
 exact wpAny_Compare1 (BG ha hb I h fun v u s2 x y H2 I2 rx ry q=>ho pins s2 σ H2 x y v u Q I2 rx ry q) hm
def AJ(t:TE):TT:=fun σ H Q=>t σ H fun x H'=>∃k,x=.bl k∧Q k H'
theorem yU{op:CmpOp}{r:R2}(ho:OpR X (compareOp op) r)(ha:PE X a ta)(hb:PE X b tb)(hm:behindInMarks op b=false):PT X (.Compare a [op] [b] pos) (AJ (AI r ta tb)):=by
 intro pins s σ H Q I h
 refine wpAny_isTrue_Compare1 (dF (ha pins s σ H _ I h) fun v s1 ⟨x,H1,I1,r1,q1⟩=>dF (hb pins s1 σ H1 _ I1 q1) fun u s2 ⟨y,H2,I2,r2,q2⟩=>
  dF (ho pins s2 σ H2 x y v u _ I2 r1 r2 q2) fun c s3 ⟨z,H3,I3,r3,k,e,q3⟩=>?_) hm
 subst e
 cases r3
 exact wpAny_truthy_bool ⟨H3,I3,q3⟩
def rZ(r r':R2)(ta tb tc:TE):TE:=fun σ H Q=>ta σ H fun x H1=>tb σ H1 fun y H2=>r x y H2 fun z H3=>∃k,z=.bl k∧
 (if k=true then tc σ H3 fun w' H4=>r' y w' H4 Q else Q (.bl false) H3)
theorem wa{op op':CmpOp}{r r':R2}(ho:OpR X (compareOp op) r)(ho':OpR X (compareOp op') r')(ha:PE X a ta)(hb:PE X b tb)(hc:PE X c tc)
  (hm:lastMarks [op,op'] [b,c]=false:=by with_unfolding_all rfl):PE X (.Compare a [op,op'] [b,c] pos) (rZ r r' ta tb tc):=by
 intro pins s σ H Q I h
 refine Compare_chain (dF (ha pins s σ H _ I h) fun v s1 ⟨x,H1,I1,r1,q1⟩=>chain_link (dF (hb pins s1 σ H1 _ I1 q1) fun u s2 ⟨y,H2,I2,r2,q2⟩=>
  dF (ho pins s2 σ H2 x y v u _ I2 r1 r2 q2) fun d s3 ⟨z,H3,I3,r3,k,e,q3⟩=>?_)) hm
 subst e
 cases r3
 refine wpAny_truthy_bool ?_
 cases k with
 |false=>exact ite_ff ⟨.bl false,H3,I3,rfl,q3⟩
 |true=>exact ite_tt (chain_last (dF (hc pins s3 σ H3 _ I3 q3) fun w' s4 ⟨z',H4,I4,r4,q4⟩=>ho' pins s4 σ H4 y z' u w' Q I4 r2 r4 q4))
theorem wb{op op':CmpOp}{r r':R2}(ho:OpR X (compareOp op) r)(ho':OpR X (compareOp op') r')(ha:PE X a ta)(hb:PE X b tb)(hc:PE X c tc)
  (hm:lastMarks [op,op'] [b,c]=false:=by with_unfolding_all rfl):PT X (.Compare a [op,op'] [b,c] pos) (AJ (rZ r r' ta tb tc)):=by
 intro pins s σ H Q I h
 refine isTrue_chain (dF (ha pins s σ H _ I h) fun v s1 ⟨x,H1,I1,r1,q1⟩=>test_link (dF (hb pins s1 σ H1 _ I1 q1) fun u s2 ⟨y,H2,I2,r2,q2⟩=>
  dF (ho pins s2 σ H2 x y v u _ I2 r1 r2 q2) fun d s3 ⟨z,H3,I3,r3,k,e,q3⟩=>?_)) hm
 subst e
 cases r3
 refine wpAny_truthy_bool ?_
 cases k with
 |false=>
  obtain⟨k',e',q'⟩:=q3
  cases e'
  exact ite_ff ⟨H3,I3,q'⟩
 |true=>
  refine ite_tt (test_last (dF (hc pins s3 σ H3 _ I3 q3) fun w' s4 ⟨z',H4,I4,r4,q4⟩=>dF (ho' pins s4 σ H4 y z' u w' _ I4 r2 r4 q4) fun d' s5 ⟨z2,H5,I5,r5,k2,e2,q5⟩=>?_))
  subst e2
  cases r5
  exact wpAny_truthy_bool ⟨H5,I5,q5⟩
def wc(K:PySem.W.Frag)(x:V)(H:Hp)(k:Bool):Prop:=
 match x with
 |.non=>k=false
 |.bl b=>k=b
 |.int i=>k=(i != 0)
 |.str y=>y.length≤sizeLine∧k=((y.length:Int) != 0)
 |.byt y=>y.size≤sizeLine∧k=((y.size:Int) != 0)
 |.ref p=>(∃xs,SqL K H p xs∧k= !xs.isEmpty)∨(∃xs,SqT K H p xs∧k= !xs.isEmpty)∨∃kvs,H p=some (.dK kvs)∧k= !kvs.isEmpty
 |_=>False
theorem r8{κ:Type}{kvs:List (κ×V)}{vs:List (κ×Value)}(r:KV kvs vs):(!vs.isEmpty)= !kvs.isEmpty:=by
 cases r <;> rfl
theorem mV{xs:List V}{its:List Value}(r:Vals xs its):(!its.toArray.isEmpty)= !xs.isEmpty:=by
 cases r <;> simp
theorem lO:(sizeLine:Nat) < 2 ^ 63:=by rw[sizeLine_eq];decide
theorem BL:Fp X (fun x H Q=>∃k,wc X.K x H k∧Q k H):=by
 intro pins s σ H x v Q I rx h
 obtain⟨k,e,q⟩:=h
 have hl:=lO
 have hs:sizeLine=16777216:=sizeLine_eq
 cases x with
 |non=>
  cases rx
  have e':k=false:=e
  subst e'
  exact truthy_none ⟨H,I,q⟩
 |bl b=>
  cases rx
  have e':k=b:=e
  subst e'
  exact wpAny_truthy_bool ⟨H,I,q⟩
 |int i=>
  obtain⟨t,rfl⟩:=rx
  have e':k=(i != 0):=e
  subst e'
  exact PySem.P.truthy_int ⟨H,I,q⟩
 |str y=>
  obtain⟨t,rfl⟩:=rx
  obtain⟨hy,e'⟩:y.length≤sizeLine∧k=((y.length:Int) != 0):=e
  subst e'
  exact PySem.P.truthy_str (by omega) ⟨H,I.tok _,q⟩
 |byt y=>
  obtain⟨t,rfl⟩:=rx
  obtain⟨hy,e'⟩:y.size≤sizeLine∧k=((y.size:Int) != 0):=e
  subst e'
  exact PySem.W.truthy_bytes (by omega) ⟨H,I.tok _,q⟩
 |ref p=>
  cases rx
  have e':(∃xs,SqL X.K H p xs∧k= !xs.isEmpty)∨(∃xs,SqT X.K H p xs∧k= !xs.isEmpty)∨∃kvs,H p=some (.dK kvs)∧k= !kvs.isEmpty:=e
  rcases e' with⟨xs,hx,e'⟩ |⟨xs,hx,e'⟩ |⟨kvs,hx,e'⟩
  ·subst e'
   obtain⟨its,r,pl,hz⟩:=I.list hx
   have hlen:=r.length
   exact wpAny_truthy_list pl.isList (by simp only[List.size_toArray];omega) ⟨H,I.tok _,by rw[mV r];exact q⟩
  ·subst e'
   obtain⟨its,r,pl,hz⟩:=I.tuple hx
   have hlen:=r.length
   exact truthy_tuple pl (by simp only[List.size_toArray];omega) ⟨H,I.tok _,by rw[mV r];exact q⟩
  ·subst e'
   obtain⟨hz,hS,vs,r,m⟩:kvs.length≤sizeLine∧(p == sysModules)=false∧∃vs,KV kvs vs∧s.heap.DictOf (mH X.prog X.w) p vs:=I.hok p _ hx
   have hlen:kvs.length=vs.length:=Paired.length r
   exact wpAny_truthy_dict hS m (by omega) ⟨H,I.tok _,by rw[r8 r];exact q⟩
 |_=>exact(show False from e).elim
theorem wd(ha:PE X a ta)(he:∀whole,isTrue a X.env whole=(do let v ←whole;standAt a.pos;holding [v] (truthy v))):
  PT X a (fun σ H Q=>ta σ H fun x H'=>∃k,wc X.K x H' k∧Q k H'):=by
 intro pins s σ H Q I h
 exact isTrue_plain (dF (ha pins s σ H _ I h) fun v s1 ⟨x,H1,I1,r1,q1⟩=>BL pins s1 σ H1 x v Q I1 r1 q1) (he _)
theorem r_:OpR X (binaryOp .Add) (fun x y H Q=>∃i j,x=.str i∧y=.str j∧i.length+j.length≤sizeLine∧Q (.str (i++j)) H):=by
 intro pins s σ H x y v u Q I rx ry h
 obtain⟨i,j,rfl,rfl,hz,q⟩:=h
 obtain⟨t,rfl⟩:=rx
 obtain⟨t',rfl⟩:=ry
 exact add_str (fun t' tk=>⟨.str (i++j),H,I.tok _,⟨_,rfl⟩,q⟩) hz
theorem qB{x:V}{us:List Value}(r:Vals [x] us):∃u,us=[u]∧RelV x u:=by
 cases r with
 |cons r1 r2=>cases r2;exact⟨_,rfl,r1⟩
theorem Du{x y:V}{us:List Value}(r:Vals [x,y] us):∃u w',us=[u,w']∧RelV x u∧RelV y w':=by
 cases r with
 |cons r1 r2=>
  cases r2 with
  |cons r3 r4=>cases r4;exact⟨_,_,rfl,r1,r3⟩
theorem qC:CallR X (.builtin "abs") (fun xs H Q=>∃i,xs=[.int i]∧Q (.int (if i < 0 then -i else i)) H):=by
 intro pins s σ H xs us Q I r h
 obtain⟨i,rfl,q⟩:=h
 obtain⟨u,rfl,t,rfl⟩:=qB r
 exact call_abs_int fun u tk=>⟨.int (if i < 0 then -i else i),H,I.tok _,⟨_,rfl⟩,q⟩
theorem uT(hc:X.calm=true):CallR X (.builtin "min") (fun xs H Q=>∃i j,xs=[.int i,.int j]∧Q (.int (if j < i then j else i)) H):=by
 intro pins s σ H xs us Q I r h
 obtain⟨i,j,rfl,q⟩:=h
 obtain⟨u,w',rfl,⟨t,rfl⟩,⟨t',rfl⟩⟩:=Du r
 refine min_two_ints (I.ok.hd hc) fun h' tk k=>⟨_,H,I.kept k,?_,q⟩
 by_cases hj:j < i
 ·rw[if_pos hj,if_pos hj];exact⟨_,rfl⟩
 ·rw[if_neg hj,if_neg hj];exact⟨_,rfl⟩
end
end L2
namespace L2
open PySem PySem.Spec PyProof.Rows
structure ObjM (h:Heap) (x dx C:Addr) (mA:Str→Option Value):Prop where
 obj:h.get? x=some (PySem.W.instObj C dx)
 ns:h.Ns1 dx mA
 ne:dx≠x
theorem uU{h:Heap}{dx:Addr}{mA:Str→Option Value}(n:h.Ns1 dx mA):∃od,h.get? dx=some od∧∀name,PySem.W.lookIn name od=some (mA name):=by
 obtain⟨o,es,ep,ho,hd,hk,_,hm⟩:=n
 refine⟨o,ho,fun name=>?_⟩
 have e:=hm name
 unfold nsFind findBy at e
 rw[←Array.find?_toList]at e
 unfold PySem.W.lookIn
 rw[hd]
 dsimp only
 split
 ·rename_i y q
  rw[q]at e
  exact congrArg some e
 ·rename_i q
  rw[q]at e
  have a:es.toList.any (·.refKey)=false:=by
   rw[List.any_eq_false]
   intro y hy
   obtain⟨z,t,hkey⟩:=hk y (Array.mem_toList_iff.mp hy)
   simp[DictEntry.refKey,hkey]
  have a':¬es.toList.any (·.refKey)=true:=by rw[a];exact Bool.false_ne_true
  rw[if_neg a']
  exact congrArg some e
theorem ObjM.look{h:Heap}{x dx C:Addr}{mA:Str→Option Value}(I:ObjM h x dx C mA):∃od,PySem.W.InstAt h x (PySem.W.instObj C dx) C (some od)∧∀name,PySem.W.lookIn name od=some (mA name):=
 let ⟨od,ho,hl⟩:=uU I.ns
 ⟨od,⟨I.obj,rfl,rfl,ho⟩,hl⟩
section
variable {prog:Program} {w:World} {A:Around} {E:Value→Shared→Prop} {s:Shared} {K:PySem.W.Frag} {x dx C f:Addr} {mA:Str→Option Value} {name:Str} {v:Value}
theorem yV{expr:Bool}{Q:Value→Shared→Prop}(X:K.In s.heap)(I:ObjM s.heap x dx C mA)(hg:PySem.W.plainGet K C name=true)(hh:PySem.W.hasDictIn K C=true)
  (ha:PySem.W.findIn K (.ref C) name=some none) (hv:mA name=some v) (hv':PySem.W.handedIn v=true) (h:Q v {s with toks:=s.toks+1}):
  wpAny (model prog w) A (getAttr (.ref x) name expr) Q E s:=by
 obtain⟨od,J,hl⟩:=I.look
 exact PySem.W.get_value X J (PySem.W.plainGet_of hg).1 (PySem.W.findObj_own hh ha rfl (by rw[hl,hv])) hv' h
theorem we{pl:Sem Bool}{Q:Value×List Value→Shared→Prop}(X:K.In s.heap)(I:ObjM s.heap x dx C mA)(hg:PySem.W.plainGet K C name=true)
  (hf:PySem.W.findIn K (.ref C) name=some (some (.ref f))) (ht:PySem.W.isFn K (.ref f)=true) (hv:mA name=none) (h:Q (.ref f,[.ref x]) s):
  wpAny (model prog w) A (getMethod (.ref x) name pl) Q E s:=by
 obtain⟨od,J,hl⟩:=I.look
 exact PySem.W.method_fn X J (PySem.W.plainGet_of hg).1 (PySem.W.plainGet_of hg).2 hf (beq_iff_eq.mp ht) (by show(PySem.W.lookIn name od).map (·.isSome)=some false;rw[hl,hv];rfl) h
theorem yW{ns:List Str}{Q:Unit→Shared→Prop}(X:K.In s.heap)(I:ObjM s.heap x dx C mA)
  (hs:PySem.W.findIn K (.ref C) "__setattr__"=some (some (.builtin "object.__setattr__"))) (hp:PySem.W.plainOver K C=true) (ht:PySem.W.takerIn K C name=some none) (hh:PySem.W.hasDictIn K C=true)
  (hw:PySem.Within mA ns) (hsz:ns.length≤sizeLine)
  (h:∀h',ObjM h' x dx C (fun y=>if y=name then some v else mA y)→Heap.SameBut dx s.heap h'→Q () {s with heap:=h',toks:=s.toks+2}):
  wpAny (model prog w) A (setAttr (.ref x) name v) Q E s:=by
 obtain⟨od,J,hl⟩:=I.look
 refine PySem.W.set_plain X J hs (PySem.W.osa_open (s:={s with toks:=s.toks+1}) (r:=none) X J hp ht fun b=>?_)
 obtain⟨cd,hc,hd'⟩:=PySem.W.any_some hh
 have hx:s.heap.get? x=some ⟨.ref C,some dx,.plain,#[]⟩:=I.obj
 refine wpAny_bind (wpAny_pure (wpAny_bind (wpAny_bind (wpAny_loadPart hx (wpAny_bind (PySem.W.Looks.here (s:={s with toks:=s.toks+1}) (PySem.W.looks_clsIn X hc) ?_))))))
 rw[hd']
 refine wpAny_pure (a:=some dx) (wpAny_bind (wpAny_pure (wpAny_bind ?_)))
 refine wpAny_nsSet1 (s:={s with toks:=s.toks+1}) I.ns fun h' hn2 hs2=>?_
 obtain⟨oD,esD,epD,hoD,hdD,hcD⟩:=hn2.count (PySem.Within.cons name v hw)
 refine wpAny_bind (wpAny_lookBehind hoD (by rw[hdD];exact pastItsLine_dict (Nat.le_trans hcD (by rw[List.length_cons];omega))) ?_)
 exact wpAny_pure (h _ ⟨(hs2.2 _ (Ne.symm I.ne)).trans I.obj,hn2,I.ne⟩ hs2)
theorem wf{R:Result→Shared→Prop}{vs:List Value}{kw:List (Str×Value)}(X:K.In s.heap)(hm:PySem.W.makesIn K C=true)
  (hi:PySem.W.findIn K (.ref C) "__init__"=some (some (.ref f))) (hf:PySem.W.typeIn K (.ref f)=some (.type "function"))
  (h:codeAny (model prog w) (A.under (.builtin "type.__call__" ⟨.ref C::vs,kw⟩)) (.call (.ref f) ⟨.ref (s.heap.objs.size+1)::vs,kw⟩) (PySem.W.InitBack (s.heap.objs.size+1) R)
   {s with heap:=(s.heap.push PySem.W.emptyDict).push (PySem.W.instObj C s.heap.objs.size)}):
  codeAny (model prog w) A (.call (.ref C) ⟨vs,kw⟩) R s:=by
 obtain⟨hh,g,d,t,os⟩:=s
 exact PySem.W.make_core (PySem.W.makes_of X hm) (PySem.W.looks_findIn X hi) (fun self=>PySem.W.bind_fn X self hf) (.inl rfl) h
end
def dg(f:Str)(v:V):List (Str×V)→List (Str×V)
 |[]=>[(f,v)]
 |(g,x)::r=>if g=f then (g,v)::r else (g,x)::dg f v r
theorem aU(f g:Str)(v:V):∀fs:List (Str×V),(dg f v fs).lookup g=if g=f then some v else fs.lookup g
 |[]=>by
  show List.lookup g [(f,v)]=_
  by_cases h:g=f
  ·have hb:(g == f)=true:=beq_iff_eq.mpr h
   simp only[List.lookup,hb,if_pos h]
  ·have hb:(g == f)=false:=beq_eq_false_iff_ne.mpr h
   simp only[List.lookup,hb,if_neg h]
 |(k,x)::r=>by
  have ih:=aU f g v r
  rw[show dg f v ((k,x)::r)=(if k=f then (k,v)::r else (k,x)::dg f v r)from rfl]
  by_cases hk:k=f
  ·rw[if_pos hk]
   by_cases h:g=k
   ·have hb:(g == k)=true:=beq_iff_eq.mpr h
    simp only[List.lookup,hb,if_pos (h.trans hk)]
   ·have hb:(g == k)=false:=beq_eq_false_iff_ne.mpr h
    simp only[List.lookup,hb,if_neg (fun e:g=f=>h (e.trans hk.symm))]
  ·rw[if_neg hk]
   by_cases h:g=k
   ·have hb:(g == k)=true:=beq_iff_eq.mpr h
    simp only[List.lookup,hb,if_neg (fun e:g=f=>hk (h.symm.trans e))]
   ·have hb:(g == k)=false:=beq_eq_false_iff_ne.mpr h
    simp only[List.lookup,hb]
    exact ih
theorem lP(f:Str)(v:V):∀fs:List (Str×V),f∈(dg f v fs).map (·.1)∧∀g,g∈fs.map (·.1)→g∈(dg f v fs).map (·.1)
 |[]=>⟨by simp[dg],fun g h=>by simp at h⟩
 |(k,x)::r=>by
  obtain⟨i1,i2⟩:=lP f v r
  rw[show dg f v ((k,x)::r)=(if k=f then (k,v)::r else (k,x)::dg f v r)from rfl]
  by_cases hk:k=f
  ·rw[if_pos hk]
   subst hk
   exact⟨by simp,fun g h=>by simpa using h⟩
  ·rw[if_neg hk]
   refine⟨?_,fun g h=>?_⟩
   ·rw[List.map_cons]
    exact List.mem_cons_of_mem _ i1
   ·rw[List.map_cons]at h ⊢
    rcases List.mem_cons.mp h with e |e
    ·exact List.mem_cons.mpr (.inl e)
    ·exact List.mem_cons_of_mem _ (i2 g e)
theorem jx(f:Str)(v:V):∀fs:List (Str×V),(dg f v fs).length≤fs.length+1
 |[]=>by simp[dg]
 |(k,x)::r=>by
  have ih:=jx f v r
  rw[show dg f v ((k,x)::r)=(if k=f then (k,v)::r else (k,x)::dg f v r)from rfl]
  by_cases hk:k=f
  ·rw[if_pos hk,List.length_cons,List.length_cons];omega
  ·rw[if_neg hk,List.length_cons,List.length_cons];omega
theorem RelO.some_of{v:V}{o:Option Value}(r:RelO (some v) o):∃u,o=some u∧RelV v u:=by
 cases o with
 |none=>exact(show False from r).elim
 |some u=>exact⟨u,rfl,r⟩
theorem RelO.none_of{o:Option Value}(r:RelO none o):o=none:=by
 cases o with
 |none=>rfl
 |some u=>exact(show False from r).elim
theorem uV{v:V}{u:Value}(r:RelV v u):PySem.W.handedIn u=true:=by
 cases v with
 |non=>cases(show u=Value.none from r);rfl
 |bl b=>cases(show u=Value.bool b from r);rfl
 |int i=>obtain⟨t,e⟩:=(show ∃t,u=Value.int i t from r);cases e;rfl
 |str x=>obtain⟨t,e⟩:=(show ∃t,u=Value.str x t from r);cases e;rfl
 |byt b=>obtain⟨t,e⟩:=(show ∃t,u=Value.bytes b t from r);cases e;rfl
 |flt b=>obtain⟨t,e⟩:=(show ∃t,u=Value.float b t from r);cases e;rfl
 |ref a=>cases(show u=Value.ref a from r);rfl
 |ty n=>cases(show u=Value.type n from r);rfl
section
variable {P:Program} {w:World} {H H':Hp} {h h':Heap} {a C dx:Addr} {fs fs':List (Str×V)}
theorem kR(hok:HOk P w H h)(e:H a=some (.ins C dx fs)):∃mA,ObjM h a dx C mA∧(∀f,RelO (fs.lookup f) (mA f))∧PySem.Within mA (fs.map (·.1))∧fs.length≤1000∧H dx=some (.own a):=by
 obtain⟨d,z,ne,ob,mA,n,r,q⟩:=(show ObjOk P w H h a (.ins C dx fs)from hok a _ e)
 exact⟨mA,⟨ob,n,ne⟩,r,q,z,d⟩
end
structure Cls (K:PySem.W.Frag) (C:Addr):Prop where
 pg:PySem.W.plainGet K C Str.empty=true
 hd:PySem.W.hasDictIn K C=true
 po:PySem.W.plainOver K C=true
 sa:PySem.W.findIn K (.ref C) "__setattr__"=some (some (.builtin "object.__setattr__"))
theorem Cls.get{K:PySem.W.Frag}{C:Addr}(c:Cls K C)(f:Str):PySem.W.plainGet K C f=true:=c.pg
def NoAttr(K:PySem.W.Frag)(C:Addr)(f:Str):Prop:=PySem.W.findIn K (.ref C) f=some none
theorem NoAttr.taker{K:PySem.W.Frag}{C:Addr}{f:Str}(n:NoAttr K C f):PySem.W.takerIn K C f=some none:=by
 unfold PySem.W.takerIn
 rw[show PySem.W.findIn K (.ref C) f=some none from n]
 rfl
structure Meth (K:PySem.W.Frag) (C:Addr) (m:Str) (f:Addr):Prop where
 at_:PySem.W.findIn K (.ref C) m=some (some (.ref f))
 fn:PySem.W.isFn K (.ref f)=true
 kp:PySem.W.keepIn K (.ref f)=true
section
variable {X:Cx} {pins:List (Addr×Obj)} {σ:St} {H:Hp} {s:Shared} {a C dx:Addr} {fs:List (Str×V)} {f:Str} {v:V} {A:Around} {E:Value→Shared→Prop}
theorem sd{b:Bool}{Q:Value→Shared→Prop}(I:Inv X pins σ H s)(e:H a=some (.ins C dx fs))(c:Cls X.K C)(n:NoAttr X.K C f)(l:fs.lookup f=some v)
  (h:∀u s',Inv X pins σ H s'→RelV v u→Q u s'):wpAny (model X.prog X.w) A (getAttr (.ref a) f b) Q E s:=by
 obtain⟨mA,O,r,_,_,_⟩:=kR I.hok e
 obtain⟨u,hu,ru⟩:=RelO.some_of (v:=v) (o:=mA f) (by rw[←l];exact r f)
 exact yV I.kIn O (c.get f) c.hd n hu (uV ru) (h u _ (I.tok _) ru)
theorem mW{m:Str}{g:Addr}{pl:Sem Bool}{Q:Value×List Value→Shared→Prop}(I:Inv X pins σ H s)(e:H a=some (.ins C dx fs))(c:Cls X.K C)(k:Meth X.K C m g)(l:fs.lookup m=none)
  (h:Q (.ref g,[.ref a]) s):wpAny (model X.prog X.w) A (getMethod (.ref a) m pl) Q E s:=by
 obtain⟨mA,O,r,_,_,_⟩:=kR I.hok e
 have hn:mA m=none:=RelO.none_of (by rw[←l];exact r m)
 exact we I.kIn O (c.get m) k.at_ k.fn hn h
theorem se{y:V}{u:Value}{Q:Unit→Shared→Prop}(I:Inv X pins σ H s)(e:H a=some (.ins C dx fs))(c:Cls X.K C)(n:NoAttr X.K C f)(hl:fs.length < 1000)(ry:RelV y u)
  (h:∀s',Inv X pins σ (upd H a (.ins C dx (dg f y fs))) s'→Q () s'):wpAny (model X.prog X.w) A (setAttr (.ref a) f u) Q E s:=by
 obtain⟨mA,O,r,wi,_,ho⟩:=kR I.hok e
 have hz:(fs.map (·.1)).length≤sizeLine:=by rw[List.length_map,sizeLine_eq];omega
 refine yW I.kIn O c.sa c.po n.taker c.hd wi hz fun h' O' sb=>h _ ?_
 have hd:∃o,h'.get? dx=some o:=let ⟨o,_,_,e',_⟩:=O'.ns;⟨o,e'⟩
 refine I.write (x:=a) (e:=dx) (by rw[e];exact True.intro) (.inr ho) (fun b q hb z=>(sb.2 b hb).trans z) hd ?_
 refine⟨by rw[aC O.ne];exact ho,?_,O.ne,O'.obj,_,O'.ns,fun g=>?_,fun g hg=>?_⟩
 ·have:=jx f y fs;omega
 ·show RelO ((dg f y fs).lookup g) (if g=f then some u else mA g)
  rw[aU]
  by_cases q:g=f
  ·rw[if_pos q,if_pos q];exact ry
  ·rw[if_neg q,if_neg q];exact r g
 ·by_cases q:g=f
  ·rw[q];exact(lP f y fs).1
  ·refine(lP f y fs).2 g (wi g fun z=>hg ?_)
   show(if g=f then some u else mA g)=none
   rw[if_neg q];exact z
theorem Inv.made(I:Inv X pins σ H s):Inv X pins σ (upd (upd H s.heap.objs.size (.own (s.heap.objs.size+1))) (s.heap.objs.size+1) (.ins C s.heap.objs.size []))
  {s with heap:=(s.heap.push PySem.W.emptyDict).push (PySem.W.instObj C s.heap.objs.size)}:=by
 have e1:(s.heap.push PySem.W.emptyDict).get? s.heap.objs.size=some PySem.W.emptyDict:=Heap.get?_push_size s.heap rfl
 have e2:((s.heap.push PySem.W.emptyDict).push (PySem.W.instObj C s.heap.objs.size)).get? (s.heap.objs.size+1)=some (PySem.W.instObj C s.heap.objs.size):=by
  have:=Heap.get?_push_size (s.heap.push PySem.W.emptyDict) (o:=PySem.W.instObj C s.heap.objs.size) rfl
  rwa [Heap.size_push]at this
 have e3:(s.heap.push PySem.W.emptyDict).Ns s.heap.objs.size (fun _=>none):=⟨PySem.W.emptyDict,#[],_,e1,rfl,(fun e he=>absurd he (by simp)),fun _=>rfl⟩
 have I1:=I.laid (a:=s.heap.objs.size) (o:=.own (s.heap.objs.size+1)) (h':=s.heap.push PySem.W.emptyDict) (t':=s.toks) (fun b u q=>Heap.get?_push_of_some _ q) (Nat.le_refl _) ⟨_,e1⟩
 refine I1.laid (a:=s.heap.objs.size+1) (o:=.ins C s.heap.objs.size []) (t':=s.toks) (fun b u q=>Heap.get?_push_of_some _ q) (Nat.le_of_eq (Heap.size_push _ _)) ?_
 have ne:s.heap.objs.size≠s.heap.objs.size+1:=Nat.ne_of_lt (Nat.lt_succ_self _)
 refine⟨by rw[aC ne,upd_same],Nat.zero_le _,ne,e2,fun _=>none,(Heap.Ns1.of_empty e3).at fun o q=>Heap.get?_push_of_some _ q,fun _=>True.intro,fun y hy=>absurd rfl hy⟩
theorem yX{prog:Program}{w:World}{env:Env}{e:Expr}{f:Str}{pos:Pos}{s:Shared}{Q:Value→Shared→Prop}(hb:attributeBase e f env (eval e env)=eval e env)
  (h:wpAny (model prog w) A (eval e env) (fun o s₁=>wpAny (model prog w) A (getAttr o f true) Q E s₁) E s):wpAny (model prog w) A (eval (.Attribute e f pos) env) Q E s:=
 Attribute_any_ h (by rw[arm_eval_Attribute,hb])
end
def Fs(K:PySem.W.Frag)(ta:TE)(f:Str):TE:=fun σ H Q=>ta σ H fun x H1=>∃a C dx fs v,x=.ref a∧H1 a=some (.ins C dx fs)∧Cls K C∧NoAttr K C f∧fs.lookup f=some v∧Q v H1
def lQ(K:PySem.W.Frag)(ta tv:TE)(f:Str):TS:=fun D σ H=>tv σ H fun y H1=>ta σ H1 fun x H2=>∃a C dx fs,x=.ref a∧H2 a=some (.ins C dx fs)∧Cls K C∧NoAttr K C f∧fs.length < 1000∧
 D.nx σ (upd H2 a (.ins C dx (dg f y fs)))
section
variable {X:Cx} {o e value:Expr} {f:Str} {pos pos' tpos:Pos} {ta tv:TE}
theorem BM(he:PE X e ta)(hb:attributeBase e f X.env (eval e X.env)=eval e X.env):PE X (.Attribute e f pos) (Fs X.K ta f):=by
 intro pins s σ H Q I h
 refine yX hb (dF (he pins s σ H _ I h) fun u s1 ⟨x,H1,I1,rx,a,C,dx,fs,v,ex,ea,c,n,l,q⟩=>?_)
 subst ex
 obtain rfl:u=Value.ref a:=rx
 exact sd I1 ea c n l fun u' s2 I2 ru=>⟨v,H1,I2,ru,q⟩
theorem gy(ha:PE X o ta)(hv:PE X value tv)(hs:swapsWith value (some (.Attribute o f pos')) pos.line X.env=pure false):PS X (.Assign [.Attribute o f pos'] value pos) (lQ X.K ta tv f):=by
 intro pins s σ H D I h
 refine plainObj_wpAny_Assign_Attribute (dF (hv pins s σ H _ I h) fun u s1 ⟨y,H1,I1,ry,q⟩=>dF (ha pins s1 σ H1 _ I1 q) fun ov s2 ⟨x,H2,I2,rx,a,C,dx,fs,ex,ea,c,n,l,q2⟩=>?_) hs
 subst ex
 obtain rfl:ov=Value.ref a:=rx
 exact se I2 ea c n l ry fun s3 I3=>⟨σ,_,I3,q2⟩
end
section
variable {X:Cx} {pins:List (Addr×Obj)} {σ:St} {H:Hp} {s:Shared} {A:Around} {E:Value→Shared→Prop} {Q:Value→Shared→Prop} {c:Value} {b:Bool}
inductive TyOf (K:PySem.W.Frag) (H:Hp):V→Value→Prop where
 |non:TyOf K H .non (.type "NoneType")
 |bl (x:Bool):TyOf K H (.bl x) (.type "bool")
 |int (i:Int):TyOf K H (.int i) (.type "int")
 |str (x:Str):TyOf K H (.str x) (.type "str")
 |flt (x:UInt64):TyOf K H (.flt x) (.type "float")
 |lst {a:Addr} {xs:List V} (e:H a=some (.lst xs)):TyOf K H (.ref a) (.type "list")
 |frz {a:Addr} {o:Obj} {xs:List V} (e:H a=some (.frz o (.lst xs))):TyOf K H (.ref a) (.type "list")
 |tup {a:Addr} {xs:List V} (e:H a=some (.tup xs)):TyOf K H (.ref a) (.type "tuple")
 |dK {a:Addr} {kvs:List (iJ×V)} (e:H a=some (.dK kvs)):TyOf K H (.ref a) (.type "dict")
 |dT {a:Addr} {kvs:List (List iJ×V)} (e:H a=some (.dT kvs)):TyOf K H (.ref a) (.type "dict")
 |ins {a C dx:Addr} {fs:List (Str×V)} (e:H a=some (.ins C dx fs)) (cl:Cls K C) (ha:PySem.W.findIn K (.ref C) "__class__"=some (some (.builtin "object.__class__")))
   (hn:PySem.W.specialIn K (.builtin "object.__class__") "__get__"=some (some (.builtin "getset_descriptor.__get__"))) (htk:PySem.W.takesIn K (.builtin "object.__class__")=some true)
   (hm:PySem.W.mroIn K C (.type "object")=some true):TyOf K H (.ref a) (.ref C)
theorem jY{x:V}{u t:Value}(I:Inv X pins σ H s)(rx:RelV x u)(ty:TyOf X.K H x t)(e:PySem.W.kitOne X.K t c=some b)(h:∀tk,Q (.bool b) {s with toks:=tk}):
  wpAny (model X.prog X.w) A (call (.builtin "isinstance") [u,c]) Q E s:=by
 cases ty with
 |non=>cases(show u=Value.none from rx);exact PySem.W.kia_one PySem.W.kitx_none I.kIn True.intro e (fun z=>nomatch z) h
 |bl y=>cases(show u=Value.bool y from rx);exact PySem.W.kia_one PySem.W.kitx_bool I.kIn True.intro e (fun z=>nomatch z) h
 |int i=>obtain⟨t,q⟩:=(show ∃t,u=Value.int i t from rx);cases q;exact PySem.W.kia_one PySem.W.kitx_int I.kIn True.intro e (fun z=>nomatch z) h
 |str y=>obtain⟨t,q⟩:=(show ∃t,u=Value.str y t from rx);cases q;exact PySem.W.kia_one PySem.W.kitx_str I.kIn True.intro e (fun z=>nomatch z) h
 |flt y=>obtain⟨t,q⟩:=(show ∃t,u=Value.float y t from rx);cases q;exact PySem.W.kia_one PySem.W.kitx_float I.kIn True.intro e (fun z=>nomatch z) h
 | @lst a xs ea=>
  cases(show u=Value.ref a from rx)
  obtain⟨_,_,n,_,h1⟩:=(show ObjOk X.prog X.w H s.heap a (.lst xs)from I.hok a _ ea)
  exact PySem.W.kia_one PySem.W.kitx_list I.kIn ⟨_,h1,rfl⟩ e (fun z=>nomatch z) h
 | @frz a ob xs ea=>
  cases(show u=Value.ref a from rx)
  obtain⟨_,_,_,n,_,h1⟩:=(show ObjOk X.prog X.w H s.heap a (.frz ob (.lst xs))from I.hok a _ ea)
  exact PySem.W.kia_one PySem.W.kitx_list I.kIn ⟨_,h1,rfl⟩ e (fun z=>nomatch z) h
 | @tup a xs ea=>
  cases(show u=Value.ref a from rx)
  obtain⟨_,_,_,p⟩:=(show ObjOk X.prog X.w H s.heap a (.tup xs)from I.hok a _ ea)
  obtain⟨o,h1,h2,_⟩:=p
  exact PySem.W.kia_one PySem.W.kitx_tuple I.kIn ⟨o,h1,h2⟩ e (fun z=>nomatch z) h
 | @dK a kvs ea=>
  cases(show u=Value.ref a from rx)
  obtain⟨_,_,vs,_,p⟩:=(show ObjOk X.prog X.w H s.heap a (.dK kvs)from I.hok a _ ea)
  obtain⟨o,es,ep,h1,h2,_⟩:=p
  exact PySem.W.kia_one PySem.W.kitx_dict I.kIn ⟨o,h1,h2.1⟩ e (fun z=>nomatch z) h
 | @dT a kvs ea=>
  cases(show u=Value.ref a from rx)
  obtain⟨_,_,xs,_,o,es,ep,h1,h2,_⟩:=(show ObjOk X.prog X.w H s.heap a (.dT kvs)from I.hok a _ ea)
  exact PySem.W.kia_one PySem.W.kitx_dict I.kIn ⟨o,h1,h2.1⟩ e (fun z=>nomatch z) h
 | @ins a C dx fs ea cl ha hn htk hm=>
  cases(show u=Value.ref a from rx)
  obtain⟨mA,O,_⟩:=kR I.hok ea
  obtain⟨od,J,_⟩:=O.look
  exact PySem.W.kia_one (PySem.W.kitx_own (cl.get _) cl.hd ha hn htk hm) I.kIn J e (fun z=>nomatch z) h
end
end L2
namespace L2
open PySem PySem.Spec PyProof.Rows
structure Room (k:Nat) (A:Around):Prop where
 hd:A.handled=none
 dp:A.depth+3*k+5 < recursionLimit
 un:A.units+16*k+200 < cLine
theorem Room.mono{j k:Nat}{A:Around}(r:Room k A)(h:j≤k):Room j A:=⟨r.hd,by have:=r.dp;omega,by have:=r.un;omega⟩
theorem Room.deeper{k:Nat}{A:Around}(r:Room (k+1) A)(env:Env):Room k (A.deeper env):=
 ⟨r.hd,by have:=r.dp;show A.depth+1+3*k+5 < _;omega,by have:=r.un;show A.units+3+16*k+200 < _;omega⟩
theorem Room.in1{k:Nat}{A:Around}(r:Room (k+1) A):Room k A.in1:=
 ⟨r.hd,by have:=r.dp;show A.depth+3*k+5 < _;omega,by have:=r.un;show A.units+1+16*k+200 < _;omega⟩
theorem sf{A:Around}{C:Addr}{us:List Value}{kw:List (Str×Value)}:(A.under (.builtin "type.__call__" ⟨.ref C::us,kw⟩)).depth=A.depth+1:=by
 first |rfl |simp[Around.under,Code.weight,Code.isCreation,Code.isGuard,Code.isCaller,Code.frames,Code.isFrame,guardIds]
theorem si{A:Around}{C:Addr}{us:List Value}{kw:List (Str×Value)}:(A.under (.builtin "type.__call__" ⟨.ref C::us,kw⟩)).units=A.units+1:=by
 first |rfl |simp[Around.under,Code.cUnits,Code.frames,Code.isFrame]
theorem Room.make{k:Nat}{A:Around}(r:Room (k+1) A)(C:Addr)(us:List Value)(kw:List (Str×Value)):Room k (A.under (.builtin "type.__call__" ⟨.ref C::us,kw⟩)):=
 ⟨r.hd,by have:=r.dp;rw[sf];omega,by have:=r.un;rw[si];omega⟩
theorem Room.depth{k:Nat}{A:Around}(r:Room k A):A.depth < recursionLimit:=by have:=r.dp;omega
theorem Room.units{k:Nat}{A:Around}(r:Room k A):A.units+64 < cLine:=by have:=r.un;omega
def wg:TA:=fun _ H Q=>Q [] H
def qD(ta:TE)(tr:TA):TA:=fun σ H Q=>ta σ H fun x H1=>tr σ H1 fun xs H2=>Q (x::xs) H2
section
variable {X:Cx} {e:Expr} {es:List Expr} {te:TE} {t:TA} {pos:Pos}
theorem fi:PA X [] wg:=fun _ _ _ _ H Q I h=>Calls.spliced_nil ⟨[],H,I,.nil,h⟩
theorem c_(ha:PE X e te)(hr:PA X es t)(hs:starEach (e::es) X.env=(false,eval e X.env)::starEach es X.env:=by rfl):PA X (e::es) (qD te t):=by
 intro pos pins s σ H Q I h
 rw[hs]
 show wpAny _ _ (spliced ((false,eval e X.env)::backTo pos (starEach es X.env))) _ _ s
 refine Calls.spliced_cons (dF (ha pins s σ H _ I h) fun u s1 ⟨x,H1,I1,r1,q1⟩=>?_)
 exact dF (hr pos pins s1 σ H1 _ I1 q1) fun us s2 ⟨xs,H2,I2,r2,q2⟩=>⟨x::xs,H2,I2,.cons r1 r2,q2⟩
def Ft(t:TA):TE:=fun σ H Q=>t σ H fun xs H1=>xs.length≤sizeLine∧∀p,H1 p=none→Q (.ref p) (upd H1 p (.tup xs))
def Fu(t:TA):TE:=fun σ H Q=>t σ H fun xs H1=>xs.length≤sizeLine∧∀p,H1 p=none→Q (.ref p) (upd H1 p (.lst xs))
theorem wj{x1}(h:PA X es t):PE X (.Tuple es x1 pos) (Ft t):=by
 intro pins s σ H Q I hq
 refine wpAny_Tuple_spliced (dF (h pos pins s σ H _ I hq) fun us s1 ⟨xs,H1,I1,r,z,q⟩=>⟨by rw[←r.length];exact z,?_⟩)
 have hf:H1 s1.heap.objs.size=none:=I1.hok.fresh (Nat.le_refl _)
 refine⟨.ref s1.heap.objs.size,upd H1 s1.heap.objs.size (.tup xs),I1.laid (t':=s1.toks) (fun b u e=>Heap.get?_push_of_some _ e) (Nat.le_refl _) ?_,rfl,q _ hf⟩
 exact⟨z,us,r,⟨_,Heap.get?_push_size _ rfl,rfl,_,rfl⟩⟩
theorem BN(h:PA X es t):PE X (.List es pos) (Fu t):=by
 intro pins s σ H Q I hq
 refine wpAny_List_spliced (dF (h pos pins s σ H _ I hq) fun us s1 ⟨xs,H1,I1,r,z,q⟩=>⟨by rw[←r.length];exact z,?_⟩)
 have hf:H1 s1.heap.objs.size=none:=I1.hok.fresh (Nat.le_refl _)
 refine⟨.ref s1.heap.objs.size,upd H1 s1.heap.objs.size (.lst xs),I1.laid (t':=s1.toks) (fun b u e=>Heap.get?_push_of_some _ e) (Nat.le_refl _) ?_,rfl,q _ hf⟩
 exact⟨z,us,0,r,Heap.get?_push_size _ rfl⟩
end
abbrev Sp:=List V→Hp→VK→XK→Prop
abbrev uW:=List Env→Hp→Shared→XK→Value→Shared→Prop
structure Env0 (P:Program) (w:World) (K:PySem.W.Frag) (mg:Str→Option Value) (base:Heap) (A:Around) (outer:List Env) (s:Shared) (H:Hp):Prop where
 frames:A.frames=some outer
 mod:Mod K mg base
 bs:∀b o,base.get? b=some o→s.heap.get? b=some o∧H b=none
 bsz:base.objs.size≤s.heap.objs.size
 funs:s.heap.FunFrames base outer
 frf:∀b∈kP outer,H b=none
 hok:HOk P w H s.heap
 bare:AllBare s.gens
 tab:∀b q,mR K b=some q→H b=some (.tbl q)
def CE(outer:List Env)(P:Program)(w:World)(H:Hp)(s:Shared)(Q:VK)(u:Value)(s':Shared):Prop:=
 ∃v H',s'.os=s.os∧AllBare s'.gens∧Un (kP outer) [] H H' s.heap s'.heap∧HOk P w H' s'.heap∧RelV v u∧Q v H'
def CR(CX:uW)(outer:List Env)(P:Program)(w:World)(H:Hp)(s:Shared)(Q:VK)(E:XK)(r:Result)(s':Shared):Prop:=
 match r with
 |.ok (.ret u)=>CE outer P w H s Q u s'
 |.ok _=>False
 |.error e=>CX outer H s E e s'
structure FnOk (P:Program) (w:World) (K:PySem.W.Frag) (mg:Str→Option Value) (base:Heap) (CX:uW) (k:Nat) (f:Addr) (fd:FuncData) (ps:List Str) (sp:Sp):Prop where
 len:∀vs H Q E,sp vs H Q E→vs.length=ps.length
 run:∀(A:Around) (outer:List Env) (s:Shared) (H:Hp) (args:Args) (us:List Value) (vs:List V) (Q:VK) (E:XK),Room k A→Env0 P w K mg base A outer s H→BindsTo s fd args (ps.zip us)→Vals vs us→sp vs H Q E→
  codeAny (model P w) A (.call (.ref f) args) (CR CX outer P w H s Q E) s
theorem FnOk.mono{P:Program}{w:World}{K:PySem.W.Frag}{mg:Str→Option Value}{base:Heap}{CX:uW}{j k:Nat}{f:Addr}{fd:FuncData}{ps:List Str}{sp:Sp}(F:FnOk P w K mg base CX j f fd ps sp)(h:j≤k):
  FnOk P w K mg base CX k f fd ps sp:=⟨F.len,fun A outer s H args us vs Q E hr=>F.run A outer s H args us vs Q E (hr.mono h)⟩
theorem FnOk.imp{P:Program}{w:World}{K:PySem.W.Frag}{mg:Str→Option Value}{base:Heap}{CX:uW}{k:Nat}{f:Addr}{fd:FuncData}{ps:List Str}{sp sp':Sp}(F:FnOk P w K mg base CX k f fd ps sp)
  (h:∀vs H Q E,sp' vs H Q E→sp vs H Q E):FnOk P w K mg base CX k f fd ps sp':=
 ⟨fun vs H Q E q=>F.len vs H Q E (h _ _ _ _ q),fun A outer s H args us vs Q E hr he hb hv hs=>F.run A outer s H args us vs Q E hr he hb hv (h _ _ _ _ hs)⟩
theorem Env0.make{P:Program}{w:World}{K:PySem.W.Frag}{mg:Str→Option Value}{base:Heap}{A:Around}{outer:List Env}{s:Shared}{H:Hp}(e:Env0 P w K mg base A outer s H)(C:Addr)(us:List Value)(kw:List (Str×Value)):
  Env0 P w K mg base (A.under (.builtin "type.__call__" ⟨.ref C::us,kw⟩)) outer s H:=⟨by first |exact e.frames |(simpa[Around.under,Code.envs,Code.isFrame,pushEnvs]using e.frames),e.mod,e.bs,e.bsz,e.funs,e.frf,e.hok,e.bare,e.tab⟩
theorem Env0.in1{P:Program}{w:World}{K:PySem.W.Frag}{mg:Str→Option Value}{base:Heap}{A:Around}{outer:List Env}{s:Shared}{H:Hp}(e:Env0 P w K mg base A outer s H):
  Env0 P w K mg base A.in1 outer s H:=⟨e.frames,e.mod,e.bs,e.bsz,e.funs,e.frf,e.hok,e.bare,e.tab⟩
section
variable {X:Cx} {pins:List (Addr×Obj)} {σ:St} {H:Hp} {s s':Shared}
theorem Inv.env0(I:Inv X pins σ H s):Env0 X.prog X.w X.K X.mg X.base X.A X.stack s H:=
 ⟨I.ok.frames,I.ok.mod,I.bs,Nat.le_trans I.ok.bsz I.sz,I.stack,I.stkFree,I.hok,I.bare,I.tab⟩
theorem Inv.after{Q:VK}{u:Value}(I:Inv X pins σ H s)(h:CE X.stack X.prog X.w H s Q u s'):EP X pins σ Q u s':=by
 obtain⟨v,H',os,bare,un,hok,r,q⟩:=h
 obtain⟨hh,g,d,t,os'⟩:=s'
 obtain rfl:os'=s.os:=os
 exact⟨v,H',I.call (h':=hh) (g':=g) (d':=d) (t':=t) (ch:=[]) un hok bare (fun b z=>absurd z (by simp)),r,q⟩
end
def wk(sp:Sp)(dvs:List V)(E:XK)(t:TA):TE:=fun σ H Q=>t σ H fun vs H1=>sp (vs++dvs) H1 Q E
def Dv(C:Addr)(sp:Sp)(dvs:List V)(E:XK)(t:TA):TE:=fun σ H Q=>t σ H fun vs H1=>∀x dx,H1 x=none→H1 dx=none→dx≠x→
 sp (.ref x::(vs++dvs)) (upd (upd H1 dx (.own x)) x (.ins C dx [])) (fun v H2=>v=.non∧Q (.ref x) H2) E
def Binds(K:PySem.W.Frag)(fd:FuncData)(ps:List Str)(ds:List Value):Prop:=
 ∀(s:Shared) (us:List Value),K.In s.heap→(us++ds).length=ps.length→BindsTo s fd ⟨us,[]⟩ (ps.zip (us++ds))
theorem Binds.all{K:PySem.W.Frag}{fd:FuncData}{ps:List Str}(h:∀us:List Value,us.length=ps.length→bindArgs fd ⟨us,[]⟩=pure (ps.zip us)):Binds K fd ps []:=fun s us _ hl=>by
 rw[List.append_nil]at hl ⊢
 exact .of_eq (h us hl)
def mX(CX:uW)(X:Cx)(E:XK):Prop:=∀(pins:List (Addr×Obj)) (σ:St) (H:Hp) (s:Shared) (e:Value) (s':Shared),Inv X pins σ H s→CX X.stack H s E e s'→X.xe e s'
section
variable {X:Cx} {CX:uW} {k:Nat} {f C:Addr} {fd:FuncData} {ps:List Str} {sp:Sp} {dvs:List V} {ds:List Value} {E:XK} {x m:Str} {p pos apos:Pos} {e o:Expr} {es:List Expr} {ta:TE} {t:TA}
theorem sj{pins:List (Addr×Obj)}{σ:St}{H:Hp}{s:Shared}{Q:VK}{us:List Value}{vs:List V}(F:FnOk X.prog X.w X.K X.mg X.base CX k f fd ps sp)(hr:Room k X.A)(hb:Binds X.K fd ps ds)(hd:Vals dvs ds)(hx:mX CX X E)
  (I:Inv X pins σ H s) (r:Vals vs us) (h:sp (vs++dvs) H Q E):wpAny (model X.prog X.w) X.A (call (.ref f) us) (EP X pins σ Q) X.xe s:=by
 have r2:Vals (vs++dvs) (us++ds):=r.append hd
 have hl:(us++ds).length=ps.length:=by rw[←r2.length];exact F.len _ _ _ _ h
 refine wpAny_call (codeAny_mono (F.run X.A X.stack s H ⟨us,[]⟩ (us++ds) (vs++dvs) Q E hr I.env0 (hb s us I.kIn hl) r2 h) fun r s' hq=>?_)
 cases r with
 |error e=>exact hx pins σ H s e s' I hq
 |ok fl=>
  cases fl with
  |ret u=>exact I.after hq
  |next=>exact False.elim hq
  |brk=>exact False.elim hq
  |cont=>exact False.elim hq
theorem yY(F:FnOk X.prog X.w X.K X.mg X.base CX k f fd ps sp)(hr:Room k X.A)(hg:Gl X x)(hm:X.mg x=some (.ref f))(hk:PySem.W.keepIn X.K (.ref f)=true)(hb:Binds X.K fd ps ds)(hd:Vals dvs ds)(hx:mX CX X E)
  (ha:PA X (e::es) t) (hdb:(x == ("__debug__":Str))=false:=by decide) (he:starEach (e::es) X.env=(false,eval e X.env)::starEach es X.env:=by rfl) (hpl:(backTo pos (starEach es X.env)).any (·.1)=false:=by rfl):
  PE X (.Call (.Name x p) (e::es) [] pos) (wk sp dvs E t):=by
 intro pins s σ H Q I h
 refine wpAny_Call_Name_kw (iq I hg hm ?_ hdb)
 refine PySem.W.callWith_K (h₀:=X.base) I.ok.mod.kin hk (dF (ha pos pins s σ H _ I h) fun us s1 ⟨vs,H1,I1,r,q⟩=>⟨I1.kIn,?_⟩) he hpl
 exact sj F hr hb hd hx I1 r q
structure Mk (K:PySem.W.Frag) (C f:Addr):Prop where
 makes:PySem.W.makesIn K C=true
 init:PySem.W.findIn K (.ref C) "__init__"=some (some (.ref f))
 fn:PySem.W.isFn K (.ref f)=true
 kp:PySem.W.keepIn K (.ref C)=true
theorem wm{pins:List (Addr×Obj)}{σ:St}{H:Hp}{s:Shared}{Q:VK}{us:List Value}{vs:List V}(M:Mk X.K C f)(F:FnOk X.prog X.w X.K X.mg X.base CX k f fd ps sp)(hr:Room (k+1) X.A)(hb:Binds X.K fd ps ds)(hd:Vals dvs ds)
  (hx:mX CX X E) (I:Inv X pins σ H s) (r:Vals vs us)
  (h:∀x dx,H x=none→H dx=none→dx≠x→sp (.ref x::(vs++dvs)) (upd (upd H dx (.own x)) x (.ins C dx [])) (fun v H2=>v=.non∧Q (.ref x) H2) E):
  wpAny (model X.prog X.w) X.A (call (.ref C) us) (EP X pins σ Q) X.xe s:=by
 have hq:=h (s.heap.objs.size+1) s.heap.objs.size (I.hok.fresh (Nat.le_succ _)) (I.hok.fresh (Nat.le_refl _)) (Nat.ne_of_lt (Nat.lt_succ_self _))
 have I2:=Inv.made (C:=C) I
 have r2:Vals (V.ref (s.heap.objs.size+1)::(vs++dvs)) (Value.ref (s.heap.objs.size+1)::(us++ds)):=.cons rfl (r.append hd)
 have hl:(Value.ref (s.heap.objs.size+1)::us++ds).length=ps.length:=by
  have e:=r2.length
  rw[F.len _ _ _ _ hq]at e
  exact e.symm
 refine wpAny_call (wf (f:=f) I.kIn M.makes M.init (beq_iff_eq.mp M.fn) (codeAny_mono (F.run _ X.stack _ _ ⟨Value.ref (s.heap.objs.size+1)::us,[]⟩ (Value.ref (s.heap.objs.size+1)::(us++ds)) _ _ E (hr.make C us [])
  (I2.env0.make C us []) (hb _ (Value.ref (s.heap.objs.size+1)::us) I2.kIn hl) r2 hq) fun r s' hq'=>?_))
 cases r with
 |error e=>exact hx pins σ _ _ e s' I2 hq'
 |ok fl=>
  cases fl with
  |ret u=>
   obtain⟨v,H',I3,rv,ev,q3⟩:=I2.after hq'
   subst ev
   exact⟨rv,⟨V.ref (s.heap.objs.size+1),H',I3,rfl,q3⟩⟩
  |next=>exact False.elim hq'
  |brk=>exact False.elim hq'
  |cont=>exact False.elim hq'
theorem yZ(M:Mk X.K C f)(F:FnOk X.prog X.w X.K X.mg X.base CX k f fd ps sp)(hr:Room (k+1) X.A)(hg:Gl X x)(hm:X.mg x=some (.ref C))(hb:Binds X.K fd ps ds)(hd:Vals dvs ds)(hx:mX CX X E)
  (ha:PA X (e::es) t) (hdb:(x == ("__debug__":Str))=false:=by decide) (he:starEach (e::es) X.env=(false,eval e X.env)::starEach es X.env:=by rfl) (hpl:(backTo pos (starEach es X.env)).any (·.1)=false:=by rfl):
  PE X (.Call (.Name x p) (e::es) [] pos) (Dv C sp dvs E t):=by
 intro pins s σ H Q I h
 refine wpAny_Call_Name_kw (iq I hg hm ?_ hdb)
 refine PySem.W.callWith_K (h₀:=X.base) I.ok.mod.kin M.kp (dF (ha pos pins s σ H _ I h) fun us s1 ⟨vs,H1,I1,r,q⟩=>⟨I1.kIn,?_⟩) he hpl
 exact wm M F hr hb hd hx I1 r q
end
structure FnScope (N P:List Str) (sc:Scope):Prop where
 kind:sc.kind=.function
 co:sc.isCoroutine=false
 gen:sc.isGenerator=false
 nd:N.Nodup
 pre:N.take P.length=P
 par:∀x∈P,sc.names.lookup x=some .local∨sc.names.lookup x=some .cell
 nofree:∀y∈sc.names,y.2≠ .free
theorem oN{kindOf:Str→Option NameKind}{x:Str}:∀{binds:List (Str×Value)} {m:Str→Option Value},(∀v,(x,v)∉binds)→bindL kindOf binds m x=m x
 |[],_,_=>rfl
 |(n,v)::r,m,h=>by
  unfold bindL
  rw[oN fun w hw=>h w (List.mem_cons_of_mem _ hw)]
  split
  ·have:x≠n:=by rintro rfl;exact h v List.mem_cons_self
   simp[this]
  ·rfl
theorem oO{kindOf:Str→Option NameKind}{x:Str}:∀{binds:List (Str×Value)} {m:Str→Option Value},(∀v,(x,v)∉binds)→bindC kindOf binds m x=m x
 |[],_,_=>rfl
 |(n,v)::r,m,h=>by
  unfold bindC
  rw[oO fun w hw=>h w (List.mem_cons_of_mem _ hw)]
  split
  ·rfl
  ·have:x≠n:=by rintro rfl;exact h v List.mem_cons_self
   simp[this]
theorem oP{kindOf:Str→Option NameKind}{x:Str}{v:Value}:∀{P:List Str} {vs:List Value} {i:Nat} {m:Str→Option Value},P.Nodup→P[i]? =some x→vs[i]? =some v→kindOf x=some .local→
  bindL kindOf (P.zip vs) m x=some v
 |[],_,_,_,_,h,_,_=>by simp at h
 |_::_,[],_,_,_,_,h,_=>by simp at h
 |p::P,w::vs,0,m,nd,h1,h2,hk=>by
  simp at h1 h2;subst h1;subst h2
  show bindL kindOf ((p,w)::P.zip vs) m p=_
  unfold bindL
  rw[oN fun v hv=>(List.nodup_cons.mp nd).1 (List.of_mem_zip hv).1,if_pos hk]
  simp
 |p::P,w::vs,i+1,m,nd,h1,h2,hk=>by
  show bindL kindOf ((p,w)::P.zip vs) m x=_
  unfold bindL
  exact oP (i:=i) (List.nodup_cons.mp nd).2 (by simpa using h1) (by simpa using h2) hk
theorem oQ{kindOf:Str→Option NameKind}{x:Str}{v:Value}:∀{P:List Str} {vs:List Value} {i:Nat} {m:Str→Option Value},P.Nodup→P[i]? =some x→vs[i]? =some v→kindOf x≠some .local→
  bindC kindOf (P.zip vs) m x=some v
 |[],_,_,_,_,h,_,_=>by simp at h
 |_::_,[],_,_,_,_,h,_=>by simp at h
 |p::P,w::vs,0,m,nd,h1,h2,hk=>by
  simp at h1 h2;subst h1;subst h2
  show bindC kindOf ((p,w)::P.zip vs) m p=_
  unfold bindC
  rw[oO fun v hv=>(List.nodup_cons.mp nd).1 (List.of_mem_zip hv).1,if_neg hk]
  simp
 |p::P,w::vs,i+1,m,nd,h1,h2,hk=>by
  show bindC kindOf ((p,w)::P.zip vs) m x=_
  unfold bindC
  exact oQ (i:=i) (List.nodup_cons.mp nd).2 (by simpa using h1) (by simpa using h2) hk
def dz(N:List Str)(vs:List V):St:=vs.map some++List.replicate (N.length - vs.length) none
def iW(CX:uW)(P:Program)(w:World)(K:PySem.W.Frag)(mg:Str→Option Value)(base:Heap)(N:List Str)(qual:Str)(scope:Scope)(f:Addr)(cd:Value)(A:Around)(outer:List Env)(s:Shared)(H:Hp)(E:XK):Cx where
 prog:=P
 w:=w
 K:=K
 mg:=mg
 base:=base
 A:=A.deeper (envOfC qual scope s.heap.objs.size f cd)
 N:=N
 s₀:=s
 H₀:=H
 env:=envOfC qual scope s.heap.objs.size f cd
 outer:=outer
 stack:=envOfC qual scope s.heap.objs.size f cd::outer
 ex:=[]
 calm:=true
 fn:=fun _=>true
 pn:=[]
 xe:=fun e s'=>wpAny (model P w) (A.deeper (envOfC qual scope s.heap.objs.size f cd)) (leaving (envOfC qual scope s.heap.objs.size f cd) e) (fun _ s''=>CX outer H s E e s'') (fun e' s''=>CX outer H s E e' s'') s'
theorem qE{sc:Scope}{n:Nat}{x:Str}(h:sc.names.lookup x=some .cell):∃c,(cellsFrom n sc.names []).lookup x=some c:=by
 have q:=PySem.W.cellsFrom_some sc.names n [] (.inl h)
 exact Option.isSome_iff_exists.mp q
theorem oR{CX:uW}{P:Program}{w:World}{K:PySem.W.Frag}{mg:Str→Option Value}{base:Heap}{N ps:List Str}{qual:Str}{scope:Scope}{f:Addr}{cd:Value}{A:Around}{outer:List Env}{s s1:Shared}{H:Hp}{E:XK}{us:List Value}{vs:List V}
  (S:FnScope N ps scope) (hd:A.handled=none) (e0:Env0 P w K mg base A outer s H) (hl:vs.length=ps.length) (r:Vals vs us)
  (x:InCallC s s.heap.objs.size (bindL (envOfC qual scope s.heap.objs.size f cd).kindOf (ps.zip us) fun _=>none) (cellsFrom (s.heap.objs.size+1) scope.names []) (bindC (envOfC qual scope s.heap.objs.size f cd).kindOf (ps.zip us) fun _=>none) s1):
  Inv (iW CX P w K mg base N qual scope f cd A outer s H E) [] (dz N vs) H s1:=by
 have hpl:ps.length≤N.length:=by have:=congrArg List.length S.pre;rw[List.length_take]at this;omega
 obtain⟨h1,tk,rfl,hk⟩:=x.done
 have noA:∀b:Addr,b∉(iW CX P w K mg base N qual scope f cd A outer s H E).ex:=fun b z=>absurd (show b∈([]:List Addr)from z) (by simp)
 refine⟨⟨e0.mod,S.kind,rfl,rfl,Nat.le_refl _,fun y z c h1 h2=>?_,fun y hy=>?_,fun y c _ h=>?_,fun _=>hd,Around.frames_deeper e0.frames,.inr ⟨rfl,rfl⟩,fun b z=>absurd z (noA b),e0.bs,e0.bsz,fun b _ _=>noA b,fun b z=>absurd z (noA b),e0.funs,e0.frf,e0.tab⟩,
  rfl,e0.bare,Un.kept hk,⟨_,x.toInCall.ns,fun i y v h1 h2 h3=>?_⟩,fun y c h=>⟨_,x.cell y c h⟩,e0.hok.fresh (Nat.le_refl _),fun y c h=>?_,fun p hp=>absurd (show p∈([]:List (Addr×Obj))from hp) (by simp),e0.hok.kept hk,?_⟩
 ·exact name_of_addr x.apart (PySem.mem_of_lookup h1) (PySem.mem_of_lookup h2)
 ·have hy:scope.names.lookup y=some .cell∨scope.names.lookup y=some .free:=hy
  rcases hy with hy |hy
  ·exact qE hy
  ·exact absurd rfl (S.nofree _ (PySem.mem_of_lookup hy))
 ·exact Nat.le_of_lt (x.above y c (PySem.mem_of_lookup h))
 ·have hi:i < vs.length:=by
   unfold dz at h2
   by_cases hi:i < vs.length
   ·exact hi
   ·rw[List.getElem?_append_right (by simpa using hi)]at h2
    rw[List.getElem?_replicate]at h2
    split at h2 <;> cases h2
  have ha:vs[i]? =some v:=by
   unfold dz at h2
   rw[List.getElem?_append_left (by simpa using hi),List.getElem?_map]at h2
   cases e:vs[i]? with
   |none=>rw[e]at h2;cases h2
   |some a=>rw[e]at h2;cases h2;rfl
  obtain⟨u,hu,rv⟩:=r.get ha
  have hp:ps[i]? =some y:=by
   rw[←S.pre,List.getElem?_take_of_lt (by omega)];exact h1
  have ndP:ps.Nodup:=by rw[←S.pre];exact S.nd.sublist (List.take_sublist _ _)
  refine⟨u,rv,?_⟩
  rcases S.par y (List.mem_of_getElem? hp)with k |k
  ·exact .inl ⟨k,oP ndP hp hu k⟩
  ·obtain⟨c,e⟩:=qE (n:=s.heap.objs.size+1) k
   refine .inr ⟨.inl k,c,e,?_⟩
   have q:=x.cell y c e
   rw[oQ ndP hp hu (by show scope.names.lookup y≠_;rw[k];decide)]at q
   exact q
 ·exact e0.hok.fresh (Nat.le_of_lt (x.above y c (PySem.mem_of_lookup h)))
 ·unfold dz
  show _=N.length
  rw[List.length_append,List.length_map,List.length_replicate]
  omega
theorem AK{CX:uW}{P:Program}{w:World}{K:PySem.W.Frag}{mg:Str→Option Value}{base:Heap}{k:Nat}{f:Addr}{name qual:Str}{params:Arguments}{body:List Stmt}{scope:Scope}{dV kV doc pm cdv ct oc:Value}{an od:Option Addr}
  {osl:Array (Option Value)} {N ps:List Str} {sp:Sp} (lk:K.lookup f=some ⟨oc,od,.func (PySem.W.fnOf name qual params body scope dV kV doc pm an cdv ct),osl⟩) (hcd:PySem.W.codeIn K cdv qual=true) (S:FnScope N ps scope)
  (len:∀vs H Q E,sp vs H Q E→vs.length=ps.length)
  (hbody:∀(A:Around) (outer:List Env) (s:Shared) (H:Hp) (vs:List V) (Q:VK) (E:XK),Room k (A.deeper (envOfC qual scope s.heap.objs.size f cdv))→sp vs H Q E→
   ∃t,PSs (iW CX P w K mg base N qual scope f cdv A outer s H E) body t∧t {nx:=fun _ H'=>Q .non H',rt:=Q} (dz N vs) H):
  FnOk P w K mg base CX (k+1) f (PySem.W.fnOf name qual params body scope dV kV doc pm an cdv ct) ps sp:=by
 refine⟨len,fun A outer s H args us vs Q E hr e0 hb r hsp=>?_⟩
 have hl:=len _ _ _ _ hsp
 have KX:K.In s.heap:=e0.mod.kin.keeps fun b o e=>(e0.bs b o e).1
 have lim:s.heap.NoLimit:=e0.mod.nolimit.keeps fun b o e=>(e0.bs b o e).1
 have hkind:∀y∈ps.zip us,scope.names.lookup y.1=some .local∨(scope.names.lookup y.1=some .cell∧((cellsFrom (s.heap.objs.size+1) scope.names []).lookup y.1).isSome=true):=fun⟨n,v⟩ hy=>by
  rcases S.par n (List.of_mem_zip hy).1 with q |q
  ·exact .inl q
  ·exact .inr ⟨q,PySem.W.cellsFrom_some _ _ _ (.inl q)⟩
 refine codeAny_call_function hr.depth (KX _ _ lk) rfl S.co S.gen rfl (PySem.W.codeRec_of KX hcd) (hb _ _ _ _ ?_)
 refine wpAny_newFunctionEnv_cells S.kind hkind fun env he s1 x=>?_
 subst he
 refine⟨lim.keeps x.toInCall.keep,codeAny_func ?_⟩
 obtain⟨t,ht,hq⟩:=hbody A outer s H vs Q E (hr.deeper _) hsp
 have I:Inv (iW CX P w K mg base N qual scope f cdv A outer s H E) [] (dz N vs) H s1:=oR S hr.hd e0 hl r x
 refine wpAny_mono (ht [] s1 (dz N vs) H _ I hq) (fun fl s' hs=>?_) fun e s' hs=>hs
 have fin:∀{σ':St} {H':Hp} {v:V} {u:Value},Inv (iW CX P w K mg base N qual scope f cdv A outer s H E) [] σ' H' s'→RelV v u→Q v H'→CE outer P w H s Q u s':=
  fun {σ' H' v u} J rv q=>⟨v,H',J.os,J.bare,J.base,J.hok,rv,q⟩
 cases fl with
 |ret u=>
  obtain⟨v,σ',H',J,rv,q⟩:=hs
  exact fin J rv q
 |next=>
  obtain⟨σ',H',J,q⟩:=hs
  exact fin (v:=V.non) (u:=Value.none) J rfl q
 |brk=>
  obtain⟨_,_,_,q⟩:=hs
  exact False.elim q
 |cont=>
  obtain⟨_,_,_,q⟩:=hs
  exact False.elim q
end L2
namespace L2
open PySem PySem.Spec PyProof.Rows
section
variable {X:Cx} {x:Str} {p pos:Pos} {e:Expr} {es:List Expr} {t:TA} {id T:String} {r:List V→Hp→VK→Prop}
def BO(r:List V→Hp→VK→Prop)(t:TA):TE:=fun σ H Q=>t σ H fun vs H1=>r vs H1 Q
theorem jy (hc:CallR X (.builtin id) r) (hg:Gl X x) (hm:X.mg x=none) (hv:bootBuiltins x=some (.builtin id)) (ha:PA X (e::es) t) (hn:x≠"__name__":=by decide) (hdb:(x == ("__debug__":Str))=false:=by decide)
  (he:starEach (e::es) X.env=(false,eval e X.env)::starEach es X.env:=by rfl) (hpl:(backTo pos (starEach es X.env)).any (·.1)=false:=by rfl):PE X (.Call (.Name x p) (e::es) [] pos) (BO r t):=by
 intro pins s σ H Q I h
 refine wpAny_Call_Name_kw (lN I hg hm hv ?_ hn hdb)
 exact PyProof.Rows.callWith_builtin1 (dF (ha pos pins s σ H _ I h) fun us s1 ⟨vs,H1,I1,r1,q1⟩=>hc pins s1 σ H1 vs us Q I1 r1 q1) he hpl
theorem jZ (hc:CallR X (.type T) r) (hg:Gl X x) (hm:X.mg x=none) (hv:bootBuiltins x=some (.type T)) (ha:PA X (e::es) t) (hn:x≠"__name__":=by decide) (hdb:(x == ("__debug__":Str))=false:=by decide)
  (he:starEach (e::es) X.env=(false,eval e X.env)::starEach es X.env:=by rfl) (hpl:(backTo pos (starEach es X.env)).any (·.1)=false:=by rfl):PE X (.Call (.Name x p) (e::es) [] pos) (BO r t):=by
 intro pins s σ H Q I h
 refine wpAny_Call_Name_kw (lN I hg hm hv ?_ hn hdb)
 exact PyProof.Rows.callWith_type1 (dF (ha pos pins s σ H _ I h) fun us s1 ⟨vs,H1,I1,r1,q1⟩=>hc pins s1 σ H1 vs us Q I1 r1 q1) he hpl
end
end L2
namespace HT
open PySem PyProof.Rows
section
open PySem.SeqAt
open PySem.AutoSeq1 (wpAny_loadPart')
open PySem.MeetsSeq PySem.MeetsSeq2 PySem.MeetsSeq3
end
section
variable {prog:Program} {w:World} {A:Around} {E:Value→Shared→Prop} {s:Shared}
def qv(n d:Nat):Option Int→Nat
 |none=>d
 |some v=>if v < 0 then (v+(n:Int)).toNat else min v.toNat n
end
end HT
namespace L2
open PySem PySem.Spec PyProof.Rows
abbrev TO:=St→Hp→(Option Int→Hp→Prop)→Prop
def PO(X:Cx)(e:Option Expr)(t:TO):Prop:=
 ∀(pins:List (Addr×Obj)) (s:Shared) (σ:St) (H:Hp) (Q:Option Int→Hp→Prop),Inv X pins σ H s→t σ H Q→
  wpAny (model X.prog X.w) X.A (evalPart e X.env) (fun u s'=>∃o H',Inv X pins σ H' s'∧IsPart u o∧Q o H') X.xe s
def y1:TO:=fun _ H Q=>Q none H
def Dw(t:TE):TO:=fun σ H Q=>t σ H fun x H1=>∃i,x=.int i∧Q (some i) H1
section
variable {X:Cx} {e:Expr} {te:TE} {lo hi:Option Expr} {tl th:TO} {pos p2:Pos}
theorem y2:PO X none y1:=by
 intro pins s σ H Q I h
 rw[evalPart_none]
 exact wpAny_pure ⟨none,H,I,.none,h⟩
theorem y9(h:PE X e te):PO X (some e) (Dw te):=by
 intro pins s σ H Q I hw
 rw[evalPart_some]
 refine dF (h pins s σ H _ I hw) fun u s1 ⟨x,H1,I1,r1,q1⟩=>?_
 obtain⟨i,rfl,q⟩:=q1
 obtain⟨t,rfl⟩:=r1
 exact⟨some i,H1,I1,.int i t,q⟩
def SlR(X:Cx)(r:V→Option Int→Option Int→Hp→VK→Prop):Prop:=
 ∀(pins:List (Addr×Obj)) (s:Shared) (σ:St) (H:Hp) (x:V) (v vl vu:Value) (lo hi:Option Int) (sl:Addr) (Q:VK),Inv X pins σ H s→RelV x v→s.heap.IsSliceOf sl vl vu .none→IsPart vl lo→IsPart vu hi→r x lo hi H Q→
  ∃T id,typeLookup (.type T) "__getitem__"=pure (some (.builtin id))∧s.TypeIs v T∧wpAny (model X.prog X.w) X.A (getItem v (.ref sl)) (EP X pins σ Q) X.xe s
theorem SlR.or{r r':V→Option Int→Option Int→Hp→VK→Prop}(h:SlR X r)(h':SlR X r'):SlR X (fun x lo hi H Q=>r x lo hi H Q∨r' x lo hi H Q):=by
 intro pins s σ H x v vl vu lo hi sl Q I rx hs pl pu q
 rcases q with q |q
 ·exact h pins s σ H x v vl vu lo hi sl Q I rx hs pl pu q
 ·exact h' pins s σ H x v vl vu lo hi sl Q I rx hs pl pu q
def GC(r:V→Option Int→Option Int→Hp→VK→Prop)(te:TE)(tl th:TO):TE:=fun σ H Q=>te σ H fun x H1=>tl σ H1 fun l H2=>th σ H2 fun u H3=>r x l u H3 Q
theorem wn{r:V→Option Int→Option Int→Hp→VK→Prop}(hr:SlR X r)(he:PE X e te)(hl:PO X lo tl)(hu:PO X hi th):PE X (.Subscript e (.Slice lo hi none p2) pos) (GC r te tl th):=by
 intro pins s σ H Q I h
 refine Subscript_ (dF (he pins s σ H _ I h) fun v s1 ⟨x,H1,I1,r1,q1⟩=>?_)
 refine wpAny_Slice (dF (hl pins s1 σ H1 _ I1 q1) fun vl s2 ⟨l,H2,I2,pl,q2⟩=>dF (hu pins s2 σ H2 _ I2 q2) fun vu s3 ⟨u,H3,I3,pu,q3⟩=>?_)
 rw[evalPart_none]
 refine wpAny_pure ?_
 have I4:Inv X pins σ H3 {s3 with heap:=s3.heap.push {cls:=.type "slice",data:=.fields #[vl,vu,.none]}}:=I3.kept (t':=s3.toks) fun b ob q=>Heap.get?_push_of_some _ q
 obtain⟨T,id,hT,ht,hg⟩:=hr pins {s3 with heap:=s3.heap.push {cls:=.type "slice",data:=.fields #[vl,vu,.none]}} σ H3 x v vl vu l u s3.heap.objs.size Q I4 r1 (Heap.IsSliceOf.new ..) pl pu q3
 show wpAny (model X.prog X.w) X.A (subscriptTail e (.Slice lo hi none p2) v (.ref s3.heap.objs.size)) (EP X pins σ Q) X.xe {s3 with heap:=s3.heap.push {cls:=.type "slice",data:=.fields #[vl,vu,.none]}}
 exact tail_any (ops:=[.ref s3.heap.objs.size,v]) ht hT hg (by with_unfolding_all rfl)
def uX(xs:List V)(lo hi:Option Int):List V:=(xs.drop (HT.qv xs.length 0 lo)).take (HT.qv xs.length xs.length hi - HT.qv xs.length 0 lo)
theorem qF(xs:List V)(lo hi:Option Int):(uX xs lo hi).length≤xs.length:=by
 unfold uX
 rw[List.length_take,List.length_drop]
 omega
end
end L2
namespace L2
open PySem PySem.Spec PyProof.Rows
def Dx(n:Nat)(i:Int):Option Nat:=if 0≤i then (if i < n then some i.toNat else none)else if -(n:Int)≤i then some (i+n).toNat else none
def atI{α:Type}(xs:List α)(i:Int):Option α:=(Dx xs.length i).bind fun j=>xs[j]?
theorem y_{n:Nat}{i:Int}{j:Nat}(h:Dx n i=some j):seqIndex? i n=some j∧j < n∧ -(n:Int)≤i∧i < n:=by
 unfold Dx at h
 by_cases h0:0≤i
 ·rw[if_pos h0]at h
  by_cases h1:i < n
  ·rw[if_pos h1]at h
   have e:i.toNat=j:=Option.some.inj h
   exact⟨by rw[seqIndex_of h0 h1,e],by omega,by omega,h1⟩
  ·rw[if_neg h1]at h;cases h
 ·rw[if_neg h0]at h
  by_cases h1: -(n:Int)≤i
  ·rw[if_pos h1]at h
   have e:(i+n).toNat=j:=Option.some.inj h
   exact⟨by rw[seqIndex_neg (by omega) h1,e],by omega,h1,by omega⟩
  ·rw[if_neg h1]at h;cases h
theorem pE{α:Type}{xs:List α}{i:Int}{v:α}(h:atI xs i=some v):∃j,seqIndex? i xs.length=some j∧xs[j]? =some v∧j < xs.length∧ -(xs.length:Int)≤i∧i < xs.length:=by
 unfold atI at h
 cases e:Dx xs.length i with
 |none=>rw[e]at h;cases h
 |some j=>
  rw[e]at h
  obtain⟨h1,h2,h3,h4⟩:=y_ e
  exact⟨j,h1,h,h2,h3,h4⟩
def tT(b:Expr):Prop:=∀o i,subscripted b false o i=operate [o,i] (getItem o i)
def IxR(X:Cx)(r:R2):Prop:=
 ∀(value slice:Expr) (pins:List (Addr×Obj)) (s:Shared) (σ:St) (H:Hp) (x y:V) (v u:Value) (Q:VK),Inv X pins σ H s→RelV x v→RelV y u→r x y H Q→
  subscripted slice false v u=operate [v,u] (getItem v u)→wpAny (model X.prog X.w) X.A (subscriptTail value slice v u) (EP X pins σ Q) X.xe s
def Fv(X:Cx)(id:String)(r:V→List V→Hp→VK→Prop):Prop:=
 ∀(pins:List (Addr×Obj)) (s:Shared) (σ:St) (H:Hp) (x:V) (xs:List V) (v:Value) (us:List Value) (Q:VK),Inv X pins σ H s→RelV x v→Vals xs us→r x xs H Q→
  wpAny (model X.prog X.w) X.A (call (.builtin id) (v::us)) (EP X pins σ Q) X.xe s
section
variable {X:Cx} {a b:Expr} {ta tb:TE} {pos:Pos}
theorem IxR.or{r r':R2}(h:IxR X r)(h':IxR X r'):IxR X (fun x y H Q=>r x y H Q∨r' x y H Q):=by
 intro value slice pins s σ H x y v u Q I rx ry q hs
 rcases q with q |q
 ·exact h value slice pins s σ H x y v u Q I rx ry q hs
 ·exact h' value slice pins s σ H x y v u Q I rx ry q hs
theorem Dy{r:R2}(hr:IxR X r)(ha:PE X a ta)(hb:PE X b tb)(hs:tT b):PE X (.Subscript a b pos) (AI r ta tb):=by
 intro pins s σ H Q I h
 exact Subscript_ (BG ha hb I h fun v u s2 x y H2 I2 rx ry q=>hr a b pins s2 σ H2 x y v u Q I2 rx ry q (hs _ _))
def Dz(K:PySem.W.Frag):R2:=fun x y H Q=>∃p xs i v,x=.ref p∧y=.int i∧SqL K H p xs∧atI xs i=some v∧Q v H
def DA(K:PySem.W.Frag):R2:=fun x y H Q=>∃p xs i v,x=.ref p∧y=.int i∧SqT K H p xs∧atI xs i=some v∧Q v H
def DB:R2:=fun x y H Q=>∃z i c,x=.str z∧y=.int i∧z.length≤sizeLine∧atI z.cps.toList i=some c∧Q (.str ⟨#[c]⟩) H
theorem ix_list:IxR X (Dz X.K):=by
 intro value slice pins s σ H x y v u Q I rx ry h hs
 obtain⟨p,xs,i,z,rfl,rfl,hq,he,q⟩:=h
 cases rx
 obtain⟨t,rfl⟩:=ry
 obtain⟨its,r,pl,hz⟩:=I.list hq
 obtain⟨j,h1,h2,h3,h4,h5⟩:=pE he
 obtain⟨w,ew,rw'⟩:=r.get h2
 have hl:=r.length
 have hn:=lO
 have fin:EP X pins σ Q w s:=⟨z,H,I,rw',q⟩
 by_cases h0:0≤i
 ·have hj:i.toNat=j:=by
   rw[seqIndex_of h0 h5]at h1
   exact Option.some.inj h1
  exact item_listR pl.isList h0 (by omega) (by rw[hj];simpa using ew) fin hs
 ·have hj:(i+(its.toArray.size:Int)).toNat=j:=by
   rw[seqIndex_neg (by omega) h4]at h1
   rw[List.size_toArray,←hl]
   exact Option.some.inj h1
  exact subscriptTail_builtinR (x:=w) pl.isList.typeIs slot_list_getitem.lookup
   (wpAny_getItem_list_neg (Q:=fun r s'=>r=w∧EP X pins σ Q r s') pl.isList (by omega) (by rw[List.size_toArray] <;> omega) (by omega) (by rw[hj];simpa using ew) ⟨rfl,fin⟩) hs
theorem ix_tup:IxR X (DA X.K):=by
 intro value slice pins s σ H x y v u Q I rx ry h hs
 obtain⟨p,xs,i,z,rfl,rfl,hq,he,q⟩:=h
 cases rx
 obtain⟨t,rfl⟩:=ry
 obtain⟨its,r,pl,hz⟩:=I.tuple hq
 obtain⟨j,h1,h2,h3,h4,h5⟩:=pE he
 obtain⟨w,ew,rw'⟩:=r.get h2
 have hl:=r.length
 have hn:=lO
 have fin:EP X pins σ Q w s:=⟨z,H,I,rw',q⟩
 exact subscriptTail_builtinR (x:=w) pl.typeIs slot_tuple_getitem.lookup
  (getItem_tuple (j:=j) (Q:=fun r s'=>r=w∧EP X pins σ Q r s') pl (by omega) (by omega) (by rw[List.size_toArray,←hl];exact h1) (by simpa using ew) ⟨rfl,fin⟩) hs
theorem BP:IxR X DB:=by
 intro value slice pins s σ H x y v u Q I rx ry h hs
 obtain⟨z,i,c,rfl,rfl,hz,he,q⟩:=h
 obtain⟨t,rfl⟩:=rx
 obtain⟨t',rfl⟩:=ry
 obtain⟨j,h1,h2,h3,h4,h5⟩:=pE he
 have hl:z.cps.toList.length=z.length:=by simp[Str.length]
 rw[hl]at h1 h4 h5
 have hn:=lO
 exact tail_any (typeIs_str s z t) slot_str_getitem.lookup (getItem_str (c:=c) (by
  have e1:decide (i < -(2 ^ 63:Int))=false:=decide_eq_false (by omega)
  have e2:decide (i≥2 ^ 63)=false:=decide_eq_false (by omega)
  rw[e1,e2,Bool.or_false]) (by rw[h1];simpa using h2) ⟨.str ⟨#[c]⟩,H,I.tok _,⟨_,rfl⟩,q⟩) hs
def Gk(K:PySem.W.Frag):R2:=fun x y H Q=>Dz K x y H Q∨DA K x y H Q∨DB x y H Q
theorem BQ:IxR X (Gk X.K):=ix_list.or (ix_tup.or BP)
theorem Inv.lst{pins:List (Addr×Obj)}{σ:St}{H:Hp}{s:Shared}{p:Addr}{xs:List V}(I:Inv X pins σ H s)(h:H p=some (.lst xs)):
  ∃(its:List Value) (n:Nat),Vals xs its∧s.heap.get? p=some {cls:=.type "list",data:=.seq its.toArray n}∧xs.length≤sizeLine:=by
 obtain⟨z,its,n,r,e⟩:=I.hok p _ h
 exact⟨its,n,r,e,z⟩
theorem pF(lo hi:Option Int)(n:Nat):(sliceBounds lo hi none n).1=((HT.qv n 0 lo:Nat):Int)∧(sliceBounds lo hi none n).2.1=((HT.qv n n hi:Nat):Int)∧(sliceBounds lo hi none n).2.2=1:=by
 refine⟨?_,?_,rfl⟩
 ·cases lo with
  |none=>simp[sliceBounds,HT.qv]
  |some i=>
   simp only[sliceBounds,HT.qv,Option.getD_none,show(1:Int) > 0 by decide,if_true]
   by_cases h:i < 0
   ·simp only[h,if_true] <;> omega
   ·simp only[h,if_false] <;> omega
 ·cases hi with
  |none=>simp[sliceBounds,HT.qv]
  |some i=>
   simp only[sliceBounds,HT.qv,Option.getD_none,show(1:Int) > 0 by decide,if_true]
   by_cases h:i < 0
   ·simp only[h,if_true] <;> omega
   ·simp only[h,if_false] <;> omega
theorem nU(its:List Value)(lo hi:Option Int):slicePick its.toArray lo hi none=((its.drop (HT.qv its.length 0 lo)).take (HT.qv its.length its.length hi - HT.qv its.length 0 lo)).toArray:=by
 obtain⟨h1,h2,h3⟩:=pF lo hi its.toArray.size
 unfold slicePick
 rw[h1,h2,h3]
 simp only[sliceRange_one,pick_run,List.size_toArray] <;> rfl
def Fw(K:PySem.W.Frag):V→Option Int→Option Int→Hp→VK→Prop:=fun x lo hi H Q=>∃a xs,x=.ref a∧SqL K H a xs∧∀p,H p=none→Q (.ref p) (upd H p (.lst (uX xs lo hi)))
theorem zb:SlR X (Fw X.K):=by
 intro pins s σ H x v vl vu lo hi sl Q I rx hs pl pu h
 obtain⟨a,xs,rfl,hx,q⟩:=h
 cases rx
 obtain⟨its,r,ht,hz⟩:=I.list hx
 have hlen:=r.length
 refine⟨"list",_,slot_list_getitem.lookup,ht.isList.typeIs,?_⟩
 refine wpAny_getItem_list_slice ht.isList hs pl pu .none (by simp) ?_ (by rw[List.size_toArray] <;> omega)
 rw[nU,←hlen]
 refine⟨.ref s.heap.objs.size,_,I.laid (t':=s.toks) (o:=.lst (uX xs lo hi)) (fun b ob q=>Heap.get?_push_of_some _ q) (Nat.le_refl _) ?_,rfl,q _ (I.hok.fresh (Nat.le_refl _))⟩
 exact⟨Nat.le_trans (qF xs lo hi) hz,_,0,(r.drop (HT.qv xs.length 0 lo)).take (HT.qv xs.length xs.length hi - HT.qv xs.length 0 lo),Heap.get?_push_size _ rfl⟩
def iK:V→Bool
 |.non=>true
 |.bl _=>true
 |.int _=>true
 |.str _=>true
 |_=>false
def wo:V→V→Bool
 |.non,.non=>true
 |.bl a,.bl b=>a == b
 |.bl a,.int b=>(if a then 1 else 0) == b
 |.int a,.bl b=>a == (if b then 1 else 0)
 |.int a,.int b=>a == b
 |.str a,.str b=>a == b
 |_,_=>false
theorem BR{A:Around}{s:Shared}{y x:V}{u v:Value}(ry:RelV y u)(rx:RelV x v)(fy:iK y=true)(fx:iK x=true):SeqAt.EqAt A s u v (wo y x):=by
 cases y with
 |non=>
  cases ry
  cases x with
  |non=>cases rx;exact SeqAt.EqAt.same _
  |bl b=>cases rx;exact SeqAt.EqAt.none_bool b
  |int b=>obtain⟨t,rfl⟩:=rx;exact SeqAt.EqAt.none_int b t
  |str b=>obtain⟨t,rfl⟩:=rx;exact SeqAt.EqAt.none_str b t
  |_=>exact absurd (show false=true from fx) Bool.false_ne_true
 |bl a=>
  cases ry
  cases x with
  |non=>cases rx;exact SeqAt.EqAt.bool_none a
  |bl b=>cases rx;exact SeqAt.EqAt.bool_bool a b
  |int b=>obtain⟨t,rfl⟩:=rx;exact SeqAt.EqAt.bool_int a b t
  |str b=>obtain⟨t,rfl⟩:=rx;exact SeqAt.EqAt.bool_str a b t
  |_=>exact absurd (show false=true from fx) Bool.false_ne_true
 |int a=>
  obtain⟨t',rfl⟩:=ry
  cases x with
  |non=>cases rx;exact SeqAt.EqAt.int_none a t'
  |bl b=>cases rx;exact SeqAt.EqAt.int_bool a t' b
  |int b=>obtain⟨t,rfl⟩:=rx;exact SeqAt.EqAt.int_int a t' b t
  |str b=>obtain⟨t,rfl⟩:=rx;exact SeqAt.EqAt.int_str a t' b t
  |_=>exact absurd (show false=true from fx) Bool.false_ne_true
 |str a=>
  obtain⟨t',rfl⟩:=ry
  cases x with
  |non=>cases rx;exact SeqAt.EqAt.str_none a t'
  |bl b=>cases rx;exact SeqAt.EqAt.str_bool a t' b
  |int b=>obtain⟨t,rfl⟩:=rx;exact SeqAt.EqAt.str_int a t' b t
  |str b=>obtain⟨t,rfl⟩:=rx;exact SeqAt.EqAt.str_str a t' b t
  |_=>exact absurd (show false=true from fx) Bool.false_ne_true
 |_=>exact absurd (show false=true from fy) Bool.false_ne_true
def sk(x:V)(u:Value):Bool:=match u with
 |.none=>wo .non x
 |.bool b=>wo (.bl b) x
 |.int i _=>wo (.int i) x
 |.str z _=>wo (.str z) x
 |_=>false
theorem wq{x y:V}{u:Value}(r:RelV y u)(f:iK y=true):sk x u=wo y x:=by
 cases y with
 |non=>cases r;rfl
 |bl b=>cases r;rfl
 |int i=>obtain⟨t,rfl⟩:=r;rfl
 |str z=>obtain⟨t,rfl⟩:=r;rfl
 |_=>exact absurd (show false=true from f) Bool.false_ne_true
theorem kS{x:V}:∀{xs:List V} {us:List Value},Vals xs us→xs.all iK=true→us.any (sk x)=xs.any fun y=>wo y x
 |_,_,.nil,_=>rfl
 |y::xs,u::us,.cons r t,f=>by
  rw[List.all_cons,Bool.and_eq_true]at f
  rw[List.any_cons,List.any_cons,wq r f.1,kS t f.2]
theorem jz{A:Around}{s:Shared}{x:V}{v:Value}(rx:RelV x v)(fx:iK x=true):∀{xs:List V} {us:List Value},Vals xs us→xs.all iK=true→∀u∈us,SeqAt.EqAt A s u v (sk x u)
 |_,_,.nil,_=>fun u hu=>by cases hu
 |y::xs,u::us,.cons r t,f=>fun u' hu=>by
  rw[List.all_cons,Bool.and_eq_true]at f
  rcases List.mem_cons.mp hu with rfl |hu
  ·rw[wq r f.1];exact BR r rx f.1 fx
  ·exact jz rx fx t f.2 u' hu
def AL(x:V)(xs:List V):Bool:=xs.any fun y=>wo y x
def EQ(K:PySem.W.Frag)(neg:Bool):R2:=fun x y H Q=>∃p xs,y=.ref p∧(SqL K H p xs∨SqT K H p xs)∧iK x=true∧xs.all iK=true∧Q (.bl (if neg then !AL x xs else AL x xs)) H
theorem oS:OpR X (compareOp .In) (EQ X.K false):=by
 intro pins s σ H x y v u Q I rx ry h
 obtain⟨p,xs,rfl,hq,fx,fs,q⟩:=h
 cases ry
 rcases hq with hq |hq
 ·obtain⟨its,r,pl,hz⟩:=I.list hq
  refine SeqAt.in_listAt (sk x) pl.isList (fun w hw=>jz rx fx r fs w (by simpa using hw)) ⟨.bl _,H,I,rfl,?_⟩
  rw[show its.toArray.any (sk x)=its.any (sk x) by simp,kS r fs]
  exact q
 ·obtain⟨its,r,pl,hz⟩:=I.tuple hq
  refine SeqAt.in_tupleAt (sk x) pl (fun w hw=>jz rx fx r fs w (by simpa using hw)) ⟨.bl _,H,I,rfl,?_⟩
  rw[show its.toArray.any (sk x)=its.any (sk x) by simp,kS r fs]
  exact q
theorem pG:OpR X (compareOp .NotIn) (EQ X.K true):=by
 intro pins s σ H x y v u Q I rx ry h
 obtain⟨p,xs,rfl,hq,fx,fs,q⟩:=h
 cases ry
 rcases hq with hq |hq
 ·obtain⟨its,r,pl,hz⟩:=I.list hq
  refine SeqAt.notIn_listAt (sk x) pl.isList (fun w hw=>jz rx fx r fs w (by simpa using hw)) ⟨.bl _,H,I,rfl,?_⟩
  rw[show its.toArray.any (sk x)=its.any (sk x) by simp,kS r fs]
  exact q
 ·obtain⟨its,r,pl,hz⟩:=I.tuple hq
  refine SeqAt.notIn_tupleAt (sk x) pl (fun w hw=>jz rx fx r fs w (by simpa using hw)) ⟨.bl _,H,I,rfl,?_⟩
  rw[show its.toArray.any (sk x)=its.any (sk x) by simp,kS r fs]
  exact q
theorem pH:OpR X (compareOp .NotIn) (fun x y H Q=>∃i j,x=.str i∧y=.str j∧Q (.bl (!(!(Builtin.Str.occurrences j i 0 j.length 1).isEmpty))) H):=by
 intro pins s σ H x y v u Q I rx ry h
 obtain⟨i,j,rfl,rfl,q⟩:=h
 obtain⟨t,rfl⟩:=rx
 obtain⟨t',rfl⟩:=ry
 exact notIn_str ⟨.bl _,H,I,rfl,q⟩
theorem pI:CallR X (.builtin "len") (fun xs H Q=>∃p ys,xs=[.ref p]∧(SqL X.K H p ys∨SqT X.K H p ys)∧Q (.int ys.length) H):=by
 intro pins s σ H xs us Q I r h
 obtain⟨p,ys,rfl,hq,q⟩:=h
 obtain⟨u,rfl,rx⟩:=qB r
 cases rx
 have hn:=lO
 rcases hq with hq |hq
 ·obtain⟨its,r',pl,hz⟩:=I.list hq
  have hlen:=r'.length
  exact Calls.call_len_list pl.isList (by simp only[List.size_toArray] <;> omega) ⟨.int ys.length,H,I.tok _,⟨s.toks+1,by rw[List.size_toArray,hlen]⟩,q⟩
 ·obtain⟨its,r',pl,hz⟩:=I.tuple hq
  have hlen:=r'.length
  exact len_tuple pl (by simp only[List.size_toArray] <;> omega) ⟨.int ys.length,H,I.tok _,⟨s.toks+1,by rw[List.size_toArray,hlen]⟩,q⟩
theorem pJ:CallR X (.builtin "len") (fun xs H Q=>∃z,xs=[.str z]∧z.length≤sizeLine∧Q (.int z.length) H):=by
 intro pins s σ H xs us Q I r h
 obtain⟨z,rfl,hz,q⟩:=h
 obtain⟨u,rfl,t,rfl⟩:=qB r
 have hn:=lO
 exact len_str (by omega) ⟨.int z.length,H,I.tok _,⟨_,rfl⟩,q⟩
theorem CallR.or{f:Value}{r r':List V→Hp→VK→Prop}(h:CallR X f r)(h':CallR X f r'):CallR X f (fun xs H Q=>r xs H Q∨r' xs H Q):=by
 intro pins s σ H xs us Q I rs q
 rcases q with q |q
 ·exact h pins s σ H xs us Q I rs q
 ·exact h' pins s σ H xs us Q I rs q
theorem pK:CallR X (.type "list") (fun xs H Q=>∃p ys,xs=[.ref p]∧(SqL X.K H p ys∨SqT X.K H p ys)∧∀l,H l=none→Q (.ref l) (upd H l (.lst ys))):=by
 intro pins s σ H xs us Q I r h
 obtain⟨p,ys,rfl,hq,q⟩:=h
 obtain⟨u,rfl,rx⟩:=qB r
 cases rx
 have fin:∀(its:List Value),Vals ys its→ys.length≤sizeLine→∀(h':Heap) (c':Nat),(∀b o',s.heap.get? b=some o'→h'.get? b=some o')→
   h'.get? s.heap.objs.size=some {cls:=.type "list",dict:=none,data:=.seq its.toArray c',slots:=#[]}→EP X pins σ Q (.ref s.heap.objs.size) {s with heap:=h'}:=fun its r' hz h' c' kp e=>
  ⟨.ref s.heap.objs.size,_,I.laid (t':=s.toks) kp (Nat.le_refl _) (show ObjOk X.prog X.w _ h' _ (.lst ys)from⟨hz,its,c',r',e⟩),rfl,q _ (I.hok.fresh (Nat.le_refl _))⟩
 rcases hq with hq |hq
 ·obtain⟨its,r',pl,hz⟩:=I.list hq
  have hlen:=r'.length
  obtain⟨o,ho,hc,n,hd⟩:=pl.isList
  exact call_list_seq p (.inl rfl) ho hc hd (fun h' c' kp e=>fin its r' hz h' c' kp e) (by simp only[List.size_toArray] <;> omega)
 ·obtain⟨its,r',pl,hz⟩:=I.tuple hq
  have hlen:=r'.length
  obtain⟨o,ho,hc,n,hd⟩:=pl
  exact call_list_seq p (.inr rfl) ho hc hd (fun h' c' kp e=>fin its r' hz h' c' kp e) (by simp only[List.size_toArray] <;> omega)
theorem nV:CallR X (.type "tuple") (fun xs H Q=>∃p ys,xs=[.ref p]∧((SqL X.K H p ys∧∀l,H l=none→Q (.ref l) (upd H l (.tup ys)))∨(SqT X.K H p ys∧Q (.ref p) H))):=by
 intro pins s σ H xs us Q I r h
 obtain⟨p,ys,rfl,h⟩:=h
 obtain⟨u,rfl,rx⟩:=qB r
 cases rx
 rcases h with⟨hq,q⟩ |⟨hq,q⟩
 ·obtain⟨its,r',pl,hz⟩:=I.list hq
  have hlen:=r'.length
  refine call_tuple_list pl.isList (fun h' kp=>?_) (by simp only[List.size_toArray] <;> omega)
  have I1:Inv X pins σ H {s with heap:=h'}:=I.kept (t':=s.toks) kp
  have I2:Inv X pins σ (upd H h'.objs.size (.tup ys)) {s with heap:=h'.push {cls:=.type "tuple",data:=.seq its.toArray}}:=
   I1.laid (t':=s.toks) (fun b o e=>Heap.get?_push_of_some _ e) (Nat.le_refl _) (show ObjOk X.prog X.w _ _ _ (.tup ys)from⟨hz,its,r',IsTup.new _ _⟩)
  exact⟨.ref h'.objs.size,_,I2,rfl,q _ (I1.hok.fresh (Nat.le_refl _))⟩
 ·obtain⟨its,r',pl,hz⟩:=I.tuple hq
  exact call_tuple_same pl ⟨.ref p,H,I,rfl,q⟩
def Gm(K:PySem.W.Frag)(T:String)(x:V)(H:Hp):Prop:=match x with
 |.str _=>T="str"
 |.int _=>T="int"
 |.ref p=>(T="list"∧∃xs,SqL K H p xs)∨(T="tuple"∧∃o,K.lookup p=some o∧o.cls=.type "tuple"∧o.dict=none)∨
   (T="dict"∧((∃kvs,H p=some (.dK kvs))∨∃kvs,H p=some (.dT kvs)))∨(T="set"∧∃S n,H p=some (.set S n))
 |_=>False
theorem BS{pins:List (Addr×Obj)}{σ:St}{H:Hp}{s:Shared}{T:String}{x:V}{v:Value}(I:Inv X pins σ H s)(r:RelV x v)(ty:Gm X.K T x H):
  s.TypeIs v T∧∀a,v=.ref a→∃ob,s.heap.get? a=some ob∧ob.dict=none:=by
 cases x with
 |str z=>
  obtain⟨t,rfl⟩:=r
  cases(show T="str" from ty)
  exact⟨typeIs_str s z t,fun _ e=>nomatch e⟩
 |int i=>
  obtain⟨t,rfl⟩:=r
  cases(show T="int" from ty)
  exact⟨typeIs_int s i t,fun _ e=>nomatch e⟩
 |ref p=>
  cases r
  rcases ty with⟨rfl,xs,hq⟩ |⟨rfl,o,hk,hc,hd⟩ |⟨rfl,hk⟩ |⟨rfl,S,n,hk⟩
  ·obtain⟨its,_,pl,_⟩:=I.list hq
   refine⟨pl.isList.typeIs,fun a e=>?_⟩
   cases e
   obtain⟨o,n,e,c,hd,_⟩:=pl
   exact⟨o,e,hd⟩
  ·refine⟨⟨o,I.kIn p o hk,hc⟩,fun a e=>?_⟩
   cases e
   exact⟨o,I.kIn _ o hk,hd⟩
  ·have z:∃o,s.heap.get? p=some o∧o.ExactDict:=by
    rcases hk with⟨kvs,hk⟩ |⟨kvs,hk⟩
    ·obtain⟨_,_,_,_,o,_,_,e,ex,_⟩:=I.hok p _ hk
     exact⟨o,e,ex⟩
    ·obtain⟨_,_,_,_,o,_,_,e,ex,_⟩:=I.hok p _ hk
     exact⟨o,e,ex⟩
   obtain⟨o,e,ex⟩:=z
   refine⟨⟨o,e,ex.1⟩,fun a e2=>?_⟩
   cases e2
   exact⟨o,e,ex.2.1⟩
  ·obtain⟨o,_,_,_,e,ex,_⟩:=I.hok p _ hk
   refine⟨⟨o,e,ex.1⟩,fun a e2=>?_⟩
   cases e2
   exact⟨o,e,ex.2.1⟩
 |_=>exact False.elim ty
def GD(K:PySem.W.Frag)(T:String)(r:V→List V→Hp→VK→Prop)(to:TE)(t:TA):TE:=fun σ H Q=>to σ H fun x H1=>Gm K T x H1∧t σ H1 fun xs H2=>r x xs H2 Q
variable {o e:Expr} {es:List Expr} {to:TE} {t:TA} {name:Str} {apos cpos:Pos} {T id:String} {r:V→List V→Hp→VK→Prop}
theorem tU (pa:PlainAttrs T) (slot:Slot T name id) (hty:typeOf (.builtin id)=pure (.type "method_descriptor")) (hm:Fv X id r) (ho:PE X o to) (ha:PA X (e::es) t)
  (hbase:attributeBase o name X.env (eval o X.env)=eval o X.env:=by rfl)
  (hfew:((backTo cpos (starEach (e::es) X.env)).all (fun x=> !x.1)&&(backToKw cpos (keywordEach [] X.env)).all (fun x=>x.1.isSome)
   &&decide ((e::es).length+([]:List Keyword).length+(if ([]:List Keyword).isEmpty then 0 else 1) < 30))=true:=by rfl)
  (hline:(apos.endLine == cpos.line)=true:=by rfl) (hs:starEach (e::es) X.env=(false,eval e X.env)::starEach es X.env:=by rfl) (hplain:(backTo cpos (starEach es X.env)).any (·.1)=false:=by rfl):
  PE X (.Call (.Attribute o name apos) (e::es) [] cpos) (GD X.K T r to t):=by
 intro pins s σ H Q I h
 refine wpAny_Call_method_late hbase hfew hline rfl (dF (ho pins s σ H _ I h) fun v s1 ⟨x,H1,I1,r1,ty,q1⟩=>?_)
 obtain⟨h1,h2⟩:=BS I1 r1 ty
 refine⟨T,id,pa,slot,hty,h1,h2,?_⟩
 have hA:=ha cpos pins s1 σ H1 _ I1 q1
 rw[hs]at hA ⊢
 refine Calls.callWith_builtin (by show(false||(backTo cpos (starEach es X.env)).any (·.1))=false;rw[hplain] <;> rfl) (Calls.evalArgs_plain ?_)
 exact dF hA fun us s2 ⟨vs,H2,I2,r2,q2⟩=>hm pins s2 σ H2 x vs v us Q I2 r1 r2 q2
end
end L2
namespace L2
open PySem PySem.Spec PyProof.Rows
def Gn(X:Cx)(id:String)(r:V→List V→Hp→VK→Prop):Prop:=
 ∀(pins:List (Addr×Obj)) (s:Shared) (σ:St) (H:Hp) (x:V) (xs:List V) (v:Value) (us:List Value) (Q:VK),Inv X pins σ H s→RelV x v→Vals xs us→r x xs H Q→
  wpAny (model X.prog X.w) X.A (call (.builtin id) (v::us)) (EP X pins σ Q) X.xe s
theorem Vals.one{x:V}{us:List Value}(h:Vals [x] us):∃u,us=[u]∧RelV x u:=by
 cases h with
 |cons r t=>cases t;exact⟨_,rfl,r⟩
theorem Vals.two{x y:V}{us:List Value}(h:Vals [x,y] us):∃u v,us=[u,v]∧RelV x u∧RelV y v:=by
 cases h with
 |cons r t=>
  obtain⟨v,rfl,q⟩:=Vals.one t
  exact⟨_,_,rfl,r,q⟩
theorem Vals.reverse{xs:List V}{us:List Value}(h:Vals xs us):Vals xs.reverse us.reverse:=by
 induction h with
 |nil=>exact .nil
 |cons r t ih=>rw[List.reverse_cons,List.reverse_cons];exact Vals.append ih (.cons r .nil)
theorem Vals.rep{xs:List V}{us:List Value}(h:Vals xs us):∀k:Nat,Vals (List.replicate k xs).flatten (List.replicate k us).flatten
 | 0=>.nil
 |k+1=>by
  rw[List.replicate_succ,List.replicate_succ,List.flatten_cons,List.flatten_cons]
  exact Vals.append h (Vals.rep h k)
section
variable {X:Cx} {pins:List (Addr×Obj)} {σ:St} {H:Hp} {s:Shared} {l b:Addr} {xs ys zs:List V}
theorem Inv.lset{its its':List Value}{n:Nat}{f:Array Value→Array Value}{t':Nat}(I:Inv X pins σ H s)(hH:H l=some (.lst xs))
  (e:s.heap.get? l=some {cls:=.type "list",data:=.seq its.toArray n}) (hf:f its.toArray=its'.toArray) (hv:Vals ys its') (hz:ys.length≤sizeLine):
  Inv X pins σ (upd H l (.lst ys)) {s with heap:=s.heap.update l (Obj.mapSeq f),toks:=t'}:=by
 have q:=PySem.IsL.update e f
 rw[hf]at q
 refine I.write (x:=l) (e:=l) (by rw[hH];exact trivial) (.inl rfl) (fun b' u hb hu=>(Heap.get?_update_other s.heap (Obj.mapSeq f) (Ne.symm hb)).trans hu) ⟨_,q⟩ ?_
 exact⟨hz,its',_,hv,q⟩
theorem Inv.lnew{its:List Value}{t':Nat}(I:Inv X pins σ H s)(hv:Vals ys its)(hz:ys.length≤sizeLine):
  Inv X pins σ (upd H s.heap.objs.size (.lst ys)) {s with heap:=s.heap.push {cls:=.type "list",data:=.seq its.toArray},toks:=t'}:=
 I.laid (fun _ _ q=>Heap.get?_push_of_some _ q) (Nat.le_refl _) ⟨hz,its,0,hv,Heap.get?_push_size _ rfl⟩
theorem Inv.fresh(I:Inv X pins σ H s):H s.heap.objs.size=none:=I.hok.fresh (Nat.le_refl _)
theorem Inv.lstM(I:Inv X pins σ H s)(hH:H l=some (.lst xs)):xs.length≤sizeLine∧∃(its:List Value) (n:Nat),Vals xs its∧xs.length=its.length∧s.heap.get? l=some {cls:=.type "list",data:=.seq its.toArray n}:=by
 obtain⟨z,its,n,r,e⟩:=I.hok l _ hH
 exact⟨z,its,n,r,r.length,e⟩
theorem wr{n:Nat}(h:n≤sizeLine):Builtin.List.listTooLong n=false:=by
 unfold Builtin.List.listTooLong
 exact decide_eq_false (by omega)
end
section
variable {X:Cx}
def zc:V→List V→Hp→VK→Prop:=fun x vs H Q=>∃l xs y,x=.ref l∧vs=[y]∧H l=some (.lst xs)∧xs.length < sizeLine∧Q .non (upd H l (.lst (xs++[y])))
theorem oU:Gn X "list.append" zc:=by
 intro pins s σ H x vs v us Q I rx rv h
 obtain⟨l,xs,y,rfl,rfl,hH,hz,q⟩:=h
 cases rx
 obtain⟨u,rfl,ru⟩:=rv.one
 obtain⟨z,its,n,r,hl,e⟩:=I.lstM hH
 refine call_meets F.slot_list_append ⟨_,e,rfl⟩ F.entry_list_append (F.args_list_append_2 _ _) (PySem.list_append l its.toArray n u (by rw[List.size_toArray];omega)) ⟨e,?_⟩
 refine⟨.non,_,I.lset (its':=its++[u]) hH e (by simp) (r.append (.cons ru .nil)) ?_,rfl,q⟩
 rw[List.length_append,List.length_singleton]
 omega
def zd:V→List V→Hp→VK→Prop:=fun x vs H Q=>∃l b xs zs,x=.ref l∧vs=[.ref b]∧H l=some (.lst xs)∧H b=some (.lst zs)∧xs.length+zs.length≤sizeLine∧Q .non (upd H l (.lst (xs++zs)))
theorem uY:Gn X "list.extend" zd:=by
 intro pins s σ H x vs v us Q I rx rv h
 obtain⟨l,b,xs,zs,rfl,rfl,hH,hB,hz,q⟩:=h
 cases rx
 obtain⟨u,rfl,ru⟩:=rv.one
 cases ru
 obtain⟨z,its,n,r,hl,e⟩:=I.lstM hH
 obtain⟨z2,its2,n2,r2,hl2,e2⟩:=I.lstM hB
 have hsz:its.toArray.size+its2.toArray.size≤sizeLine:=by rw[List.size_toArray,List.size_toArray];omega
 have hlong:¬(!its.toArray.isEmpty&&Builtin.List.listTooLong (its.toArray.size+its2.toArray.size))=true:=by
  rw[wr hsz,Bool.and_false]
  exact Bool.false_ne_true
 refine call_meets F.slot_list_extend ⟨_,e,rfl⟩ F.entry_list_extend (F.args_list_extend_2 _ _)
  (AutoSeq1.list_extend_list_list_0 l its.toArray n b its2.toArray n2 hlong (by rw[List.size_toArray];omega) (by omega)) ⟨e,e2,?_⟩
 refine⟨.non,_,I.lset (its':=its++its2) hH e (by simp) (r.append r2) ?_,rfl,q⟩
 rw[List.length_append]
 omega
theorem ze{α:Type}(xs:List α)(k:Nat):(List.replicate k xs).flatten.length=k*xs.length:=by
 induction k with
 |zero=>simp
 |succ k ih=>rw[List.replicate_succ,List.flatten_cons,List.length_append,ih,Nat.succ_mul,Nat.add_comm]
end
end L2
namespace Att
open PySem PySem.W PySem.Calls PyProof.Rows
theorem mB{P:Params}{h:Heap}:∀(ns:List Int) (vs:List Value),WellAll P h vs (ns.map WData.int)→IntsAre vs ns:=by
 intro ns
 induction ns with
 |nil=>
  intro vs w
  rw[List.map_nil]at w
  cases w
  exact .nil
 |cons n ns ih=>
  intro vs w
  rw[List.map_cons]at w
  cases w with
  |cons a b=>
   cases a
   exact .cons _ _ (ih _ b)
theorem uZ{l:OpenLaw}{n:Nat}(hn:l.most=some n){P:Params}{h:Heap}{args:List WData}{vals:List Value}
  (hpre:l.row.toRowW.claim.pre args=true) (hwl:WellAll P h vals args):
  ∃a vs ns,vals=[Value.ref a]∧args=[WData.list (ns.map WData.int)]∧h.get? a=some {cls:=.type "list",data:=.seq vs.toArray}∧IntsAre vs ns∧ns.length≤n:=by
 have hsh:WShape.hasAll [] args [.list .int]=true:=(pre_splitW hpre).1
 have hc:l.pre.holds [] {args:=args}=true:=(pre_splitW hpre).2
 obtain⟨d,r,rfl,h1,h2⟩:=hasAllW_cons hsh
 obtain rfl:=hasAllW_nil h2
 obtain⟨xs,rfl,h3⟩:=hasW_list h1
 obtain⟨ns,rfl⟩:=items_int h3
 have hlen:ns.length≤n:=by
  unfold OpenLaw.pre at hc
  have h4:(WTm.not (.lt (.lit (.int (n:Int))) (.len (.arg 0)))).holds [] {args:=[.list (ns.map .int)]}=true:=by
   have h4:=(holds_andW hc).1
   rw[hn]at h4
   exact h4
  have h5:=condW_of h4 (w_not (w_lt w_lit (w_len_list (w_arg rfl))))
  rw[List.length_map]at h5
  refine Nat.le_of_not_lt fun q=>?_
  have q':(n:Int) < ((ns.length:Nat):Int):=by omega
  first
   |(rw[decide_eq_true q']at h5;exact absurd h5 (by decide))
   |(simp at h5;omega)
 cases hwl with
 |cons w1 w2=>
  cases w2
  cases w1 with
  |list ho hall=>exact⟨_,_,ns,rfl,rfl,ho,mB ns _ hall,hlen⟩
theorem u3(l:OpenLaw)(args:List WData):l.row.toRowW.claim.post args (.bool true) args=true:=
 postW_of (r:=l.row.toRowW) (X:=(true == true))
  (show WShape.has [] (.bool true) .bool=true by first |rfl |decide |simp[WShape.has,WShape.arms,WShape.armsAll])
  (show(WTm.eq .res (.lit (.bool true))).value [] {args:=args,res:=some (.bool true),after:=args}=some (.bool (true == true))from w_eq_bool (w_res rfl) w_lit) rfl
theorem qG{l:OpenLaw}{n:Nat}{q:Program}{loose:List Str}{XP:(Str→Option Value)→Heap→Prop}{YP:World→Heap→Prop}{d:DefRec}
  (hn:l.most=some n) (hdf:d.params.defaults=[])
  (call:∀(w:World) (s₀ s₁:Shared) (mg mb:Str→Option Value) (fa:Addr) (o:Obj) (pm cd doc:Value) (a:Addr) (vs:List Value) (ns:List Int),
   Ground q loose [] XP w s₀ mg mb s₁.heap→YP w s₁.heap→
   s₁.heap.get? fa=some o→o.data=.func (docDef d.name d.params d.body d.scope pm cd doc)→s₁.heap.CodeRec cd d.name→mg d.name=some (.ref fa)→
   s₁.heap.get? a=some {cls:=.type "list",data:=.seq vs.toArray}→IntsAre vs ns→ns.length≤n→s₁.gens=#[]→
   codeAny (model l.prog w) callerA (.call (.ref fa) ⟨[.ref a],[]⟩) (fun r s'=>r=.ok (.ret (.bool true))∧OldK s₁.heap s'.heap∧s'.os=s₁.os∧AllBare s'.gens) s₁):
  WalkO q loose XP YP l.row.toRowW d [] (fun f vs=>PySem.call f vs):=by
 intro w s₀ s₁ mg mb G Y fa o pm cd doc dV kV ho hd hcd hD hmg hg args vals as hpre hlay hrd hwl hlo
 obtain rfl:dV=.none:=Dflts.none hD hdf
 obtain rfl:kV=.none:=Dflts.noKw hD
 obtain⟨a,vs,ns,rfl,rfl,hobj,hints,hlen⟩:=uZ hn hpre hwl
 refine enter_call (codeAny_mono (call w s₀ s₁ mg mb fa o pm cd doc a vs ns G Y ho (fd_plain hd) hcd hmg hobj hints hlen hg) fun r s' hq=>?_)
 obtain⟨rfl,h2,h3,h4⟩:=hq
 exact⟨.inl ⟨.bool true,.bool true,[],rfl,fun _=>rfl,.bool true,u3 l _,fun _=>⟨List.Pairwise.nil,fun _ hm=>(nomatch hm)⟩⟩,h2,h3,h4⟩
end Att
namespace L2
open PySem PySem.Spec PyProof.Rows
theorem iL:∀{vs:List Value} {ns:List Int},IntsAre vs ns→Vals (ns.map V.int) vs
 |_,_,.nil=>.nil
 |_,_,.cons n t h=>.cons ⟨t,rfl⟩ (iL h)
theorem ObjOk.tbl0{P:Program}{w:World}{H:Hp}{h:Heap}{b:Addr}{q:Str}(e:h.get? b=some (PySem.W.tabObj #[])):ObjOk P w H h b (.tbl q):=⟨#[],e,trivial,fun pos cv z=>by cases z⟩
end L2
namespace L2
open PySem PySem.Spec PyProof.Rows
def dQ(s:Stmt)(j:Nat):Stmt:=match s with
 | .ClassDef _ _ _ body _ _ _ _ _ _ _=>body.getD j (.Pass ⟨0,0,0,0⟩)
 |_=> .Pass ⟨0,0,0,0⟩
def dR(s:Stmt):Arguments:=match s with
 | .FunctionDef _ a _ _ _ _ _ _ _ _=>a
 |_=>{posonlyargs:=[],args:=[],vararg:=none,kwonlyargs:=[],kw_defaults:=[],kwarg:=none,defaults:=[]}
def cB(s:Stmt):List Stmt:=match s with
 | .FunctionDef _ _ b _ _ _ _ _ _ _=>b
 |_=>[]
def au(s:Stmt):Scope:=match s with
 | .FunctionDef _ _ _ _ _ _ sc _ _ _=>sc
 |_=>{kind:=.function,names:=[],isGenerator:=false,isCoroutine:=false}
abbrev jA:uW:=fun _ _ _ _ _ _=>False
abbrev E0:XK:=fun _ _ _=>False
theorem tV{X:Cx}:mX jA X E0:=fun _ _ _ _ _ _ _ h=>h.elim
structure Fun (K:PySem.W.Frag) (x qual:Str) (st:Stmt) (f:Addr) (fd:FuncData):Prop where
 ex:∃(oc:Value) (od:Option Addr) (kV doc pm:Value) (an:Option Addr) (cdv ct:Value) (osl:Array (Option Value)),
  fd=PySem.W.fnOf x qual (dR st) (cB st) (au st) .none kV doc pm an cdv ct∧K.lookup f=some ⟨oc,od,.func fd,osl⟩∧PySem.W.codeIn K cdv qual=true
 kp:PySem.W.keepIn K (.ref f)=true
section
variable {P:Program} {w:World} {K:PySem.W.Frag} {mg:Str→Option Value} {base:Heap}
theorem Fun.ok{x qual:Str}{st:Stmt}{f:Addr}{fd:FuncData}{N ps:List Str}{k:Nat}{sp:Sp}(F:Fun K x qual st f fd)(S:FnScope N ps (au st))(len:∀vs H Q E,sp vs H Q E→vs.length=ps.length)
  (hbody:∀(cdv:Value) (A:Around) (outer:List Env) (s:Shared) (H:Hp) (vs:List V) (Q:VK) (E:XK),Room k (A.deeper (envOfC qual (au st) s.heap.objs.size f cdv))→sp vs H Q E→
   ∃t,PSs (iW jA P w K mg base N qual (au st) f cdv A outer s H E).nox (cB st) t∧t {nx:=fun _ H'=>Q .non H',rt:=Q} (dz N vs) H):FnOk P w K mg base jA (k+1) f fd ps sp:=by
 obtain⟨oc,od,kV,doc,pm,an,cdv,ct,osl,rfl,lk,hcd⟩:=F.ex
 refine AK lk hcd S len fun A outer s H vs Q E hr hsp=>?_
 obtain⟨t,h,q⟩:=hbody cdv A outer s H vs Q E hr hsp
 exact⟨t,h.nox,q⟩
theorem Fun.binds{x qual:Str}{st:Stmt}{f:Addr}{fd:FuncData}{ps:List Str}(F:Fun K x qual st f fd)
  (h:∀(kV doc pm:Value) (an:Option Addr) (cdv ct:Value) (us:List Value),us.length=ps.length→bindArgs (PySem.W.fnOf x qual (dR st) (cB st) (au st) .none kV doc pm an cdv ct) ⟨us,[]⟩=pure (ps.zip us)):Binds K fd ps []:=by
 obtain⟨oc,od,kV,doc,pm,an,cdv,ct,osl,rfl,lk,hcd⟩:=F.ex
 exact .all (h kV doc pm an cdv ct)
theorem mY{x qual:Str}{st:Stmt}{f:Addr}{oc:Value}{od an:Option Addr}{osl:Array (Option Value)}{kV doc pm cdv ct:Value}(l:K.lookup f=some ⟨oc,od,.func (PySem.W.fnOf x qual (dR st) (cB st) (au st) .none kV doc pm an cdv ct),osl⟩)
  (c:PySem.W.codeIn K cdv qual=true) (k:PySem.W.keepIn K (.ref f)=true):Fun K x qual st f (PySem.W.fnOf x qual (dR st) (cB st) (au st) .none kV doc pm an cdv ct):=⟨⟨oc,od,kV,doc,pm,an,cdv,ct,osl,rfl,l,c⟩,k⟩
end
section
variable {X:Cx}
theorem pv (i:Nat) {x:Str} {pos:Pos} (hN:X.N[i]? =some x:=by rfl) (hv:AG X.env.scope x:=by first |exact Or.inl rfl |exact Or.inr (Or.inl rfl) |exact Or.inr (Or.inr rfl)) (hd:(x == ("__debug__":Str))=false:=by decide)
  (hcd:(x == ("__classdict__":Str))=false:=by decide):PE X (.Name x pos) (fc i):=lL hN hv hd hcd
end
def Same(H H':Hp):Prop:=∀b o,H b=some o→H' b=some o
theorem Same.refl(H:Hp):Same H H:=fun _ _ h=>h
theorem Same.trans{H H1 H2:Hp}(a:Same H H1)(b:Same H1 H2):Same H H2:=fun c o h=>b c o (a c o h)
theorem Same.free{H H':Hp}(e:Same H H'){l:Addr}(h:H' l=Option.none):H l=Option.none:=by
 cases q:H l with
 |none=>rfl
 |some o=>
  rw[e l o q]at h
  cases h
theorem Same.seq{K:PySem.W.Frag}{H H':Hp}{a:Addr}{xs:List V}(e:Same H H')(h:SqL K H a xs):SqL K H' a xs:=by
 rcases h with(h |⟨o,h⟩) |h
 ·exact .inl (.inl (e _ _ h))
 ·exact .inl (.inr ⟨o,e _ _ h⟩)
 ·exact .inr h
end L2
namespace NH
section
variable {α:Type} [DecidableEq α]
def stp(r:List (α×Int))(p:α×Int):List (α×Int):=
 match r with
 |[]=>if p.2=0 then []else [p]
 |q::r'=>if q.1=p.1 then (if q.2+p.2=0 then r' else (p.1,q.2+p.2)::r')else (if p.2=0 then q::r' else p::q::r')
def stk(c:List (α×Int)):List (α×Int):=c.foldl stp []
def Red:List (α×Int)→Prop
 |[]=>True
 |[p]=>p.2≠0
 |p::q::r=>p.2≠0∧p.1≠q.1∧Red (q::r)
theorem Red.cons{p:α×Int}{r:List (α×Int)}(h0:p.2≠0)(h1:∀q∈r.head?,p.1≠q.1)(h:Red r):Red (p::r):=by
 cases r with
 |nil=>exact h0
 |cons q r=>exact⟨h0,h1 q rfl,h⟩
theorem Red.next{p:α×Int}{r:List (α×Int)}(h:Red (p::r)):∀q∈r.head?,p.1≠q.1:=by
 cases r with
 |nil=>intro q hq;cases hq
 |cons q r=>intro q' hq;cases hq;exact h.2.1
def contr(c:List (α×Int)):List (α×Int):=c.reverse.map fun p=>(p.1,-p.2)
theorem bN(c:List (α×Int)):(contr c).length=c.length:=by simp[contr]
def sn(w:List (α×Int))(p:α×Int):List (α×Int):=(stp w.reverse p).reverse
def AM(p x:α×Int):List (α×Int):=if x.1=p.1 then (if x.2+p.2=0 then []else [(p.1,x.2+p.2)])else (if p.2=0 then [x]else [p,x])
theorem kT(p x:α×Int)(r:List (α×Int)):stp (x::r) p=AM p x++r:=by
 show(if x.1=p.1 then (if x.2+p.2=0 then r else (p.1,x.2+p.2)::r)else (if p.2=0 then x::r else p::x::r))=AM p x++r
 unfold AM
 by_cases e:x.1=p.1
 ·rw[if_pos e,if_pos e];split <;> rfl
 ·rw[if_neg e,if_neg e];split <;> rfl
def Fx(x p:α×Int):List (α×Int):=(AM p x).reverse
theorem tW(p x:α×Int)(r:List (α×Int)):sn (r++[x]) p=r++Fx x p:=by
 unfold sn Fx
 rw[List.reverse_append,List.reverse_singleton,List.singleton_append,kT,List.reverse_append,List.reverse_reverse]
theorem DC(p q:α×Int)(x:α×Int)(hx:x.2≠0):stp (sn [x] q) p=sn (stp [x] p) q:=by
 obtain⟨n,a⟩:=p
 obtain⟨k,b⟩:=q
 obtain⟨m,u⟩:=x
 simp at hx
 by_cases e1:m=n
 ·subst e1
  by_cases e2:m=k
  ·subst e2
   by_cases z1:u+a=0 <;> by_cases z2:u+b=0
   ·simp[stp,sn,z1,z2]
    have:a=b:=by omega
    have ha:a≠0:=by omega
    have hb:b≠0:=by omega
    simp[ha,hb,this]
   ·have hb:u+b+a=b:=by omega
    by_cases b0:b=0
    ·subst b0;simp[stp,sn,z1,hx]
    ·simp[stp,sn,z1,z2,hb,b0]
   ·have hb:u+a+b=a:=by omega
    by_cases a0:a=0
    ·subst a0;simp[stp,sn,z2,hx]
    ·simp[stp,sn,z1,z2,hb,a0]
   ·have hb:u+b+a=u+a+b:=by omega
    by_cases z3:u+a+b=0
    ·simp[stp,sn,z1,z2,hb,z3]
    ·simp[stp,sn,z1,z2,hb,z3]
  ·by_cases z1:u+a=0 <;> by_cases z2:b=0 <;> simp[stp,sn,e2,z1,z2]
 ·by_cases e2:m=k
  ·subst e2
   by_cases z1:u+b=0 <;> by_cases z2:a=0 <;> simp[stp,sn,e1,z1,z2]
  ·by_cases z1:a=0 <;> by_cases z2:b=0 <;> simp[stp,sn,e1,e2,z1,z2]
theorem DD(p q:α×Int):stp (sn [] q) p=sn (stp [] p) q:=by
 obtain⟨n,a⟩:=p
 obtain⟨k,b⟩:=q
 by_cases z1:a=0 <;> by_cases z2:b=0
 ·simp[stp,sn,z1,z2]
 ·by_cases e:k=n <;> simp[stp,sn,z1,z2,e]
 ·by_cases e:n=k <;> simp[stp,sn,z1,z2,e]
 ·by_cases e:k=n
  ·subst e
   by_cases z:a+b=0
   ·have z':b+a=0:=by omega
    simp[stp,sn,z1,z2,z,z']
   ·have z':¬b+a=0:=by omega
    simp[stp,sn,z1,z2,z,z']
    omega
  ·have e':¬n=k:=fun t=>e t.symm
   simp[stp,sn,z1,z2,e,e']
theorem comm(p q:α×Int){w:List (α×Int)}(h:Red w):stp (sn w q) p=sn (stp w p) q:=by
 cases w with
 |nil=>exact DD p q
 |cons x r=>
  rcases List.eq_nil_or_concat r with rfl |⟨m,y,e⟩
  ·exact DC p q x h
  ·have e':r=m++[y]:=by rw[e] <;> simp
   subst e'
   have e1:x::(m++[y])=(x::m)++[y]:=rfl
   have e2:sn (x::(m++[y])) q=x::(m++Fx y q):=by rw[e1,tW];rfl
   rw[e2,kT,kT,←List.append_assoc,←List.append_assoc,tW]
end
end NH
namespace L2
open PySem PySem.Spec PyProof.Rows
theorem hM{H:Hp}{p:Addr}(h:H p=none)(o:HO):Same H (upd H p o):=fun b u q=>by rw[aC (bc q h)];exact q
theorem Same.tup{K:PySem.W.Frag}{H H':Hp}{a:Addr}{xs:List V}(e:Same H H')(h:SqT K H a xs):SqT K H' a xs:=by
 rcases h with(h |⟨o,h⟩) |h
 ·exact .inl (.inl (e _ _ h))
 ·exact .inl (.inr ⟨o,e _ _ h⟩)
 ·exact .inr h
def SameBut(l:Addr)(H H':Hp):Prop:=∀b o,b≠l→H b=some o→H' b=some o
theorem SameBut.upd{H:Hp}{l:Addr}(o:HO):SameBut l H (upd H l o):=fun b u hb q=>by rw[aC hb];exact q
theorem SameBut.trans{H H1 H2:Hp}{l:Addr}(a:SameBut l H H1)(b:SameBut l H1 H2):SameBut l H H2:=fun c o hc q=>b c o hc (a c o hc q)
theorem SameBut.same{H H':Hp}{l:Addr}(a:SameBut l H H')(h:H l=none):Same H H':=fun b o q=>a b o (bc q h) q
theorem SameBut.tup{K:PySem.W.Frag}{H H':Hp}{l a:Addr}{xs ys:List V}(e:SameBut l H H')(hl:H l=some (.lst ys))(h:SqT K H a xs):SqT K H' a xs:=by
 rcases h with(h |⟨o,h⟩) |h
 ·exact .inl (.inl (e _ _ (AE h hl (by intro z;cases z)) h))
 ·exact .inl (.inr ⟨o,e _ _ (AE h hl (by intro z;cases z)) h⟩)
 ·exact .inr h
mutual
inductive DOf (K:PySem.W.Frag) (H:Hp):V→PyData→Prop
 |non:DOf K H .non .none
 |bl (b:Bool):DOf K H (.bl b) (.bool b)
 |int (i:Int):DOf K H (.int i) (.int i)
 |str (x:Str):DOf K H (.str x) (.str x)
 |lst {a:Addr} {xs:List V} {ds:List PyData}:SqL K H a xs→DAll K H xs ds→DOf K H (.ref a) (.list ds)
 |tup {a:Addr} {xs:List V} {ds:List PyData}:SqT K H a xs→DAll K H xs ds→DOf K H (.ref a) (.tuple ds)
inductive DAll (K:PySem.W.Frag) (H:Hp):List V→List PyData→Prop
 |nil:DAll K H [] []
 |cons {x:V} {xs:List V} {d:PyData} {ds:List PyData}:DOf K H x d→DAll K H xs ds→DAll K H (x::xs) (d::ds)
end
section
variable {X:Cx} {pins:List (Addr×Obj)} {σ:St} {H:Hp} {s:Shared}
theorem DOf.reads(I:Inv X pins σ H s){x:V}{d:PyData}{u:Value}(h:DOf X.K H x d)(r:RelV x u):∃as,Reads s.heap u d as:=DOf.rec (motive_1:=fun x d _=>∀{u:Value},RelV x u→∃as,Reads s.heap u d as) (motive_2:=fun xs ds _=>∀{us:List Value},Vals xs us→∃as,ReadsAll s.heap us ds as)
  (fun r=>by cases r;exact⟨_,Reads.none⟩) (fun b _ r=>by cases r;exact⟨_,Reads.bool b⟩) (fun i _ r=>by obtain⟨t,rfl⟩:=r;exact⟨_,Reads.int i t⟩) (fun x _ r=>by obtain⟨t,rfl⟩:=r;exact⟨_,Reads.str x t⟩)
  (fun hq _ ih _ r=>by
   cases r
   obtain⟨its,rv,⟨o,n,e,c,_,d⟩,_⟩:=I.list hq
   obtain⟨as,q⟩:=ih rv
   exact⟨_,reads_list_at e c d (by simpa using q)⟩)
  (fun hq _ ih _ r=>by
   cases r
   obtain⟨its,rv,⟨o,e,c,n,d⟩,_⟩:=I.tuple hq
   obtain⟨as,q⟩:=ih rv
   exact⟨_,reads_tuple_at e c d (by simpa using q)⟩)
  (fun r=>by cases r;exact⟨_,ReadsAll.nil⟩)
  (fun _ _ a b _ r=>by
   cases r with
   |cons r rt=>
    obtain⟨as,q⟩:=a r
    obtain⟨bs,p⟩:=b rt
    exact⟨_,ReadsAll.cons q p⟩) h r
end
def DE(K:PySem.W.Frag):R2:=fun x y H Q=>∃d e,DOf K H x d∧DOf K H y e∧SeqAt.shaped d=true∧SeqAt.shaped e=true∧Q (.bl (PyData.eqv d e)) H
def DF(K:PySem.W.Frag):R2:=fun x y H Q=>∃d e,DOf K H x d∧DOf K H y e∧SeqAt.shaped d=true∧SeqAt.shaped e=true∧Q (.bl (!PyData.eqv d e)) H
theorem wt{X:Cx}(hu:X.A.units+64 < cLine):OpR X (compareOp .Eq) (DE X.K):=by
 intro pins s σ H x y v u Q I rx ry h
 obtain⟨d,e,hd,he,s1,s2,q⟩:=h
 obtain⟨as,ra⟩:=hd.reads I rx
 obtain⟨bs,rb⟩:=he.reads I ry
 exact eq_dataH ra rb s1 s2 hu ⟨.bl _,H,I,rfl,q⟩
theorem BT{X:Cx}(hu:X.A.units+64 < cLine):OpR X (compareOp .NotEq) (DF X.K):=by
 intro pins s σ H x y v u Q I rx ry h
 obtain⟨d,e,hd,he,s1,s2,q⟩:=h
 obtain⟨as,ra⟩:=hd.reads I rx
 obtain⟨bs,rb⟩:=he.reads I ry
 exact ne_dataH ra rb s1 s2 hu ⟨.bl _,H,I,rfl,q⟩
def Fy(K:PySem.W.Frag)(a:Addr)(xs:List V):It:=
 ⟨fun i H=>SqL K H a xs∧i < xs.length,fun i H x H'=>H'=H∧xs.reverse[i]? =some x,fun i H=>SqL K H a xs∧i=xs.length⟩
theorem wu{P:Program}{w:World}{K:PySem.W.Frag}{tg:Expr}(a it:Addr)(xs:List V):Turn P w K tg (Fy K a xs) [it] it (fun i h=>h.IsRevIter it a ((xs.length:Int) - 1 - (i:Int))) where
 mem:=by simp
 obj:=fun i h st b hb=>by
  have e:b=it:=by simpa using hb
  subst e
  obtain⟨o,e,c,d⟩:=st
  exact⟨o,e,fun v z=>by rw[d]at z;cases z⟩
 keep:=fun i h h' st k=>st.at fun o e=>k it (by simp) o e
 item:=by
  intro X hP hw hK hc i pins s σ H E I hf st hg
  subst hP hw hK
  obtain⟨hq,hx⟩:=hg
  obtain⟨its,rv,p,hz⟩:=I.list hq
  have hlen:=rv.length
  have e0:(xs.length:Int) - 1 - (i:Int)=((xs.length - 1 - i:Nat):Int):=by omega
  have hget:xs.reverse[i]? =xs[xs.length - 1 - i]? :=List.getElem?_reverse hx
  obtain⟨x,hx'⟩:∃x,xs[xs.length - 1 - i]? =some x:=⟨xs[xs.length - 1 - i]'(by omega),List.getElem?_eq_getElem (by omega)⟩
  obtain⟨u,hu,ru⟩:=rv.get hx'
  obtain⟨f0,f1,f2,f3,f4,f5⟩:=hf it (by simp)
  have st1:s.heap.IsRevIter it a ((xs.length - 1 - i:Nat):Int):=by rw[←e0];exact st
  refine wpAny_pyNext_rev_item st1 p.isList (x:=u) (by simpa using hu) fun h' st' sb=>?_
  have I1:Inv X pins σ H {s with heap:=h'}:=I.turned (t':=s.toks) (fun b o hb e=>(sb.2 b hb).trans e) f0 f1 f3 f4 f5
  have e1:((xs.length - 1 - i:Nat):Int) - 1=(xs.length:Int) - 1 - ((i+1:Nat):Int):=by omega
  have st2:h'.IsRevIter it a ((xs.length:Int) - 1 - ((i+1:Nat):Int)):=by rw[←e1];exact st'
  obtain⟨o,e,c,d⟩:=id st'
  exact⟨u,rfl,qA (s:={s with heap:=h'}) e c d (by decide) ⟨x,H,I1,ru,⟨rfl,hget.trans hx'⟩,st2,fun b hb=>(hf b hb).1⟩⟩
 done:=by
  intro X hP hw hK hc i pins s σ H E I hf st hg
  subst hP hw hK
  obtain⟨hq,hx⟩:=hg
  obtain⟨f0,f1,f2,f3,f4,f5⟩:=hf it (by simp)
  have e0:(xs.length:Int) - 1 - (i:Int)= -1:=by omega
  have st1:s.heap.IsRevIter it a (-1):=by rw[←e0];exact st
  exact wpAny_pyNext_rev_end (I.ok.hd hc) st1 fun h' eb=>⟨rfl,I.turned (t':=s.toks) (fun b o hb e=>eb b o hb e) f0 f1 f3 f4 f5⟩
 self:=fun _ _ _ _ _ st h=>wpAny_pyIter_revIter st h
section
variable {X:Cx} {tg:Expr}
def Fz(K:PySem.W.Frag)(tl:TA):TI:=fun σ H R=>tl σ H fun vs H1=>∃a xs,vs=[.ref a]∧SqL K H1 a xs∧R (Fy K a xs) H1
theorem BU {l:Expr} {tl:TA} {p pos:Pos} (hg:Gl X "reversed") (hm:X.mg "reversed"=none) (ha:PA X [l] tl) (hs:starEach [l] X.env=[(false,eval l X.env)]:=by rfl):PI X tg (.Call (.Name "reversed" p) [l] [] pos) (Fz X.K tl):=by
 intro pins s σ H R I h
 refine Call_ (lN I hg hm boot_reversed (PyProof.Rows.callWith_type1 (dF (ha pos pins s σ H _ I h) fun us s1 ⟨vs,H1,I1,r1,q1⟩=>?_) hs rfl))
 obtain⟨a,xs,e,hq,q⟩:=q1
 subst e
 cases r1 with
 |cons r rr=>
  cases rr
  cases r
  obtain⟨its,rv,p,hz⟩:=I1.list hq
  have hlen:=rv.length
  refine call_reversed_list p.isList ?_
  have hit:(s1.heap.push (revObj a (((its.toArray).size:Int) - 1))).IsRevIter s1.heap.objs.size a ((xs.length:Int) - 1 - ((0:Nat):Int)):=by
   refine⟨_,Heap.get?_push_size _ rfl,rfl,?_⟩
   have e1:((its.toArray.size:Nat):Int) - 1=(xs.length:Int) - 1 - ((0:Nat):Int):=by rw[List.size_toArray];omega
   show Data.fields #[.ref a,rawInt ((its.toArray.size:Int) - 1)]=_
   rw[e1]
  have I2:Inv X pins σ H1 {s1 with heap:=s1.heap.push (revObj a (((its.toArray).size:Int) - 1))}:=I1.kept (t':=s1.toks) fun b o e=>Heap.get?_push_of_some _ e
  refine wpAny_pyIter_revIter hit ?_
  refine⟨s1.heap.objs.size,[s1.heap.objs.size],_,_,H1,rfl,I2,wu a _ xs,hit,fun b hb=>?_,q⟩
  have e:b=s1.heap.objs.size:=by simpa using hb
  subst e
  have f:=I1.fpOk (H':=H1) (Nat.le_refl _) (I1.hok.fresh (Nat.le_refl _))
  exact f
end
end L2
namespace L2
open PySem PySem.Spec PyProof.Rows
section
variable {prog:Program} {w:World} {A:Around} {R:Result→Shared→Prop} {s:Shared}
theorem pL{elt target iter:Expr}{ifs:List Expr}{scope:Scope}{pos:Pos}{it acc:Value}{env:Env}(I:Nat→Shared→Prop)
  (turn:∀n s,I n s→wpAny (model prog w) A (pyNext it) (fun r s₁=>match r with
   |none=>R (.ok .next) s₁
   |some v=>wpAny (model prog w) A (letOwnedTupleGo target it v) (fun _ s₁'=>wpAny (model prog w) A (assign target env v) (fun _ s₂=>
     wpAny (model prog w) A (forIn ifs true fun c r=>if r=true then do let ok ←isTrue c env (eval c env);pure (ForInStep.yield ok)else pure (ForInStep.yield r)) (fun ok s₃=>
      if ok=true then wpAny (model prog w) A (eval elt env) (fun x s₄=>
       wpAny (model prog w) A (call (.builtin "list.append") [acc,x]) (fun _ s₅=>∃m,m < n∧I m s₅) (fun _ _=>False) s₄) (fun _ _=>False) s₃
      else ∃m,m < n∧I m s₃) (fun _ _=>False) s₂) (fun _ _=>False) s₁') (fun _ _=>False) s₁) (fun _ _=>False) s)
  (n:Nat) (h:I n s):
  codeAny (model prog w) A (.compLoop (.ListComp elt [⟨target,iter,ifs,0⟩] scope pos) 0 it acc env) R s:=by
 refine codeAny_loop rfl I (fun n s hI=>?_) n h
 show wpAny _ A ((compTurn (.ListComp elt [⟨target,iter,ifs,0⟩] scope pos) 0 it acc env).onRaise (fun x=>do noteFrame x env;theTreesLotGoes x)) _ _ s
 refine wpAny_noted ?_
 rw[compTurn_list]
 refine wpAny_bind (wpAny_standAt (wpAny_bind (wpAny_mono (turn n s hI) (fun r s₁ h₁=>?_) fun _ _ h'=>h'.elim)))
 cases r with
 |none=>exact wpAny_pure h₁
 |some v=>
  refine wpAny_bind (wpAny_mono h₁ (fun _ s₁' h₁'=>?_) fun _ _ h'=>h'.elim)
  refine wpAny_bind (wpAny_mono h₁' (fun _ s₂ h₂=>wpAny_bind (wpAny_mono h₂ (fun ok s₃ h₃=>?_) fun _ _ h'=>h'.elim)) fun _ _ h'=>h'.elim)
  cases ok with
  |false=>exact wpAny_pure ⟨rfl,h₃⟩
  |true=>
   exact wpAny_bind (wpAny_bind (wpAny_mono h₃ (fun x s₄ h₄=>wpAny_bind (wpAny_mono h₄ (fun _ s₅ h₅=>wpAny_pure (wpAny_pure ⟨rfl,h₅⟩)) fun _ _ h'=>h'.elim)) fun _ _ h'=>h'.elim))
end
def Cx.comp(X:Cx)(sc:Scope)(cl:List (Str×Addr))(N:List Str)(C:Addr)(s₀:Shared)(H₀:Hp)(fp:List Addr):Cx:=
 ⟨X.prog,X.w,X.K,X.mg,X.base,X.A,N,s₀,H₀,⟨sc,C,X.env.globals,cl,X.env.qual,none,X.env.code,X.env.frame,X.env.builtins⟩,X.stack,X.stack,fp,fun _=>false,X.calm,[],fun _ _=>False⟩
def FA(X:Cx)(ifs:List Expr)(t:TT):Prop:=
 ∀(pins:List (Addr×Obj)) (s:Shared) (σ:St) (H:Hp) (Q:Bool→Hp→Prop),Inv X pins σ H s→t σ H Q→
  wpAny (model X.prog X.w) X.A (forIn ifs true fun c r=>if r=true then do let ok ←isTrue c X.env (eval c X.env);pure (ForInStep.yield ok)else pure (ForInStep.yield r)) (TP X pins σ Q) X.xe s
def wv:TT:=fun _ H Q=>Q true H
theorem tX{X:Cx}:FA X [] wv:=fun _ _ _ H _ I h=>wpAny_tests_nil ⟨H,I,h⟩
def slots(js:List (Option Nat))(σ:St):St:=js.map fun j=>j.bind fun j=>(σ[j]?).join
def tY(js:List (Option Nat))(wi:TI)(g:TG)(tt:TT)(te:TE):TE:=fun σ H Q=>wi σ H fun J H1=>∀l,H1 l=none→∃W:Nat→Nat→St→Hp→Prop,(∃m,W 0 m (slots js σ) (upd H1 l (.lst [])))∧
 ∀i m σ' H',W i m σ' H'→(J.stop i H'∧Q (.ref l) H')∨(J.go i H'∧∃N:St→Hp→Prop,(∀σ' H',N σ' H'→∃m',m' < m∧W (i+1) m' σ' H')∧∀x H2,J.yld i H' x H2→g x σ' H2 fun σ3 H3=>tt σ3 H3 fun b H4=>
  if b=true then te σ3 H4 fun y H5=>∃ys,H5 l=some (.lst ys)∧ys.length < sizeLine∧N σ3 (upd H5 l (.lst (ys++[y])))else N σ3 H4)
section
variable {X:Cx} {elt target iter:Expr} {ifs:List Expr} {scope sc:Scope} {cl:List (Str×Addr)} {N:List Str} {pos:Pos} {wi:TI} {g:TG} {tt:TT} {te:TE} {js:List (Option Nat)}
structure CompOk (X:Cx) (scope sc:Scope) (cl:List (Str×Addr)) (N:List Str) (js:List (Option Nat)):Prop where
 clos:closureFor scope X.env=pure cl
 rel:relabel scope X.env=sc
 nocell:∀y∈scope.names,y.2≠ .cell
 kind:scope.kind=.function
 names:∀y∈scope.names,y.2=.local→scope.names.lookup y.1=some .local
 same:∀x c,cl.lookup x=some c→X.env.cells.lookup x=some c
 has:∀x,(sc.names.lookup x=some .cell∨sc.names.lookup x=some .free)→∃c,cl.lookup x=some c
 len:js.length=N.length
 from_:∀(i j:Nat),js[i]? =some (some j)→∃x,N[i]? =some x∧X.N[j]? =some x∧(sc.names.lookup x=some .cell∨sc.names.lookup x=some .free)∧(X.env.kindOf x=some .cell∨X.env.kindOf x=some .free)
theorem ww{use:Option (Value→Sem Unit)}{Qv:Value→Shared→Prop}(K:CompOk X scope sc cl N js)(hc:X.calm=true)(hi:PI X target iter wi)
  (hgg:∀C s₀ H₀ fp,PG (X.comp sc cl N C s₀ H₀ fp) target g) (htt:∀C s₀ H₀ fp,FA (X.comp sc cl N C s₀ H₀ fp) ifs tt) (hee:∀C s₀ H₀ fp,PE (X.comp sc cl N C s₀ H₀ fp) elt te)
  (hs:∀x,foldedSetIterable iter X.env x=pure x) (pins:List (Addr×Obj)) (s:Shared) (σ:St) (H:Hp) (Q:VK) (I:Inv X pins σ H s) (h:tY js wi g tt te σ H Q)
  (hend:∀(D C:Addr) (H4:Hp) (s5:Shared) (m:Str→Option Value),Inv X pins σ H4 s5→s5.heap.Ns C m→H4 C=none→C≠X.env.locals→C∉X.fs→X.s₀.heap.objs.size≤C→(∀x c,X.env.cells.lookup x=some c→c≠C)→(∀p∈X.pn++pins,p.1≠C)→Q (.ref D) H4→
   compPost (model X.prog X.w) X.A X.xe use Qv (.ref D) C (.ok .next) s5):
  wpAny (model X.prog X.w) X.A (comprehension (.ListComp elt [⟨target,iter,ifs,0⟩] scope pos) scope X.env (firstIterPos [⟨target,iter,ifs,0⟩] pos) (newList []) false (firstIter [⟨target,iter,ifs,0⟩] X.env) use) Qv X.xe s:=by
 refine wpAny_comprehension_free (use:=use) rfl hs K.clos K.kind K.names (dF (hi pins s σ H _ I h) fun v s1 h1=>dF h1 fun itv s2 h2=>?_)
 obtain⟨it,fp,tn,J,H2,e,I2,T,st2,f2,R⟩:=h2
 subst e
 refine wpAny_newObj_type (wpAny_newFunctionEnv K.nocell (by intro y hy;simp at hy) (fun h₁ hns₁ hsb₁=>?_) K.kind)
 dsimp only at hns₁ hsb₁ ⊢
 have I3:Inv X pins σ (upd H2 s2.heap.objs.size (.lst [])) {s2 with heap:=s2.heap.push {cls:=.type "list",dict:=none,data:=.seq ([]:List Value).toArray}}:=
  I2.lnew (t':=s2.toks) (its:=[]) .nil (Nat.zero_le _)
 obtain⟨W,⟨m0,w0⟩,turn⟩:=R s2.heap.objs.size (I2.hok.fresh (Nat.le_refl _))
 generalize hP:s2.heap.push {cls:=.type "list",dict:=none,data:=.seq ([]:List Value).toArray}=h3 at hns₁ hsb₁ I3 ⊢
 generalize hD:s2.heap.objs.size=D at w0 turn I3 ⊢
 have hsz3:h3.objs.size=D+1:=by rw[←hP,Heap.size_push,hD]
 have old3:∀b o,s2.heap.get? b=some o→h3.get? b=some o:=fun b o e=>by rw[←hP];exact Heap.get?_push_of_some _ e
 have old:∀b o,h3.get? b=some o→h₁.get? b=some o:=fun b o e=>hsb₁.extBut b o (Nat.ne_of_lt (Heap.lt_size e)) (Heap.get?_push_of_some _ e)
 have fpD:∀b∈fp,b < D:=fun b hb=>by
  obtain⟨o,e,_⟩:=T.obj _ _ st2 b hb
  rw[←hD];exact Heap.lt_size e
 have frD:∀b∈fp,(upd H2 D (.lst [])) b=none:=fun b hb=>by rw[aC (Nat.ne_of_lt (fpD b hb))];exact(f2 b hb).1
 have f3:∀b∈fp,nT X pins (upd H2 D (.lst [])) b:=fun b hb=>⟨frD b hb,(f2 b hb).2⟩
 have Hfresh:∀a,h3.objs.size≤a→(upd H2 D (.lst [])) a=none:=fun a ha=>I3.hok.fresh ha
 have cellC:∀x c,X.env.cells.lookup x=some c→c < h3.objs.size:=fun x c e=>by
  obtain⟨v,q⟩:=I3.cell x c e
  exact q.lt
 have YOk:(X.comp sc cl N h3.objs.size {s2 with heap:=h3} (upd H2 D (.lst [])) fp).Ok:=by
  refine⟨I3.ok.mod,?_,I3.ok.glob,I3.ok.blt,Nat.le_refl _,fun x y c e1 e2=>I3.ok.inj x y c (K.same x c e1) (K.same y c e2),fun x hx=>K.has x hx,fun x c hf _=>absurd hf (by intro z;cases z),I3.ok.hd,I3.ok.frames,.inl rfl,fun b hb=>⟨?_,fun x c e=>(f2 b hb).2.2.2.2.1 x c (K.same x c e)⟩,
   I3.bs,Nat.le_trans I3.ok.bsz I3.sz,fun b o e hb=>?_,fun b hb hm=>?_,I3.stack,I3.stkFree,I3.tab⟩
  ·rw[←K.rel];exact K.kind
  ·exact Nat.ne_of_lt (by rw[hsz3];exact Nat.lt_succ_of_lt (fpD b hb))
  ·rcases(f2 b hb).2.2.2.1 with z |z
   ·exact I3.ok.noex b o e z
   ·exact absurd (Nat.lt_of_lt_of_le (Heap.lt_size (I3.ok.bs b o e).1) z) (Nat.lt_irrefl _)
  ·rcases List.mem_cons.mp (I3.stkSub b hm)with z |z
   ·exact(f2 b hb).2.1 z
   ·exact(f2 b hb).2.2.1 z
 have IY:Inv (X.comp sc cl N h3.objs.size {s2 with heap:=h3} (upd H2 D (.lst [])) fp) [] (slots js σ) (upd H2 D (.lst [])) {s2 with heap:=h₁,toks:=s2.toks+([]:List (Str×Value)).length}:=by
  refine⟨YOk,rfl,I3.bare,Un.kept old,⟨_,hns₁,fun i x v e1 e2 e3=>?_⟩,fun x c e=>?_,Hfresh _ (Nat.le_refl _),fun x c e=>I3.freeC x c (K.same x c e),fun p hp=>absurd (show p∈([]:List (Addr×Obj))from hp) (by simp),I3.hok.kept old,?_⟩
  ·unfold slots at e2
   rw[List.getElem?_map]at e2
   cases ej:js[i]? with
   |none=>rw[ej]at e2;cases e2
   |some jo=>
    rw[ej]at e2
    cases jo with
    |none=>cases e2
    |some j=>
     obtain⟨y,n1,n2,k1,k2⟩:=K.from_ i j ej
     have exy:y=x:=Option.some.inj (n1.symm.trans e1)
     subst exy
     have e2':(σ[j]?).join=some v:=Option.some.inj e2
     have e4:σ[j]? =some (some v):=by
      cases es:σ[j]? with
      |none=>rw[es]at e2';cases e2'
      |some w=>rw[es]at e2';exact congrArg some e2'
     obtain⟨m,_,hl⟩:=I3.loc
     obtain⟨u,ru,lk⟩:=hl j y v n2 e4 (by
      rcases k2 with z |z
      ·exact .inr (.inl z)
      ·exact .inr (.inr z))
     refine⟨u,ru,.inr ⟨k1,?_⟩⟩
     obtain⟨c,hcl⟩:=K.has y k1
     refine⟨c,hcl,?_⟩
     rcases lk with⟨z,_⟩ |⟨_,c',e5,ic⟩
     ·rcases k2 with q |q
      ·rw[q]at z;cases z
      ·rw[q]at z;cases z
     ·have:c'=c:=Option.some.inj (e5.symm.trans (K.same y c hcl))
      subst this
      obtain⟨o,ho,hd⟩:=ic
      exact⟨o,old _ _ ho,hd⟩
  ·obtain⟨v,o,ho,hd⟩:=I3.cell x c (K.same x c e)
   exact⟨v,o,old _ _ ho,hd⟩
  ·unfold slots;rw[List.length_map];exact K.len
 have loop:∀s₃:Shared,s₃={s2 with heap:=h₁,toks:=s2.toks+([]:List (Str×Value)).length}→
   codeAny (model X.prog X.w) X.A (.compLoop (.ListComp elt [⟨target,iter,ifs,0⟩] scope pos) 0 (.ref it) (.ref D) (X.comp sc cl N h3.objs.size {s2 with heap:=h3} (upd H2 D (.lst [])) fp).env)
    (compPost (model X.prog X.w) X.A X.xe use Qv (.ref D) h3.objs.size) s₃:=by
  rintro s₃ rfl
  refine pL (fun n s'=>∃i σ' H',Inv (X.comp sc cl N h3.objs.size {s2 with heap:=h3} (upd H2 D (.lst [])) fp) [] σ' H' s'∧tn i s'.heap∧(∀b∈fp,H' b=none)∧W i n σ' H') ?_ m0
   ⟨0,_,_,IY,T.keep _ _ _ st2 (fun b hb o e=>old b o (old3 b o e)),frD,w0⟩
  rintro n s4 ⟨i,σ4,H4,I4,st4,fr4,w4⟩
  have ff:∀{H':Hp},(∀b∈fp,H' b=none)→∀b∈fp,nT (X.comp sc cl N h3.objs.size {s2 with heap:=h3} (upd H2 D (.lst [])) fp) [] H' b:=fun hn b hb=>
   ⟨hn b hb,(YOk.exf b hb).1,YOk.exfs b hb,.inl hb,(YOk.exf b hb).2,fun p hp=>absurd (show p∈([]:List (Addr×Obj))from hp) (by simp)⟩
  have hg:=hgg h3.objs.size {s2 with heap:=h3} (upd H2 D (.lst [])) fp
  have ht:=htt h3.objs.size {s2 with heap:=h3} (upd H2 D (.lst [])) fp
  have he:=hee h3.objs.size {s2 with heap:=h3} (upd H2 D (.lst [])) fp
  rcases turn i n σ4 H4 w4 with⟨stop,qn⟩ |⟨go,Nx,hN,step⟩
  ·refine dF (T.done (X.comp sc cl N h3.objs.size {s2 with heap:=h3} (upd H2 D (.lst [])) fp) rfl rfl rfl hc i [] s4 σ4 H4 _ I4 (ff fr4) st4 stop) fun r s5 ⟨hr,I5⟩=>?_
   subst hr
   obtain⟨m,hn,_⟩:=I5.loc
   have IX:Inv X pins σ H4 s5:=I3.call' (ch:=fp) I5.os I5.base I5.hok I5.bare fun b hb=>⟨(f3 b hb).2.2.2.1,(f3 b hb).2.1,(f3 b hb).2.2.2.2.1,(f3 b hb).2.2.2.2.2⟩
   exact hend D h3.objs.size H4 s5 m IX hn I5.free (Ne.symm (Nat.ne_of_lt I3.lt)) (I3.nofs (Nat.le_refl _)) I3.sz (fun x c e=>Nat.ne_of_lt (cellC x c e)) (fun p hp=>Nat.ne_of_lt (Heap.lt_size (I3.pin p hp).1)) qn
  ·refine dF (T.item (X.comp sc cl N h3.objs.size {s2 with heap:=h3} (upd H2 D (.lst [])) fp) rfl rfl rfl hc i [] s4 σ4 H4 _ I4 (ff fr4) st4 go) fun r s5 ⟨u,hr,h5⟩=>?_
   subst hr
   refine dF h5 fun _ s6 ⟨x,H6,I6,r6,y6,st6,fr6⟩=>?_
   have I6':=I6.pinned (ff fr6) (T.obj _ _ st6)
   have back:∀{σ7:St} {H7:Hp} {s7:Shared},Inv (X.comp sc cl N h3.objs.size {s2 with heap:=h3} (upd H2 D (.lst [])) fp) ([]++mU fp s6.heap) σ7 H7 s7→
     Inv (X.comp sc cl N h3.objs.size {s2 with heap:=h3} (upd H2 D (.lst [])) fp) [] σ7 H7 s7∧tn (i+1) s7.heap∧∀b∈fp,H7 b=none:=fun {σ7 H7 s7} I7=>
    ⟨I7.unpinned,T.keep _ _ _ st6 fun b hb o e=>(I7.pin (b,o) (List.mem_append_right _ (List.mem_append_right _ (iV hb e)))).1,fun b hb=>by
     obtain⟨o,e,d⟩:=T.obj _ _ st6 b hb
     exact(I7.pin (b,o) (List.mem_append_right _ (List.mem_append_right _ (iV hb e)))).2.1⟩
   refine dF (hg _ s6 σ4 H6 x u _ I6' r6 (step x H6 y6)) fun _ s7 ⟨σ7,H7,I7,q7⟩=>?_
   refine dF (ht _ s7 σ7 H7 _ I7 q7) fun b s8 ⟨H8,I8,q8⟩=>?_
   cases b with
   |false=>
    obtain⟨m',hm,w8⟩:=hN σ7 H8 q8
    obtain⟨J1,J2,J3⟩:=back I8
    exact⟨m',hm,i+1,σ7,H8,J1,J2,J3,w8⟩
   |true=>
    refine dF (he _ s8 σ7 H8 _ I8 q8) fun yv s9 ⟨y,H9,I9,r9,ys,hl,hz,n9⟩=>?_
    obtain⟨m',hm,w9⟩:=hN _ _ n9
    refine dF (oU _ s9 σ7 H9 (.ref D) [y] (.ref D) [yv] (fun v H'=>v=.non∧H'=upd H9 D (.lst (ys++[y]))) I9 rfl (.cons r9 .nil) ⟨D,ys,y,rfl,rfl,hl,hz,rfl,rfl⟩) fun _ sA ⟨_,HA,IA,_,_,eA⟩=>?_
    subst eA
    obtain⟨J1,J2,J3⟩:=back IA
    exact⟨m',hm,i+1,σ7,_,J1,J2,J3,w9⟩
 rw[K.rel]
 exact codeAny_compStart_list (loop _ rfl) (T.self _ 0 _ _ _ (T.keep _ _ _ st2 (fun b hb o e=>old b o (old3 b o e))) (loop _ rfl))
theorem tZ(K:CompOk X scope sc cl N js)(hc:X.calm=true)(hi:PI X target iter wi)
  (hgg:∀C s₀ H₀ fp,PG (X.comp sc cl N C s₀ H₀ fp) target g) (htt:∀C s₀ H₀ fp,FA (X.comp sc cl N C s₀ H₀ fp) ifs tt) (hee:∀C s₀ H₀ fp,PE (X.comp sc cl N C s₀ H₀ fp) elt te)
  (hs:∀x,foldedSetIterable iter X.env x=pure x:=by intro _;rfl):PE X (.ListComp elt [⟨target,iter,ifs,0⟩] scope pos) (tY js wi g tt te):=by
 intro pins s σ H Q I h
 rw[eval_ListComp]
 refine ww (use:=none) K hc hi hgg htt hee hs pins s σ H Q I h fun D C H4 s5 m IX hn fC nL _ sz nc np qn=>?_
 exact⟨m,hn,fun h' hs'=>⟨.ref D,H4,IX.turned (t':=s5.toks) (it:=C) (fun b o hb e=>(hs'.2 b hb).trans e) fC nL (.inr sz) nc np,rfl,qn⟩⟩
end
end L2
namespace L2
open PySem PySem.Spec PyProof.Rows
theorem iX{X:Cx}{scope:Scope}{N:List Str}{js:List (Option Nat)}(hf:∀x∈scope.names,x.2≠ .free:=by decide+kernel)(hcell:∀x∈scope.names,x.2≠ .cell:=by decide+kernel)
  (hk:scope.kind=.function:=by rfl) (hn:∀y∈scope.names,y.2=.local→scope.names.lookup y.1=some .local:=by decide+kernel) (hl:js.length=N.length:=by rfl) (hj:∀j∈js,j=none:=by decide):CompOk X scope scope [] N js where
 clos:=closureFor_none hf
 rel:=by
  unfold relabel
  have e:(scope.names.map fun(x:Str×NameKind)=>match x with |(n,k)=>if (k ==.free&&X.env.scope.kind ==.function&&X.env.kindOf n == some .cell)then (n,NameKind.cell)else (n,k))=scope.names:=by
   refine map_eq_self fun x hx=>?_
   obtain⟨n,k⟩:=x
   have:(k == NameKind.free)=false:=by simpa using hf _ hx
   simp[this]
  rw[e]
 nocell:=hcell
 kind:=hk
 names:=hn
 same:=fun x c e=>by simp at e
 has:=fun x h=>by
  rcases h with h |h
  ·exact absurd rfl (hcell _ (PySem.mem_of_lookup h))
  ·exact absurd rfl (hf _ (PySem.mem_of_lookup h))
 len:=hl
 from_:=fun i j h=>by
  have:=hj _ (List.mem_of_getElem? h)
  cases this
theorem zf{σ:St}{H:Hp}{A B:Bool→Hp→Prop}(h:A true H):wv σ H (fun b H4=>if b=true then A b H4 else B b H4):=by
 show(if true=true then A true H else B true H)
 rw[if_pos rfl]
 exact h
theorem u9{i:Nat}{x:V}{σ:St}{H:Hp}{A B:St→Bool→Hp→Prop}(h:A (σ.set i (some x)) true H):qy i x σ H (fun σ3 H3=>wv σ3 H3 fun b H4=>if b=true then A σ3 b H4 else B σ3 b H4):=
 zf (σ:=σ.set i (some x)) (A:=A (σ.set i (some x))) (B:=B (σ.set i (some x))) h
structure Own (P:Program) (w:World) (K:PySem.W.Frag) (mg:Str→Option Value) (base:Heap) (k:Nat) (x:Str) (ps:List Str) (sp:Sp):Prop where
 ex:∃(f:Addr) (fd:FuncData),FnOk P w K mg base jA k f fd ps sp∧Binds K fd ps []∧mg x=some (.ref f)∧PySem.W.keepIn K (.ref f)=true
theorem BV{X:Cx}{k:Nat}{x:Str}{ps:List Str}{sp:Sp}{p pos:Pos}{e:Expr}{es:List Expr}{t:TA}(D:Own X.prog X.w X.K X.mg X.base k x ps sp)(hr:Room k X.A)(hg:Gl X x)(ha:PA X (e::es) t)
  (hdb:(x == ("__debug__":Str))=false:=by decide) (he:starEach (e::es) X.env=(false,eval e X.env)::starEach es X.env:=by rfl) (hpl:(backTo pos (starEach es X.env)).any (·.1)=false:=by rfl):
  PE X (.Call (.Name x p) (e::es) [] pos) (wk sp [] E0 t):=by
 obtain⟨f,fd,F,b,m,kp⟩:=D.ex
 exact yY F hr hg m kp b .nil tV ha hdb he hpl
structure Def (K:PySem.W.Frag) (mg:Str→Option Value) (x:Str) (st:Stmt) (ps:List Str):Prop where
 ex:∃(f:Addr) (fd:FuncData),Fun K x x st f fd∧mg x=some (.ref f)∧Binds K fd ps []
theorem Def.own{P:Program}{w:World}{K:PySem.W.Frag}{mg:Str→Option Value}{base:Heap}{x:Str}{st:Stmt}{N ps:List Str}{k:Nat}{sp:Sp}(D:Def K mg x st ps)(S:FnScope N ps (au st))
  (len:∀vs H Q E,sp vs H Q E→vs.length=ps.length)
  (hbody:∀(f:Addr) (cdv:Value) (A:Around) (outer:List Env) (s:Shared) (H:Hp) (vs:List V) (Q:VK) (E:XK),Room k (A.deeper (envOfC x (au st) s.heap.objs.size f cdv))→sp vs H Q E→
   ∃t,PSs (iW jA P w K mg base N x (au st) f cdv A outer s H E).nox (cB st) t∧t {nx:=fun _ H'=>Q .non H',rt:=Q} (dz N vs) H):Own P w K mg base (k+1) x ps sp:=by
 obtain⟨f,fd,F,m,b⟩:=D.ex
 exact⟨f,fd,F.ok S len (hbody f),b,m,F.kp⟩
theorem BW{K:PySem.W.Frag}{h:Heap}{mg:Str→Option Value}{x:Str}{st:Stmt}{ps:List Str}{f:Addr}{oc:Value}{od an:Option Addr}{osl:Array (Option Value)}{kV doc pm cdv ct:Value}(X:K.In h)(G:h.Ns mainGlobals mg)
  (a:PySem.W.nsIn K mainGlobals x=some (some (.ref f))) (l:K.lookup f=some ⟨oc,od,.func (PySem.W.fnOf x x (dR st) (cB st) (au st) .none kV doc pm an cdv ct),osl⟩)
  (c:PySem.W.codeIn K cdv x=true) (k:PySem.W.keepIn K (.ref f)=true)
  (b:∀(kV doc pm:Value) (an:Option Addr) (cdv ct:Value) (us:List Value),us.length=ps.length→bindArgs (PySem.W.fnOf x x (dR st) (cB st) (au st) .none kV doc pm an cdv ct) ⟨us,[]⟩=pure (ps.zip us)):Def K mg x st ps:=
 ⟨f,_,mY l c k,PySem.W.mg_of X G a,(mY (st:=st) l c k).binds b⟩
end L2
namespace Nh
open PySem L2
section
variable {α β:Type} {F:α→β→Prop}
theorem j0:∀{a:List α} {b:List β} {c:List α} {d:List β},Paired F a b→Paired F c d→Paired F (a++c) (b++d)
 |_,_,_,_,.nil,s=>s
 |_,_,_,_,.cons r t,s=>.cons r (j0 t s)
theorem t8:∀{a:List α} {b:List β} (n:Nat),Paired F a b→Paired F (a.take n) (b.take n)
 |_,_,0,_=>.nil
 |_,_,_+1,.nil=>.nil
 |_,_,n+1,.cons r t=>.cons r (t8 n t)
theorem t9:∀{a:List α} {b:List β} (n:Nat),Paired F a b→Paired F (a.drop n) (b.drop n)
 |_,_,0,r=>r
 |_,_,_+1,.nil=>.nil
 |_,_,n+1,.cons _ t=>t9 n t
theorem ky:∀{a:List α} {b:List β},Paired F a b→Paired F a.reverse b.reverse
 |_,_,.nil=>.nil
 |_,_,.cons r t=>by
  rw[List.reverse_cons,List.reverse_cons]
  exact j0 (ky t) (.cons r .nil)
theorem wx:∀{a:List α} {b:List β} {i:Nat} {x:α},Paired F a b→a[i]? =some x→∃y,b[i]? =some y∧F x y
 |_,_,_,_,.nil,e=>by simp at e
 |_,_,0,_,.cons r _,e=>by simp at e;subst e;exact⟨_,rfl,r⟩
 |_,_,i+1,x,.cons _ t,e=>by
  obtain⟨u,h1,h2⟩:=wx (i:=i) (x:=x) t (by simpa using e)
  exact⟨u,by simpa using h1,h2⟩
theorem t_:∀{a:List α} {b:List β} {i:Nat} {y:β},Paired F a b→b[i]? =some y→∃x,a[i]? =some x∧F x y
 |_,_,_,_,.nil,e=>by simp at e
 |_,_,0,_,.cons r _,e=>by simp at e;subst e;exact⟨_,rfl,r⟩
 |_,_,i+1,x,.cons _ t,e=>by
  obtain⟨u,h1,h2⟩:=t_ (i:=i) (y:=x) t (by simpa using e)
  exact⟨u,by simpa using h1,h2⟩
theorem wy{a:List α}{b:List β}(h:Paired F a b):∀k:Nat,Paired F (List.replicate k a).flatten (List.replicate k b).flatten
 | 0=>.nil
 |k+1=>by
  rw[List.replicate_succ,List.replicate_succ,List.flatten_cons,List.flatten_cons]
  exact j0 h (wy h k)
end
abbrev Pc:=Nat×Int
def tv(p:Pc):List V:=[.str ⟨#[p.1]⟩,.int p.2]
def FB(H:Hp)(v:V)(p:Pc):Prop:=∃t,v=.ref t∧H t=some (.tup (tv p))
abbrev PAll(H:Hp):List V→List Pc→Prop:=Paired (FB H)
section
variable {H H':Hp} {l:Addr} {xs ys:List V} {c:List Pc}
theorem PAll.same(s:Same H H')(h:PAll H xs c):PAll H' xs c:=Paired.mapP h fun _ _ ⟨t,e,q⟩=>⟨t,e,s _ _ q⟩
theorem PAll.len(h:PAll H xs c):xs.length=c.length:=Paired.length h
end
def Cord(H:Hp)(a:Addr)(c:List Pc):Prop:=∃xs,H a=some (.lst xs)∧PAll H xs c
section
variable {H H':Hp} {a:Addr} {c d:List Pc}
theorem Cord.same(s:Same H H')(h:Cord H a c):Cord H' a c:=let ⟨xs,e,p⟩:=h;⟨xs,s _ _ e,p.same s⟩
end
def cK(p:Pc):PyData:=.tuple [.str ⟨#[p.1]⟩,.int p.2]
def DG(c:List Pc):PyData:=.list (c.map cK)
def NailsOk(c:List Pc):Prop:=∀p∈c,p.1 < 128
theorem oV{K:PySem.W.Frag}{H:Hp}:∀{xs:List V} {c:List Pc},PAll H xs c→DAll K H xs (c.map cK)
 |_,_,.nil=>.nil
 |_,_,.cons ⟨t,e,q⟩ r=>by
  subst e
  exact .cons (.tup (SqT.of q) (.cons (.str _) (.cons (.int _) .nil))) (oV r)
theorem Cord.data{K:PySem.W.Frag}{H:Hp}{a:Addr}{c:List Pc}(h:Cord H a c):DOf K H (.ref a) (DG c):=
 let ⟨_,e,p⟩:=h; .lst (SqL.of e) (oV p)
theorem DH{p:Pc}(h:p.1 < 128):(cK p).canLay0=true:=by
 have:p.1 < 1114112:=by omega
 simp[cK,PyData.canLay0,PyData.canLayAll0,PyData.strOk,this]
theorem BX(p q:Pc):PyData.eqv (cK p) (cK q)=decide (p=q):=by
 obtain⟨n,a⟩:=p
 obtain⟨m,b⟩:=q
 simp only[cK,PyData.eqv,PyData.eqvAll,Bool.and_true]
 rw[Bool.eq_iff_iff]
 simp
end Nh
namespace PL
open PySem PySem.Spec PyProof.Rows L2 Nh
def FC:iJ→PyData
 |.inl i=>.int i
 |.inr x=>.str x
def gD(a C:Addr):Heap→Prop:=fun h=>∃o,h.get? a=some o∧o.cls=.ref C
def mZ:List Str:=["pieces","cord","made","text"]
def qH:PyData×PyData→Bool
 |(.none,.tuple [.str _])=>true
 |(.none,.tuple [])=>true
 |_=>false
abbrev fj(cn:Str)(kvs:List (PyData×PyData)):PyData:=.dict ((.none,.tuple [.str cn])::kvs)
mutual
inductive Rp (K:PySem.W.Frag) (H:Hp):V→PyData→Prop
 |non:Rp K H .non .none
 |bl (b:Bool):Rp K H (.bl b) (.bool b)
 |int (i:Int):Rp K H (.int i) (.int i)
 |str (x:Str):Rp K H (.str x) (.str x)
 |lst {a:Addr} {xs:List V} {ds:List PyData}:SqL K H a xs→RpA K H xs ds→Rp K H (.ref a) (.list ds)
 |tup {a:Addr} {xs:List V} {ds:List PyData}:SqT K H a xs→RpA K H xs ds→Rp K H (.ref a) (.tuple ds)
 |dct {a:Addr} {us:List (iJ×V)} {kvs:List (PyData×PyData)}:Rd H a (.dK us)→RpK K H us kvs→Rp K H (.ref a) (.dict kvs)
 |obj {a C dx:Addr} {cn:Str} {fs:List (Str×V)} {kvs:List (PyData×PyData)}:PySem.W.nsIn K mainGlobals cn=some (some (.ref C))→H a=some (.ins C dx fs)→(∀m∈mZ,fs.lookup m=none)→RpN K H fs kvs→Rp K H (.ref a) (.dict ((.none,.tuple [.str cn])::kvs))
 |frl {a:Addr} {o:Obj} {xs:List V} {ds:List PyData}:H a=some (.frz o (.lst xs))→RpA K H xs ds→Rp K H (.ref a) (.dict [(.none,.tuple []),(.none,.tuple ds)])
 |exc {a C:Addr} {n:Str} {o:Obj}:H a=some (.frz o (.ext (gD a C)))→PySem.W.nsIn K mainGlobals n=some (some (.ref C))→Rp K H (.ref a) (.dict [(.none,.str n)])
inductive RpA (K:PySem.W.Frag) (H:Hp):List V→List PyData→Prop
 |nil:RpA K H [] []
 |cons {x:V} {xs:List V} {d:PyData} {ds:List PyData}:Rp K H x d→RpA K H xs ds→RpA K H (x::xs) (d::ds)
inductive RpK (K:PySem.W.Frag) (H:Hp):List (iJ×V)→List (PyData×PyData)→Prop
 |nil:RpK K H [] []
 |cons {k:iJ} {x:V} {us:List (iJ×V)} {d:PyData} {kvs:List (PyData×PyData)}:Rp K H x d→RpK K H us kvs→RpK K H ((k,x)::us) ((FC k,d)::kvs)
inductive RpN (K:PySem.W.Frag) (H:Hp):List (Str×V)→List (PyData×PyData)→Prop
 |nil {fs:List (Str×V)}:RpN K H fs []
 |cons {fs:List (Str×V)} {f:Str} {x:V} {d:PyData} {kvs:List (PyData×PyData)}:fs.lookup f=some x→Rp K H x d→RpN K H fs kvs→RpN K H fs ((.str f,d)::kvs)
end
mutual
def aJ:PyData→Bool
 |.none=>true
 |.bool _=>true
 |.int _=>true
 |.str _=>true
 |.list _=>false
 |.tuple xs=>bg xs
 |.dict kvs=>mh kvs
def bg:List PyData→Bool
 |[]=>true
 |d::ds=>aJ d&&bg ds
def m6:PyData×PyData→Bool
 |(_,d)=>aJ d
def kU:List (PyData×PyData)→Bool
 |[]=>true
 |p::r=>m6 p&&kU r
def mh:List (PyData×PyData)→Bool
 |[]=>false
 |p::r=>qH p&&kU r
end
def AN:HO→Bool
 |.tup _=>true
 |.frz _ _=>true
 |.ins _ _ _=>true
 |_=>false
def tups(H:Hp):Hp:=fun b=>(H b).filter AN
theorem j3(H:Hp):Same (tups H) H:=fun b o h=>(Option.filter_eq_some_iff.mp h).1
theorem gc{H:Hp}{b:Addr}{o:HO}(h:H b=some o)(c:AN o=true):tups H b=some o:=Option.filter_eq_some_iff.mpr ⟨h,c⟩
theorem qI{H:Hp}{l:Addr}{xs ys:List V}(h:H l=some (.lst xs)):tups (upd H l (.lst ys))=tups H:=by
 funext b
 unfold tups
 by_cases e:b=l
 ·subst e
  rw[upd_same,h]
  rfl
 ·rw[aC e]
section
variable {K:PySem.W.Frag} {H H':Hp}
theorem RpK.hot{us:List (iJ×V)}{kvs:List (PyData×PyData)}(h:RpK K H us kvs):aJ (.dict kvs)=false:=by
 cases h with
 |nil=>rfl
 | @cons k x us d kvs a b=>cases k <;> rfl
theorem wz{a:Addr}{xs:List V}(h:SqT K H a xs):SqT K (tups H) a xs:=by
 rcases h with(h |⟨o,h⟩) |h
 ·exact .inl (.inl (gc h rfl))
 ·exact .inl (.inr ⟨o,gc h rfl⟩)
 ·exact .inr h
theorem zh{a:Addr}{u:HO}(s:Same H H')(h:Rd H a u):Rd H' a u:=by
 rcases h with h |⟨o,h⟩
 ·exact .inl (s _ _ h)
 ·exact .inr ⟨o,s _ _ h⟩
mutual
theorem Rp.same(s:Same H H'):∀{v:V} {d:PyData},Rp K H v d→Rp K H' v d
 |_,_,.non=>.non
 |_,_,.bl b=>.bl b
 |_,_,.int i=>.int i
 |_,_,.str x=>.str x
 |_,_,.lst h r=>.lst (s.seq h) (RpA.same s r)
 |_,_,.tup h r=>.tup (s.tup h) (RpA.same s r)
 |_,_,.dct h r=>.dct (zh s h) (RpK.same s r)
 |_,_,.obj c h n r=>.obj c (s _ _ h) n (RpN.same s r)
 |_,_,.frl h r=>.frl (s _ _ h) (RpA.same s r)
 |_,_,.exc h r=>.exc (s _ _ h) r
theorem RpA.same(s:Same H H'):∀{v:List V} {d:List PyData},RpA K H v d→RpA K H' v d
 |_,_,.nil=>.nil
 |_,_,.cons h r=>.cons (Rp.same s h) (RpA.same s r)
theorem RpK.same(s:Same H H'):∀{v:List (iJ×V)} {d:List (PyData×PyData)},RpK K H v d→RpK K H' v d
 |_,_,.nil=>.nil
 |_,_,.cons h r=>.cons (Rp.same s h) (RpK.same s r)
theorem RpN.same(s:Same H H'):∀{v:List (Str×V)} {d:List (PyData×PyData)},RpN K H v d→RpN K H' v d
 |_,_,.nil=>.nil
 |_,_,.cons l h r=>.cons l (Rp.same s h) (RpN.same s r)
end
mutual
theorem Rp.cold:∀{v:V} {d:PyData},Rp K H v d→aJ d=true→Rp K (tups H) v d
 |_,_,.non,_=>.non
 |_,_,.bl b,_=>.bl b
 |_,_,.int i,_=>.int i
 |_,_,.str x,_=>.str x
 |_,_,.lst h r,e=>by simp[aJ]at e
 |_,_,.dct h r,e=>by rw[r.hot]at e;cases e
 |_,_,.obj c h n r,e=>.obj c (gc h rfl) n (RpN.cold r (by simpa[aJ,mh,qH]using e))
 |_,_,.frl h r,e=>.frl (gc h rfl) (RpA.cold r (by simpa[aJ,mh,kU,m6,qH]using e))
 |_,_,.exc h r,e=>by simp[aJ,mh,qH]at e
 |_,_,.tup h r,e=>.tup (wz h) (RpA.cold r (by simpa[aJ]using e))
theorem RpA.cold:∀{v:List V} {d:List PyData},RpA K H v d→bg d=true→RpA K (tups H) v d
 |_,_,.nil,_=>.nil
 |_,_,.cons h r,e=>by
  simp only[bg,Bool.and_eq_true]at e
  exact .cons (Rp.cold h e.1) (RpA.cold r e.2)
theorem RpN.cold:∀{v:List (Str×V)} {d:List (PyData×PyData)},RpN K H v d→kU d=true→RpN K (tups H) v d
 |_,_,.nil,_=>.nil
 |_,_,.cons l h r,e=>by
  simp only[kU,m6,Bool.and_eq_true]at e
  exact .cons l (Rp.cold h e.1) (RpN.cold r e.2)
end
mutual
theorem Rp.dof':∀{v:V} {d:PyData},Rp K H v d→d.canLay0=true→DOf K H v d
 |_,_,.non,_=>.non
 |_,_,.bl b,_=>.bl b
 |_,_,.int i,_=>.int i
 |_,_,.str x,_=>.str x
 |_,_,.lst h r,e=>.lst h (RpA.dof' r (by simpa[PyData.canLay0]using e))
 |_,_,.tup h r,e=>.tup h (RpA.dof' r (by simpa[PyData.canLay0]using e))
 |_,_,.dct h r,e=>by simp[PyData.canLay0]at e
 |_,_,.obj c h n r,e=>by simp[PyData.canLay0]at e
 |_,_,.frl h r,e=>by simp[PyData.canLay0]at e
 |_,_,.exc h r,e=>by simp[PyData.canLay0]at e
theorem RpA.dof':∀{v:List V} {d:List PyData},RpA K H v d→PyData.canLayAll0 d=true→DAll K H v d
 |_,_,.nil,_=>.nil
 |_,_,.cons h r,e=>by
  simp only[PyData.canLayAll0,Bool.and_eq_true]at e
  exact .cons (Rp.dof' h e.1) (RpA.dof' r e.2)
end
theorem Rp.dof{v:V}{d:PyData}(h:Rp K H v d)(e:SeqAt.shaped d=true):DOf K H v d:=h.dof' (SeqAt.canLay_of_shaped e)
theorem RpA.pr:∀{vs:List V} {ds:List PyData},RpA K H vs ds→Paired (Rp K H) vs ds
 |_,_,.nil=>.nil
 |_,_,.cons h r=>.cons h (RpA.pr r)
theorem RpA.of{vs:List V}{ds:List PyData}(h:Paired (Rp K H) vs ds):RpA K H vs ds:=by
 induction h with
 |nil=>exact .nil
 |cons a _ b=>exact .cons a b
theorem RpA.len{vs:List V}{ds:List PyData}(h:RpA K H vs ds):vs.length=ds.length:=Paired.length h.pr
theorem RpA.append{vs us:List V}{ds es:List PyData}(h:RpA K H vs ds)(k:RpA K H us es):RpA K H (vs++us) (ds++es):=.of (j0 h.pr k.pr)
theorem RpA.take{vs:List V}{ds:List PyData}(n:Nat)(h:RpA K H vs ds):RpA K H (vs.take n) (ds.take n):=.of (t8 n h.pr)
theorem RpA.drop{vs:List V}{ds:List PyData}(n:Nat)(h:RpA K H vs ds):RpA K H (vs.drop n) (ds.drop n):=.of (t9 n h.pr)
theorem RpA.rev{vs:List V}{ds:List PyData}(h:RpA K H vs ds):RpA K H vs.reverse ds.reverse:=.of (ky h.pr)
theorem RpA.rep{vs:List V}{ds:List PyData}(n:Nat)(h:RpA K H vs ds):RpA K H (List.replicate n vs).flatten (List.replicate n ds).flatten:=.of (wy h.pr n)
theorem RpA.get{vs:List V}{ds:List PyData}{i:Nat}{d:PyData}(h:RpA K H vs ds)(e:ds[i]? =some d):∃v,vs[i]? =some v∧Rp K H v d:=t_ h.pr e
theorem RpA.getV{vs:List V}{ds:List PyData}{i:Nat}{v:V}(h:RpA K H vs ds)(e:vs[i]? =some v):∃d,ds[i]? =some d∧Rp K H v d:=wx h.pr e
theorem RpA.set:∀{vs:List V} {ds:List PyData} {v:V} {d:PyData} (i:Nat),RpA K H vs ds→Rp K H v d→RpA K H (vs.set i v) (ds.set i d)
 |_,_,_,_,_,.nil,_=>.nil
 |_,_,_,_,0,.cons _ r,h=>.cons h r
 |_,_,_,_,i+1,.cons q r,h=>.cons q (RpA.set i r h)
theorem RpA.snoc{vs:List V}{ds:List PyData}{v:V}{d:PyData}(h:RpA K H vs ds)(k:Rp K H v d):RpA K H (vs++[v]) (ds++[d]):=h.append (.cons k .nil)
end
inductive Pt where
 |fl (d:PyData) |ol (ds:List PyData)
def Pt.val:Pt→PyData
 |.fl d=>d
 |.ol ds=>.list ds
inductive Sl where
 /-- nothing is known -/
 |no
 /-- never written again -/
 |sh (d:PyData)
 /-- a list of one's own -/
 |ow (ds:List PyData)
 /-- a dict of one's own,its values lists of one's own -/
 |od (kvs:List (iJ×List PyData))
 /-- a tuple with lists of one's own -/
 |tx (ps:List Pt)
 /-- (a part of an expression) the value of a name -/
 |al (i:Nat)
 /-- (a part of an expression) as it stands just now -/
 |br (d:PyData)
def PtsOk(K:PySem.W.Frag)(F H:Hp):List V→List Pt→List Addr→Prop
 |[],[],A=>A=[]
 |v::vs,.fl d::ps,A=>Rp K F v d∧PtsOk K F H vs ps A
 |v::vs,.ol ds::ps,A=>∃l us A',v=.ref l∧A=l::A'∧H l=some (.lst us)∧RpA K F us ds∧PtsOk K F H vs ps A'
 |_,_,_=>False
def DlOk(K:PySem.W.Frag)(F H:Hp):List (iJ×V)→List (iJ×List PyData)→List Addr→Prop
 |[],[],A=>A=[]
 |p::us,q::kvs,A=>∃l vs A',p=(q.1,.ref l)∧A=l::A'∧H l=some (.lst vs)∧RpA K F vs q.2∧DlOk K F H us kvs A'
 |_,_,_=>False
def SlOk(K:PySem.W.Frag)(F H:Hp)(σ:L2.St)(o:Option V):Sl→List Addr→Prop
 |.no,A=>A=[]
 |.sh d,A=>A=[]∧∃v,o=some v∧Rp K F v d
 |.ow ds,A=>∃l vs,o=some (.ref l)∧A=[l]∧H l=some (.lst vs)∧RpA K F vs ds
 |.od kvs,A=>∃l us A',o=some (.ref l)∧A=l::A'∧H l=some (.dK us)∧DlOk K F H us kvs A'
 |.tx ps,A=>∃t vs,o=some (.ref t)∧F t=some (.tup vs)∧PtsOk K F H vs ps A
 |.al i,A=>A=[]∧∃v,o=some v∧σ[i]? =some (some v)
 |.br d,A=>A=[]∧∃v,o=some v∧Rp K H v d
def Sl.isBr:Sl→Bool
 |.br _=>true
 |_=>false
def Sl.isAl:Sl→Bool
 |.al _=>true
 |.br _=>true
 |_=>false
section
variable {K:PySem.W.Frag} {F F' H H':Hp} {σ σ':L2.St}
theorem PtsOk.stay(s:Same F F'):∀{vs:List V} {ps:List Pt} {A:List Addr},(∀b∈A,H' b=H b)→PtsOk K F H vs ps A→PtsOk K F' H' vs ps A
 |[],[],A,_,h=>h
 |v::vs,.fl d::ps,A,e,h=>⟨h.1.same s,PtsOk.stay s e h.2⟩
 |v::vs,.ol ds::ps,A,e,h=>by
  obtain⟨l,us,A',rfl,rfl,hl,hr,q⟩:=h
  exact⟨l,us,A',rfl,rfl,(e l (List.mem_cons_self ..)).trans hl,hr.same s,q.stay s fun b hb=>e b (List.mem_cons_of_mem _ hb)⟩
 |[],_::_,_,_,h=>False.elim h
 |_::_,[],_,_,h=>False.elim h
theorem DlOk.stay(s:Same F F'):∀{us:List (iJ×V)} {kvs:List (iJ×List PyData)} {A:List Addr},(∀b∈A,H' b=H b)→DlOk K F H us kvs A→DlOk K F' H' us kvs A
 |[],[],A,_,h=>h
 |p::us,q::kvs,A,e,h=>by
  obtain⟨l,vs,A',rfl,rfl,hl,hr,k⟩:=h
  exact⟨l,vs,A',rfl,rfl,(e l (List.mem_cons_self ..)).trans hl,hr.same s,k.stay s fun b hb=>e b (List.mem_cons_of_mem _ hb)⟩
 |[],_::_,_,_,h=>False.elim h
 |_::_,[],_,_,h=>False.elim h
theorem DlOk.some:∀{us:List (iJ×V)} {kvs:List (iJ×List PyData)} {A:List Addr},DlOk K F H us kvs A→∀a∈A,∃vs,H a=some (.lst vs)
 |[],[],A,h,a,ha=>by rw[show A=[]from h]at ha;cases ha
 |p::us,q::kvs,A,h,a,ha=>by
  obtain⟨l,vs,A',rfl,rfl,hl,hr,k⟩:=h
  rcases List.mem_cons.mp ha with e |e
  ·subst e;exact⟨vs,hl⟩
  ·exact k.some a e
 |[],_::_,_,h,_,_=>False.elim h
 |_::_,[],_,h,_,_=>False.elim h
theorem PtsOk.some:∀{vs:List V} {ps:List Pt} {A:List Addr},PtsOk K F H vs ps A→∀a∈A,∃us,H a=some (.lst us)
 |[],[],A,h,a,ha=>by rw[show A=[]from h]at ha;cases ha
 |v::vs,.fl d::ps,A,h,a,ha=>PtsOk.some h.2 a ha
 |v::vs,.ol ds::ps,A,h,a,ha=>by
  obtain⟨l,us,A',rfl,rfl,hl,hr,q⟩:=h
  rcases List.mem_cons.mp ha with e |e
  ·subst e;exact⟨us,hl⟩
  ·exact q.some a e
 |[],_::_,_,h,_,_=>False.elim h
 |_::_,[],_,h,_,_=>False.elim h
theorem PtsOk.rp(s:Same F H):∀{vs:List V} {ps:List Pt} {A:List Addr},PtsOk K F H vs ps A→RpA K H vs (ps.map Pt.val)
 |[],[],A,_=>.nil
 |v::vs,.fl d::ps,A,h=>.cons (h.1.same s) (PtsOk.rp s h.2)
 |v::vs,.ol ds::ps,A,h=>by
  obtain⟨l,us,A',rfl,rfl,hl,hr,q⟩:=h
  exact .cons (.lst (SqL.of hl) (hr.same s)) (q.rp s)
 |[],_::_,_,h=>False.elim h
 |_::_,[],_,h=>False.elim h
theorem SlOk.stay{o:Option V}{s:Sl}{A:List Addr}(hF:Same F F')(e:∀b∈A,H' b=H b)(hb:s.isBr=true→Same H H')(h:SlOk K F H σ o s A):SlOk K F' H' σ o s A:=by
 cases s with
 |no=>exact h
 |sh d=>obtain⟨rfl,v,rfl,r⟩:=h;exact⟨rfl,v,rfl,r.same hF⟩
 |ow ds=>obtain⟨l,vs,rfl,rfl,hl,r⟩:=h;exact⟨l,vs,rfl,rfl,(e l (by simp)).trans hl,r.same hF⟩
 |od kvs=>obtain⟨l,us,A',rfl,rfl,hl,r⟩:=h;exact⟨l,us,A',rfl,rfl,(e l (by simp)).trans hl,r.stay hF fun b hb=>e b (List.mem_cons_of_mem _ hb)⟩
 |tx ps=>obtain⟨t,vs,rfl,ht,r⟩:=h;exact⟨t,vs,rfl,hF _ _ ht,r.stay hF e⟩
 |al i=>exact h
 |br d=>obtain⟨rfl,v,rfl,r⟩:=h;exact⟨rfl,v,rfl,r.same (hb rfl)⟩
theorem SlOk.mut{o:Option V}{s:Sl}{A:List Addr}(h:SlOk K F H σ o s A):∀a∈A,(∃us,H a=some (.lst us))∨∃us,H a=some (.dK us):=by
 cases s with
 |no=>intro a ha;rw[show A=[]from h]at ha;cases ha
 |sh d=>obtain⟨rfl,_⟩:=h;intro a ha;cases ha
 |ow ds=>obtain⟨l,vs,rfl,rfl,hl,r⟩:=h;intro a ha;rw[List.mem_singleton.mp ha];exact .inl ⟨_,hl⟩
 |od kvs=>
  obtain⟨l,vs,A',rfl,rfl,hl,r⟩:=h
  intro a ha
  rcases List.mem_cons.mp ha with z |z
  ·rw[z];exact .inr ⟨_,hl⟩
  ·exact .inl (r.some a z)
 |tx ps=>obtain⟨t,vs,rfl,ht,r⟩:=h;exact fun a ha=>.inl (r.some a ha)
 |al i=>obtain⟨rfl,_⟩:=h;intro a ha;cases ha
 |br d=>obtain⟨rfl,_⟩:=h;intro a ha;cases ha
end
inductive SAll (P:Option V→Sl→List Addr→Prop):List (Option V)→List Sl→List Addr→Prop
 |nil:SAll P [] [] []
 |cons {o:Option V} {s:Sl} {A:List Addr} {os:List (Option V)} {ss:List Sl} {B:List Addr}:P o s A→SAll P os ss B→SAll P (o::os) (s::ss) (A++B)
section
variable {P P':Option V→Sl→List Addr→Prop}
theorem SAll.len{os:List (Option V)}{ss:List Sl}{A:List Addr}(h:SAll P os ss A):os.length=ss.length:=by
 induction h with
 |nil=>rfl
 |cons _ _ b=>exact congrArg (· +1) b
theorem SAll.mono{os:List (Option V)}{ss:List Sl}{A:List Addr}(h:SAll P os ss A):(∀o s B,s∈ss→(∀b∈B,b∈A)→P o s B→P' o s B)→SAll P' os ss A:=by
 induction h with
 |nil=>exact fun _=>.nil
 |cons h _ r=>exact fun f=>.cons (f _ _ _ (List.mem_cons_self ..) (fun b hb=>List.mem_append_left _ hb) h) (r fun o s B hs hB q=>f o s B (List.mem_cons_of_mem _ hs) (fun b hb=>List.mem_append_right _ (hB b hb)) q)
theorem SAll.all{R:Addr→Prop}(hR:∀o s B,P o s B→∀b∈B,R b){os:List (Option V)}{ss:List Sl}{A:List Addr}(h:SAll P os ss A):∀a∈A,R a:=by
 induction h with
 |nil=>exact fun _ ha=>nomatch ha
 |cons h _ r=>exact fun a ha=>(List.mem_append.mp ha).elim (hR _ _ _ h a) (r a)
theorem SAll.at:∀{os:List (Option V)} {ss:List Sl} {A:List Addr} {k:Nat} {s:Sl},SAll P os ss A→ss[k]? =some s→
  ∃o A0 A1 A2,A=A0++(A1++A2)∧os[k]? =some o∧P o s A1∧∀(P':Option V→Sl→List Addr→Prop) (o':Option V) (s':Sl) (A1':List Addr),P' o' s' A1'→
   (∀o s B,s∈ss→(∀b∈B,b∈A0∨b∈A2)→P o s B→P' o s B)→SAll P' (os.set k o') (ss.set k s') (A0++(A1'++A2))
 |_,_,_,_,_,.nil,e=>by simp at e
 |_,_,_,0,s,.cons (o:=o) (A:=A) (B:=B) h r,e=>by
  simp at e;subst e
  refine⟨o,[],A,B,by simp,rfl,h,fun P' o' s' A1' h' f=>?_⟩
  have z:SAll P' _ _ (A1'++B):=.cons h' (r.mono (P':=P') fun o s B hs hB q=>f o s B (List.mem_cons_of_mem _ hs) (fun b hb=>.inr (hB b hb)) q)
  exact z
 |_,_,_,k+1,s,.cons (o:=o) (A:=A) (B:=B) h r,e=>by
  obtain⟨o2,A0,A1,A2,eA,eo,hp,f⟩:=r.at (k:=k) (s:=s) (by simpa using e)
  subst eA
  refine⟨o2,A++A0,A1,A2,by simp,by simpa using eo,hp,fun P' o' s' A1' h' g=>?_⟩
  have z:=f P' o' s' A1' h' fun o s B hs hB q=>g o s B (List.mem_cons_of_mem _ hs) (fun b hb=>(hB b hb).imp (fun x=>List.mem_append_right _ x) id) q
  rw[List.append_assoc]
  exact .cons (g _ _ _ (List.mem_cons_self ..) (fun b hb=>.inl (List.mem_append_left _ hb)) h) z
end
end PL
namespace PL
open PySem L2 Nh
abbrev Sg:=L2.St
structure FrF (K:PySem.W.Frag) (B F:Hp) (A:List Addr) (σ:Sg) (H:Hp) (E:List Sl) (xs:List V) (Xs:List Sl):Prop where
 bf:Same B F
 fh:Same F H
 tf:Same (tups H) F
 sl:SAll (SlOk K F H σ) (xs.map some++σ) (Xs++E) A
 nd:A.Nodup
 fr:∀a∈A,F a=none
 len:xs.length=Xs.length
 pl:∀s∈E,s.isAl=false
def Frm(K:PySem.W.Frag)(B:Hp)(σ:Sg)(H:Hp)(E:List Sl)(xs:List V)(Xs:List Sl):Prop:=∃F A,FrF K B F A σ H E xs Xs
def Sl.val:Sl→Option PyData
 |.sh d=>some d
 |.ow ds=>some (.list ds)
 |.tx ps=>some (.tuple (ps.map Pt.val))
 |.br d=>some d
 |_=>none
def look(E:List Sl):Sl→Option PyData
 |.al i=>(E[i]?).bind Sl.val
 |s=>s.val
def aV:Sl→Bool
 |.br _=>true
 |.tx _=>true
 |_=>false
def hot(E:List Sl):Sl→Bool
 |.al i=>(E[i]?).any aV
 |s=>aV s
def RpF(K:PySem.W.Frag)(F H:Hp)(v:V):PyData→Prop
 |.list ds=>∃a vs,v=.ref a∧SqL K H a vs∧RpA K F vs ds
 |d=>Rp K F v d
def qJ(F H:Hp)(A:List Addr):Hp:=fun b=>if b∈A then H b else F b
theorem pM{F H:Hp}{A:List Addr}{b:Addr}(h:b∈A):qJ F H A b=H b:=if_pos h
theorem m7{F H:Hp}{A:List Addr}{b:Addr}(h:b∉A):qJ F H A b=F b:=if_neg h
section
variable {K:PySem.W.Frag} {B F:Hp} {A:List Addr} {σ:Sg} {H:Hp} {E:List Sl} {xs:List V} {Xs:List Sl} {v:V} {s:Sl} {d:PyData}
theorem RpF.of(h:Rp K F v d)(s:Same F H):RpF K F H v d:=by
 cases h with
 |lst h r=>exact⟨_,_,rfl,s.seq h,r⟩
 |non=>exact .non
 |bl b=>exact .bl b
 |int i=>exact .int i
 |str x=>exact .str x
 |tup h r=>exact .tup h r
 |dct h r=>exact .dct h r
 |obj c h n r=>exact .obj c h n r
 |frl h r=>exact .frl h r
 |exc h r=>exact .exc h r
theorem SlOk.val{o:Option V}{A1:List Addr}(h:SlOk K F H σ o s A1)(hF:Same F H)(e:s.val=some d):∃v,o=some v∧Rp K H v d∧(aV s=false→RpF K F H v d):=by
 cases s with
 |no=>cases e
 |sh d'=>
  obtain⟨rfl,v,rfl,r⟩:=h
  cases e
  exact⟨v,rfl,r.same hF,fun _=>RpF.of r hF⟩
 |ow ds=>
  obtain⟨l,vs,rfl,rfl,hl,r⟩:=h
  cases e
  exact⟨_,rfl,.lst (SqL.of hl) (r.same hF),fun _=>⟨_,_,rfl,SqL.of hl,r⟩⟩
 |od kvs=>cases e
 |tx ps=>
  obtain⟨t,vs,rfl,ht,r⟩:=h
  cases e
  exact⟨_,rfl,.tup (SqT.of (hF _ _ ht)) (r.rp hF),fun z=>by cases z⟩
 |al i=>cases e
 |br d'=>
  obtain⟨rfl,v,rfl,r⟩:=h
  cases e
  exact⟨v,rfl,r,fun z=>by cases z⟩
theorem FrF.slen(h:FrF K B F A σ H E xs Xs):σ.length=E.length:=by
 have e:=h.sl.len
 have:=h.len
 simp only[List.length_append,List.length_map]at e
 omega
theorem FrF.var{i:Nat}(h:FrF K B F A σ H E xs Xs)(e:E[i]? =some s):∃o A1,σ[i]? =some o∧SlOk K F H σ o s A1:=by
 obtain⟨o,A0,A1,A2,eA,eo,hp,_⟩:=h.sl.at (k:=Xs.length+i) (s:=s) (by rw[List.getElem?_append_right (by omega)];simpa using e)
 rw[List.getElem?_append_right (by rw[List.length_map,h.len];omega),List.length_map,h.len,Nat.add_sub_cancel_left]at eo
 exact⟨o,A1,eo,hp⟩
theorem FrF.ext{k:Nat}(h:FrF K B F A σ H E xs Xs)(e:Xs[k]? =some s):∃v A1,xs[k]? =some v∧SlOk K F H σ (some v) s A1:=by
 have hk:k < Xs.length:=(List.getElem?_eq_some_iff.mp e).1
 obtain⟨o,A0,A1,A2,eA,eo,hp,_⟩:=h.sl.at (k:=k) (s:=s) (by rw[List.getElem?_append_left hk];exact e)
 rw[List.getElem?_append_left (by rw[List.length_map,h.len];omega),List.getElem?_map]at eo
 cases q:xs[k]? with
 |none=>rw[q]at eo;cases eo
 |some v=>rw[q]at eo;cases eo;exact⟨v,A1,rfl,hp⟩
theorem FrF.look{k:Nat}(h:FrF K B F A σ H E xs Xs)(e:Xs[k]? =some s)(q:look E s=some d):∃v,xs[k]? =some v∧Rp K H v d∧(hot E s=false→RpF K F H v d):=by
 obtain⟨v,A1,ev,hs⟩:=h.ext e
 cases s with
 |al i=>
  obtain⟨rfl,w,ew,hw⟩:=hs
  cases ew
  cases ei:E[i]? with
  |none=>simp[PL.look,ei]at q
  |some t=>
   obtain⟨o,A2,eo,ht⟩:=h.var ei
   rw[hw]at eo
   cases eo
   obtain⟨v',e',r,c⟩:=ht.val h.fh (d:=d) (by simpa[PL.look,ei]using q)
   cases e'
   exact⟨v,ev,r,fun z=>c (by simpa[hot,ei]using z)⟩
 |no=>cases q
 |od kvs=>cases q
 |sh d'=>obtain⟨v',e',r,c⟩:=hs.val h.fh q;cases e';exact⟨v,ev,r,c⟩
 |ow ds=>obtain⟨v',e',r,c⟩:=hs.val h.fh q;cases e';exact⟨v,ev,r,c⟩
 |tx ps=>obtain⟨v',e',r,c⟩:=hs.val h.fh q;cases e';exact⟨v,ev,r,c⟩
 |br d'=>obtain⟨v',e',r,c⟩:=hs.val h.fh q;cases e';exact⟨v,ev,r,c⟩
theorem FrF.look0(h:FrF K B F A σ H E (v::xs) (s::Xs))(q:PL.look E s=some d):Rp K H v d∧(hot E s=false→RpF K F H v d):=by
 obtain⟨v',e,r⟩:=h.look (k:=0) rfl q
 cases e
 exact r
theorem FrF.look1{w:V}{t:Sl}(h:FrF K B F A σ H E (w::v::xs) (t::s::Xs))(q:PL.look E s=some d):Rp K H v d∧(hot E s=false→RpF K F H v d):=by
 obtain⟨v',e,r⟩:=h.look (k:=1) rfl q
 cases e
 exact r
theorem FrF.mutA(h:FrF K B F A σ H E xs Xs):∀a∈A,(∃us,H a=some (.lst us))∨∃us,H a=some (.dK us):=
 SAll.all (R:=fun a=>(∃us,H a=some (.lst us))∨∃us,H a=some (.dK us)) (fun _ _ _ q=>q.mut) h.sl
theorem FrF.newA{p:Addr}(h:FrF K B F A σ H E xs Xs)(hp:H p=none):p∉A:=fun hm=>by
 rcases h.mutA p hm with⟨_,z⟩ |⟨_,z⟩ <;> rw[hp]at z <;> cases z
theorem FrF.cold{u:V}{e:PyData}(h:FrF K B F A σ H E xs Xs)(r:Rp K H u e)(f:aJ e=true):Rp K F u e:=(r.cold f).same h.tf
theorem FrF.coldA{us:List V}{es:List PyData}(h:FrF K B F A σ H E xs Xs)(r:RpA K H us es)(f:bg es=true):RpA K F us es:=(r.cold f).same h.tf
theorem FrF.push(h:FrF K B F A σ H E xs Xs)(q:SlOk K F H σ (some v) s []):FrF K B F A σ H E (v::xs) (s::Xs):=
 ⟨h.bf,h.fh,h.tf,.cons (A:=[]) q h.sl,h.nd,h.fr,by simp[h.len],h.pl⟩
theorem FrF.pop(h:FrF K B F A σ H E (v::xs) (s::Xs)):∃A',FrF K B F A' σ H E xs Xs:=by
 obtain⟨bf,fh,tf,sl,nd,fr,len,pl⟩:=h
 generalize hT:List.map some (v::xs)++σ=T at sl
 generalize hS:(s::Xs)++E=S at sl
 cases sl with
 |nil=>cases hS
 |cons q r=>
  injection hT with _ hT
  injection hS with _ hS
  subst hT hS
  exact⟨_,bf,fh,tf,r,(List.nodup_append.mp nd).2.1,fun a ha=>fr a (List.mem_append_right _ ha),by simpa using len,pl⟩
theorem FrF.grow{H':Hp}(h:FrF K B F A σ H E xs Xs)(g:Same H H'):FrF K B (fun b=>if b∈A then none else H' b) A σ H' E xs Xs:=by
 have nF:∀b o,F b=some o→b∉A:=fun b o e hb=>by rw[h.fr b hb]at e;cases e
 have FF:Same F (fun b=>if b∈A then none else H' b):=fun b o e=>by
  show(if b∈A then none else H' b)=some o
  rw[if_neg (nF b o e)]
  exact g _ _ (h.fh _ _ e)
 have hA:∀b∈A,H' b=H b:=fun b hb=>by
  rcases h.mutA b hb with⟨_,z⟩ |⟨_,z⟩ <;> rw[z,g _ _ z]
 refine⟨h.bf.trans FF,fun b o e=>?_,fun b o e=>?_,h.sl.mono fun o s C _ hC q=>q.stay FF (fun b hb=>hA b (hC b hb)) fun _=>g,h.nd,fun a ha=>if_pos ha,h.len,h.pl⟩
 ·by_cases hb:b∈A
  ·rw[if_pos hb]at e;cases e
  ·rw[if_neg hb]at e;exact e
 ·obtain⟨e1,e2⟩:=Option.filter_eq_some_iff.mp e
  show(if b∈A then none else H' b)=some o
  by_cases hb:b∈A
  ·rw[hA b hb]at e1
   rcases h.mutA b hb with⟨_,z⟩ |⟨_,z⟩ <;> rw[z]at e1 <;> cases e1 <;> cases e2
  ·rw[if_neg hb];exact e1
theorem FrF.newl{p:Addr}{vs:List V}{ds:List PyData}(h:FrF K B F A σ H E xs Xs)(r:RpA K F vs ds)(hp:H p=none):FrF K B F (p::A) σ (upd H p (.lst vs)) E (.ref p::xs) (.ow ds::Xs):=by
 have g:Same H (upd H p (.lst vs)):=hM hp _
 have nA:=h.newA hp
 refine⟨h.bf,h.fh.trans g,fun b o e=>?_,.cons (A:=[p]) ⟨p,vs,rfl,rfl,upd_same,r⟩ (h.sl.mono fun o s C _ hC q=>q.stay (Same.refl _) (fun b hb=>aC fun z=>nA (z▸hC b hb)) fun _=>g),List.nodup_cons.mpr ⟨nA,h.nd⟩,fun a ha=>?_,by simp[h.len],h.pl⟩
 ·obtain⟨e1,e2⟩:=Option.filter_eq_some_iff.mp e
  by_cases hb:b=p
  ·subst hb;rw[upd_same]at e1;cases e1;cases e2
  ·rw[aC hb]at e1;exact h.tf b o (gc e1 e2)
 ·rcases List.mem_cons.mp ha with z |z
  ·subst z;exact h.fh.free hp
  ·exact h.fr a z
theorem FrF.newt{p:Addr}{vs:List V}{ds:List PyData}(h:FrF K B F A σ H E xs Xs)(r:RpA K F vs ds)(hp:H p=none):FrF K B (upd F p (.tup vs)) A σ (upd H p (.tup vs)) E (.ref p::xs) (.sh (.tuple ds)::Xs):=by
 have g:Same H (upd H p (.tup vs)):=hM hp _
 have nA:=h.newA hp
 have gF:Same F (upd F p (.tup vs)):=hM (h.fh.free hp) _
 refine⟨h.bf.trans gF,fun b o e=>?_,fun b o e=>?_,.cons (A:=[]) ⟨rfl,_,rfl,.tup (.inl (.inl upd_same)) (r.same gF)⟩ (h.sl.mono fun o s C _ hC q=>q.stay gF (fun b hb=>aC fun z=>nA (z▸hC b hb)) fun _=>g),h.nd,fun a ha=>?_,by simp[h.len],h.pl⟩
 ·by_cases hb:b=p
  ·subst hb;rw[upd_same]at e ⊢;exact e
  ·rw[aC hb]at e ⊢;exact h.fh _ _ e
 ·obtain⟨e1,e2⟩:=Option.filter_eq_some_iff.mp e
  by_cases hb:b=p
  ·subst hb;rw[upd_same]at e1 ⊢;exact e1
  ·rw[aC hb]at e1 ⊢;exact h.tf b o (gc e1 e2)
 ·have ne:a≠p:=fun z=>nA (z▸ha)
  rw[aC ne];exact h.fr a ha
theorem FrF.mut{i:Nat}{ds:List PyData}(h:FrF K B F A σ H E xs Xs)(e:E[i]? =some (.ow ds))(c:∀s∈Xs,s.isBr=false):
  ∃l vs,σ[i]? =some (some (.ref l))∧H l=some (.lst vs)∧RpA K F vs ds∧∀vs' ds',RpA K F vs' ds'→FrF K B F A σ (upd H l (.lst vs')) (E.set i (.ow ds')) xs Xs:=by
 obtain⟨o,A0,A1,A2,eA,eo,hp,put⟩:=h.sl.at (k:=Xs.length+i) (s:=.ow ds) (by rw[List.getElem?_append_right (by omega)];simpa using e)
 rw[List.getElem?_append_right (by rw[List.length_map,h.len];omega),List.length_map,h.len,Nat.add_sub_cancel_left]at eo
 obtain⟨l,vs,rfl,rfl,hl,r⟩:=hp
 refine⟨l,vs,eo,hl,r,fun vs' ds' r'=>?_⟩
 have hlA:l∈A:=by rw[eA];simp
 have nl:∀b,b∈A0∨b∈A2→b≠l:=fun b hb z=>by
  subst z
  have nd:=h.nd
  rw[eA]at nd
  rcases hb with hb |hb
  ·exact(List.nodup_append.mp nd).2.2 b hb b (by simp) rfl
  ·exact(List.nodup_append.mp (List.nodup_append.mp nd).2.1).2.2 b (by simp) b hb rfl
 have lF:F l=none:=h.fr l hlA
 have z:=put (SlOk K F (upd H l (.lst vs')) σ) (some (.ref l)) (.ow ds') [l] ⟨l,vs',rfl,rfl,upd_same,r'⟩ fun o s C hs hC q=>q.stay (Same.refl _) (fun b hb=>aC (nl b (hC b hb))) fun z=>by
  rcases List.mem_append.mp hs with hs |hs
  ·rw[c s hs]at z;cases z
  ·have:=h.pl s hs
   cases s <;> simp[Sl.isAl,Sl.isBr]at this z
 have e3:(Xs++E).set (Xs.length+i) (.ow ds')=Xs++E.set i (.ow ds'):=by
  rw[List.set_append_right _ _ (by omega),Nat.add_sub_cancel_left]
 have e2:(List.map some xs++σ).set (Xs.length+i) (some (V.ref l))=List.map some xs++σ:=by
  rw[←h.len,List.set_append_right _ _ (by rw[List.length_map];omega),List.length_map,Nat.add_sub_cancel_left]
  congr 1
  exact List.ext_getElem? fun j=>by
   by_cases hj:i=j
   ·subst hj
    rw[List.getElem?_set_self',eo];rfl
   ·rw[List.getElem?_set_ne hj]
 rw[e2,e3,←eA]at z
 refine⟨h.bf,fun b o q=>?_,?_,z,h.nd,h.fr,h.len,fun s hs=>?_⟩
 ·rw[aC (fun z=>by rw[z,lF]at q;cases q)]
  exact h.fh _ _ q
 ·rw[qI hl];exact h.tf
 ·rcases List.mem_or_eq_of_mem_set hs with hs |hs
  ·exact h.pl s hs
  ·subst hs;rfl
theorem FrF.frzAt{k:Nat}(h:FrF K B F A σ H E xs Xs)(e:(Xs++E)[k]? =some s)(q:s.val=some d)(c:s.isAl=false):
  ∃F' A' v,(xs.map some++σ)[k]? =some (some v)∧Rp K F' v d∧Same B F'∧Same F' H∧Same (tups H) F'∧SAll (SlOk K F' H σ) (xs.map some++σ) ((Xs++E).set k (.sh d)) A'∧A'.Nodup∧∀a∈A',F' a=none:=by
 obtain⟨o,A0,A1,A2,eA,eo,hp,put⟩:=h.sl.at e
 have nd:=h.nd
 rw[eA]at nd
 have nA1:∀b o,F b=some o→b∉A1:=fun b o e hb=>by
  have:=h.fr b (by rw[eA];simp[hb])
  rw[this]at e;cases e
 have FF:Same F (qJ F H A1):=fun b o e=>by rw[m7 (nA1 b o e)];exact e
 obtain⟨v,rfl,r⟩:∃v,o=some v∧Rp K (qJ F H A1) v d:=by
  cases s with
  |no=>cases q
  |od kvs=>cases q
  |al i=>cases c
  |br d'=>cases c
  |sh d'=>
   obtain⟨rfl,v,rfl,r⟩:=hp
   cases q
   exact⟨v,rfl,r.same FF⟩
  |ow ds=>
   obtain⟨l,vs,rfl,rfl,hl,r⟩:=hp
   cases q
   exact⟨_,rfl,.lst (SqL.of ((pM (by simp)).trans hl)) (r.same FF)⟩
  |tx ps=>
   obtain⟨t,vs,rfl,ht,r⟩:=hp
   cases q
   refine⟨_,rfl,.tup (SqT.of (FF _ _ ht)) ?_⟩
   have r':PtsOk K (qJ F H A1) (qJ F H A1) vs ps A1:=r.stay FF fun b hb=>pM hb
   exact r'.rp (Same.refl _)
 have e2:(List.map some xs++σ).set k (some v)=List.map some xs++σ:=List.ext_getElem? fun j=>by
  by_cases hj:k=j
  ·subst hj
   rw[List.getElem?_set_self',eo];rfl
  ·rw[List.getElem?_set_ne hj]
 have z:=put (SlOk K (qJ F H A1) H σ) (some v) (.sh d) [] ⟨rfl,v,rfl,r⟩ fun o s C _ hC q=>q.stay FF (fun b _=>rfl) fun _=>Same.refl _
 rw[e2]at z
 refine⟨qJ F H A1,A0++A2,v,eo,r,h.bf.trans FF,fun b o e=>?_,fun b o e=>FF _ _ (h.tf _ _ e),by simpa using z,?_,fun a ha=>?_⟩
 ·by_cases hb:b∈A1
  ·rw[pM hb]at e;exact e
  ·rw[m7 hb]at e;exact h.fh _ _ e
 ·exact List.Nodup.sublist (List.Sublist.append (List.Sublist.refl _) (List.sublist_append_right _ _)) nd
 ·have hn:a∉A1:=fun hm=>by
   rcases List.mem_append.mp ha with z |z
   ·exact(List.nodup_append.mp nd).2.2 a z a (by simp[hm]) rfl
   ·exact(List.nodup_append.mp (List.nodup_append.mp nd).2.1).2.2 a hm a z rfl
  rw[m7 hn]
  exact h.fr a (by rw[eA];rcases List.mem_append.mp ha with z |z <;> simp[z])
end
def frz(E:List Sl):Sl→Option (PyData×List Sl)
 |.sh d=>some (d,E)
 |.ow ds=>some (.list ds,E)
 |.tx ps=>some (.tuple (ps.map Pt.val),E)
 |.br d=>if aJ d then some (d,E)else none
 |.al i=>match E[i]? with
  |some (.sh d)=>some (d,E)
  |some (.ow ds)=>some (.list ds,E.set i (.sh (.list ds)))
  |some (.tx ps)=>some (.tuple (ps.map Pt.val),E.set i (.sh (.tuple (ps.map Pt.val))))
  |_=>none
 |_=>none
section
variable {K:PySem.W.Frag} {B F:Hp} {A:List Addr} {σ:Sg} {H:Hp} {E E':List Sl} {xs:List V} {Xs:List Sl} {v:V} {s:Sl} {d:PyData}
theorem FrF.frzVar{i:Nat}(h:FrF K B F A σ H E xs Xs)(e:E[i]? =some s)(q:s.val=some d):∃F' A' v,σ[i]? =some (some v)∧Rp K F' v d∧FrF K B F' A' σ H (E.set i (.sh d)) xs Xs:=by
 obtain⟨F',A',v,ev,r,b1,b2,b3,sl,nd,fr⟩:=h.frzAt (k:=Xs.length+i) (by rw[List.getElem?_append_right (by omega)];simpa using e) q (h.pl s (List.mem_of_getElem? e))
 rw[List.getElem?_append_right (by rw[List.length_map,h.len];omega),List.length_map,h.len,Nat.add_sub_cancel_left]at ev
 have e3:(Xs++E).set (Xs.length+i) (.sh d)=Xs++E.set i (.sh d):=by
  rw[List.set_append_right _ _ (by omega),Nat.add_sub_cancel_left]
 rw[e3]at sl
 refine⟨F',A',v,ev,r,b1,b2,b3,sl,nd,fr,h.len,fun s hs=>?_⟩
 rcases List.mem_or_eq_of_mem_set hs with hs |hs
 ·exact h.pl s hs
 ·subst hs;rfl
theorem FrF.frz0(h:FrF K B F A σ H E (v::xs) (s::Xs))(q:PL.frz E s=some (d,E')):∃F' A',FrF K B F' A' σ H E' (v::xs) (.sh d::Xs):=by
 have key:s.val=some d→s.isAl=false→E=E'→∃F' A',FrF K B F' A' σ H E' (v::xs) (.sh d::Xs):=fun q' c e=>by
  subst e
  obtain⟨F',A',v',ev,r,b1,b2,b3,sl,nd,fr⟩:=h.frzAt (k:=0) rfl q' c
  exact⟨F',A',b1,b2,b3,sl,nd,fr,by simpa using h.len,h.pl⟩
 have al:∀i t,s=.al i→E[i]? =some t→t.val=some d→E'=E.set i (.sh d)→∃F' A',FrF K B F' A' σ H E' (v::xs) (.sh d::Xs):=fun i t es ei qt eE=>by
  subst es eE
  obtain⟨v',A1,ev,hs⟩:=h.ext (k:=0) rfl
  cases ev
  obtain⟨rfl,w,ew,hw⟩:=hs
  cases ew
  obtain⟨F',A',w,ew,r,h'⟩:=h.frzVar ei qt
  rw[hw]at ew
  cases ew
  obtain⟨A2,h2⟩:=h'.pop
  exact⟨F',A2,h2.push ⟨rfl,_,rfl,r⟩⟩
 cases s with
 |no=>cases q
 |od kvs=>cases q
 |sh d'=>cases q;exact key rfl rfl rfl
 |ow ds=>cases q;exact key rfl rfl rfl
 |tx ps=>cases q;exact key rfl rfl rfl
 |br d'=>
  simp only[PL.frz]at q
  split at q
  ·rename_i hf
   cases q
   obtain⟨r,_⟩:=h.look0 (d:=d) rfl
   obtain⟨A2,h2⟩:=h.pop
   exact⟨F,A2,h2.push ⟨rfl,_,rfl,h.cold r hf⟩⟩
  ·cases q
 |al i=>
  simp only[PL.frz]at q
  split at q
  ·rename_i d' ei
   cases q
   refine al i _ rfl ei rfl ?_
   exact List.ext_getElem? fun j=>by
    by_cases hj:i=j
    ·subst hj;rw[List.getElem?_set_self',ei];rfl
    ·rw[List.getElem?_set_ne hj]
  ·rename_i ds ei
   cases q
   exact al i _ rfl ei rfl rfl
  ·rename_i ps ei
   cases q
   exact al i _ rfl ei rfl rfl
  ·cases q
theorem FrF.store{i:Nat}(h:FrF K B F A σ H E (v::xs) (s::Xs))(c:s.isAl=false)(cx:∀s∈Xs,s.isAl=false)(hi:i < E.length):∃A',FrF K B F A' (σ.set i (some v)) H (E.set i s) xs Xs:=by
 have hlen:=h.len
 have hsl:=h.slen
 obtain⟨bf,fh,tf,sl,nd,fr,len,pl⟩:=h
 generalize hT:List.map some (v::xs)++σ=T at sl
 generalize hS:(s::Xs)++E=S at sl
 cases sl with
 |nil=>cases hS
 |cons q r=>
  rename_i A1 _ _ A2
  injection hT with h1 hT
  injection hS with h2 hS
  subst h1 h2 hT hS
  have len':xs.length=Xs.length:=by simpa using len
  have r:SAll (SlOk K F H σ) (List.map some xs++σ) (Xs++E) A2:=r
  obtain⟨t,et⟩:∃t,E[i]? =some t:=⟨E[i],List.getElem?_eq_getElem hi⟩
  obtain⟨o,C0,C1,C2,eA,eo,hp,put⟩:=r.at (k:=Xs.length+i) (s:=t) (by rw[List.getElem?_append_right (by omega)];simpa using et)
  have all:∀s'∈Xs++E,s'.isAl=false:=fun s' hs=>(List.mem_append.mp hs).elim (cx s') (pl s')
  have chg:∀(o:Option V) (s':Sl) (C:List Addr),s'.isAl=false→SlOk K F H σ o s' C→SlOk K F H (σ.set i (some v)) o s' C:=fun o s' C hc z=>by
   cases s' <;> first |exact z |cases hc
  have z:=put (SlOk K F H (σ.set i (some v))) (some v) s A1 (chg _ _ _ c q) fun o s' C hs _ z=>chg o s' C (all s' hs) z
  have e3:(Xs++E).set (Xs.length+i) s=Xs++E.set i s:=by
   rw[List.set_append_right _ _ (by omega),Nat.add_sub_cancel_left]
  have e2:(List.map some xs++σ).set (Xs.length+i) (some v)=List.map some xs++σ.set i (some v):=by
   rw[←len',List.set_append_right _ _ (by rw[List.length_map];omega),List.length_map,Nat.add_sub_cancel_left]
  rw[e2,e3]at z
  refine⟨_,bf,fh,tf,z,?_,fun a ha=>fr a ?_,len',fun s' hs=>?_⟩
  ·rw[eA]at nd
   have p:(C0++(A1++C2)).Perm (A1++(C0++C2)):=by
    rw[←List.append_assoc,←List.append_assoc]
    exact List.Perm.append_right _ List.perm_append_comm
   refine p.nodup_iff.mpr (List.Nodup.sublist ?_ nd)
   exact List.Sublist.append (List.Sublist.refl _) (List.Sublist.append (List.Sublist.refl _) (List.sublist_append_right _ _))
  ·rw[eA]
   simp only[List.mem_append]at ha ⊢
   rcases ha with z |z |z
   ·exact .inr (.inl z)
   ·exact .inl z
   ·exact .inr (.inr (.inr z))
  ·rcases List.mem_or_eq_of_mem_set hs with hs |hs
   ·exact pl s' hs
   ·subst hs;exact c
end
end PL
namespace PL
open PySem L2 Nh
abbrev cX:=List Sl→Option (Sl×List Sl)
abbrev iU:=List Sl→Option (Bool×List Sl)
abbrev m8:=List Sl→Option (List Sl×List Sl)
abbrev mC:=List Sl→Option (List PyData×List Sl)
inductive Fl where
 |nx |bk |ct |rt (r:Sl)
abbrev cy:=List Sl→Option (List Sl×Fl)
abbrev Calm(Xs:List Sl):Prop:=∀s∈Xs,s.isBr=false
abbrev Still(Xs:List Sl):Prop:=∀s∈Xs,s.isAl=false
theorem Still.calm{Xs:List Sl}(h:Still Xs):Calm Xs:=fun s hs=>by
 have:=h s hs
 cases s <;> simp[Sl.isAl,Sl.isBr]at this ⊢
theorem Still.nil{Xs:List Sl}(h:Xs=[]):Still Xs:=fun s hs=>by subst h;cases hs
theorem Calm.nil{Xs:List Sl}(h:Xs=[]):Calm Xs:=(Still.nil h).calm
theorem Calm.cons{Xs:List Sl}{s:Sl}(h:Calm Xs)(hs:s.isBr=false):Calm (s::Xs):=fun t ht=>(List.mem_cons.mp ht).elim (fun e=>e▸hs) (h t)
def rd(K:PySem.W.Frag)(m:Bool)(f:cX):TE:=fun σ H Q=>∃B E xs Xs r E',Frm K B σ H E xs Xs∧(m=true→Calm Xs)∧f E=some (r,E')∧∀v H',Frm K B σ H' E' (v::xs) (r::Xs)→Q v H'
def rt(K:PySem.W.Frag)(m:Bool)(f:iU):TT:=fun σ H Q=>∃B E xs Xs b E',Frm K B σ H E xs Xs∧(m=true→Calm Xs)∧f E=some (b,E')∧∀H',Frm K B σ H' E' xs Xs→Q b H'
def ra(K:PySem.W.Frag)(m:Bool)(f:m8):TA:=fun σ H Q=>∃B E xs Xs rs E',Frm K B σ H E xs Xs∧(m=true→Calm Xs)∧f E=some (rs,E')∧∀vs H',vs.length=rs.length→Frm K B σ H' E' (vs.reverse++xs) (rs.reverse++Xs)→Q vs H'
def GE(K:PySem.W.Frag)(m:Bool)(f:mC):TA:=fun σ H Q=>∃B E xs Xs ds E',Frm K B σ H E xs Xs∧(m=true→Calm Xs)∧f E=some (ds,E')∧∀vs H',vs.length=ds.length→Frm K B σ H' E' (vs.reverse++xs) (ds.reverse.map .sh++Xs)→Q vs H'
def rs(K:PySem.W.Frag)(g:cy):TS:=fun D σ H=>∃B E xs Xs E' fl,Frm K B σ H E xs Xs∧Xs=[]∧g E=some (E',fl)∧match fl with
 |.nx=>∀σ' H',Frm K B σ' H' E' xs Xs→D.nx σ' H'
 |.bk=>∀σ' H',Frm K B σ' H' E' xs Xs→D.bk σ' H'
 |.ct=>∀σ' H',Frm K B σ' H' E' xs Xs→D.ct σ' H'
 |.rt r=>∀σ' v H',Frm K B σ' H' E' (v::xs) (r::Xs)→D.rt v H'
def EX(X:Cx)(e:Expr)(m:Bool)(f:cX):Prop:=PE X e (rd X.K m f)
def TX(X:Cx)(e:Expr)(m:Bool)(f:iU):Prop:=PT X e (rt X.K m f)
def WX(X:Cx)(e:Expr)(m:Bool)(f:iU):Prop:=PW X e (rt X.K m f)
def AX(X:Cx)(es:List Expr)(m:Bool)(f:m8):Prop:=PA X es (ra X.K m f)
def DX(X:Cx)(es:List Expr)(m:Bool)(f:mC):Prop:=PA X es (GE X.K m f)
def SX(X:Cx)(s:Stmt)(g:cy):Prop:=PS X s (rs X.K g)
def rS(X:Cx)(s:List Stmt)(g:cy):Prop:=PSs X s (rs X.K g)
section
variable {X:Cx}
theorem bY{e:Expr}{t t':TE}(h:PE X e t)(k:∀σ H Q,t' σ H Q→t σ H Q):PE X e t':=fun pins s σ H Q I q=>h pins s σ H Q I (k σ H Q q)
theorem pN{e:Expr}{t t':TT}(h:PT X e t)(k:∀σ H Q,t' σ H Q→t σ H Q):PT X e t':=fun pins s σ H Q I q=>h pins s σ H Q I (k σ H Q q)
theorem wA{e:Expr}{t t':TT}(h:PW X e t)(k:∀σ H Q,t' σ H Q→t σ H Q):PW X e t':=fun whole pins s σ H Q I q=>h whole pins s σ H Q I (k σ H Q q)
theorem lR{es:List Expr}{t t':TA}(h:PA X es t)(k:∀σ H Q,t' σ H Q→t σ H Q):PA X es t':=fun pos pins s σ H Q I q=>h pos pins s σ H Q I (k σ H Q q)
theorem kz{st:Stmt}{t t':TS}(h:PS X st t)(k:∀D σ H,t' D σ H→t D σ H):PS X st t':=fun pins s σ H D I q=>h pins s σ H D I (k D σ H q)
theorem ua{st:List Stmt}{t t':TS}(h:PSs X st t)(k:∀D σ H,t' D σ H→t D σ H):PSs X st t':=fun pins s σ H D I q=>h pins s σ H D I (k D σ H q)
end
def AO:PyData→Option V
 |.none=>some .non
 |.bool b=>some (.bl b)
 |.int i=>some (.int i)
 |.str x=>some (.str x)
 |_=>none
theorem m9{K:PySem.W.Frag}{H:Hp}{d:PyData}{v:V}(h:AO d=some v):Rp K H v d:=by
 cases d <;> simp[AO]at h <;> subst h <;> constructor
def ad(i:Nat):cX:=fun E=>match E[i]? with
 |some (.sh d)=>some (.sh d,E)
 |some (.ow _)=>some (.al i,E)
 |some (.od _)=>some (.al i,E)
 |some (.tx _)=>some (.al i,E)
 |_=>none
def pC(d:PyData):cX:=fun E=>some (.sh d,E)
section
variable {X:Cx} {K:PySem.W.Frag}
theorem aa (i:Nat) {x:Str} {pos:Pos} (hN:X.N[i]? =some x:=by rfl) (hv:AG X.env.scope x:=by first |exact Or.inl rfl |exact Or.inr (Or.inl rfl) |exact Or.inr (Or.inr rfl)) (hd:(x == ("__debug__":Str))=false:=by decide)
  (hcd:(x == ("__classdict__":Str))=false:=by decide):EX X (.Name x pos) false (ad i):=by
 refine bY (lL hN hv hd hcd) fun σ H Q h=>?_
 obtain⟨B,E,xs,Xs,r,E',⟨F,A,fr⟩,_,e,q⟩:=h
 unfold ad at e
 split at e
 ·rename_i d ei
  cases e
  obtain⟨o,A1,eo,rfl,v,rfl,rp⟩:=fr.var ei
  exact⟨v,eo,q v H ⟨F,A,fr.push ⟨rfl,v,rfl,rp⟩⟩⟩
 ·rename_i ds ei
  cases e
  obtain⟨o,A1,eo,l,vs,rfl,_⟩:=fr.var ei
  exact⟨_,eo,q _ H ⟨F,A,fr.push ⟨rfl,_,rfl,eo⟩⟩⟩
 ·rename_i ds ei
  cases e
  obtain⟨o,A1,eo,l,vs,A2,rfl,_⟩:=fr.var ei
  exact⟨_,eo,q _ H ⟨F,A,fr.push ⟨rfl,_,rfl,eo⟩⟩⟩
 ·rename_i ds ei
  cases e
  obtain⟨o,A1,eo,l,vs,rfl,_⟩:=fr.var ei
  exact⟨_,eo,q _ H ⟨F,A,fr.push ⟨rfl,_,rfl,eo⟩⟩⟩
 ·cases e
theorem zi{e:Expr}{v:V}(d:PyData)(h:PE X e (tC v))(hd:AO d=some v:=by rfl):EX X e false (pC d):=by
 refine bY h fun σ H Q h=>?_
 obtain⟨B,E,xs,Xs,r,E',⟨F,A,fr⟩,_,e,q⟩:=h
 cases e
 exact q v H ⟨F,A,fr.push ⟨rfl,v,rfl,m9 hd⟩⟩
theorem ah{i j pos}:EX X (.Constant (.int i) j pos) false (pC (.int i)):=zi _ rV
theorem kW{b j pos}:EX X (.Constant (.bool b) j pos) false (pC (.bool b)):=zi _ Dd
theorem dh{j pos}:EX X (.Constant .none j pos) false (pC .none):=zi _ Bs
theorem az{x j pos}:EX X (.Constant (.str x) j pos) false (pC (.str x)):=zi _ rW
end
abbrev P2:=List Sl→Sl→Sl→Option (Sl×List Sl)
def iM(K:PySem.W.Frag)(r:R2)(p:P2):Prop:=∀{B F:Hp} {A:List Addr} {σ:Sg} {H:Hp} {E:List Sl} {xs:List V} {Xs:List Sl} {v1 v2:V} {s1 s2 res:Sl} {E':List Sl} {Q:VK},
 FrF K B F A σ H E (v2::v1::xs) (s2::s1::Xs)→p E s1 s2=some (res,E')→(∀v H',Frm K B σ H' E' (v::xs) (res::Xs)→Q v H')→r v1 v2 H Q
def ag(p:P2)(m2:Bool)(f g:cX):cX:=fun E=>(f E).bind fun a=>if m2&&a.1.isBr then none else (g a.2).bind fun b=>p b.2 a.1 b.1
theorem pO{K:PySem.W.Frag}{r:R2}{p:P2}(hp:iM K r p){m1 m2:Bool}{f g:cX}{σ:Sg}{H:Hp}{Q:VK}(h:rd K (m1||m2) (ag p m2 f g) σ H Q):AI r (rd K m1 f) (rd K m2 g) σ H Q:=by
 obtain⟨B,E,xs,Xs,res,E',fr,c,e,q⟩:=h
 obtain⟨⟨s1,E1⟩,e1,e⟩:=Option.bind_eq_some_iff.mp e
 by_cases hb:(m2&&s1.isBr)=true
 ·rw[if_pos hb]at e;cases e
 rw[if_neg hb]at e
 obtain⟨⟨s2,E2⟩,e2,e⟩:=Option.bind_eq_some_iff.mp e
 refine⟨B,E,xs,Xs,s1,E1,fr,fun z=>c (by simp[z]),e1,fun v1 H1 fr1=>?_⟩
 refine⟨B,E1,v1::xs,s1::Xs,s2,E2,fr1,fun z=>?_,e2,fun v2 H2 fr2=>?_⟩
 ·refine Calm.cons (c (by simp[z])) ?_
  cases hs:s1.isBr with
  |false=>rfl
  |true=>exact absurd (by simp[z,hs]) hb
 ·obtain⟨F,A,fr2⟩:=fr2
  exact hp fr2 e q
def bz(op:PyData→PyData→Option PyData):P2:=fun E s1 s2=>(look E s1).bind fun d1=>(look E s2).bind fun d2=>(op d1 d2).map fun d=>(.sh d,E)
theorem FrF.res2{K:PySem.W.Frag}{B F:Hp}{A:List Addr}{σ:Sg}{H:Hp}{E:List Sl}{xs:List V}{Xs:List Sl}{v1 v2 v:V}{s1 s2 s:Sl}(h:FrF K B F A σ H E (v2::v1::xs) (s2::s1::Xs))(q:SlOk K F H σ (some v) s []):Frm K B σ H E (v::xs) (s::Xs):=by
 obtain⟨A1,h⟩:=h.pop
 obtain⟨A2,h⟩:=h.pop
 exact⟨F,A2,h.push q⟩
theorem fX{K:PySem.W.Frag}{r:R2}{op:PyData→PyData→Option PyData}(h:∀(d1 d2 d:PyData) (v1 v2:V) (H:Hp) (Q:VK),op d1 d2=some d→Rp K H v1 d1→Rp K H v2 d2→∃v,AO d=some v∧(Q v H→r v1 v2 H Q)):iM K r (bz op):=by
 intro B F A σ H E xs Xs v1 v2 s1 s2 res E' Q fr e q
 obtain⟨d1,e1,e⟩:=Option.bind_eq_some_iff.mp e
 obtain⟨d2,e2,e⟩:=Option.bind_eq_some_iff.mp e
 obtain⟨d,e3,e⟩:=Option.map_eq_some_iff.mp e
 cases e
 obtain⟨v,hv,k⟩:=h d1 d2 d v1 v2 H Q e3 (fr.look1 e1).1 (fr.look0 e2).1
 exact k (q v H (fr.res2 ⟨rfl,v,rfl,m9 hv⟩))
section
variable {X:Cx} {a b:Expr} {m1 m2:Bool} {f g:cX} {pos:Pos}
theorem oW{op:Operator}{r:R2}{p:P2}(ho:OpR X (binaryOp op) r)(hp:iM X.K r p)(ha:EX X a m1 f)(hb:EX X b m2 g):EX X (.BinOp a op b pos) (m1||m2) (ag p m2 f g):=bY (tP ho ha hb) fun _ _ _ h=>pO hp h
theorem sr{op:CmpOp}{r:R2}{p:P2}(ho:OpR X (compareOp op) r)(hp:iM X.K r p)(ha:EX X a m1 f)(hb:EX X b m2 g)(hm:behindInMarks op b=false):EX X (.Compare a [op] [b] pos) (m1||m2) (ag p m2 f g):=bY (yT ho ha hb hm) fun _ _ _ h=>pO hp h
def a_(f:cX):iU:=fun E=>(f E).bind fun a=>match a.1 with
 |.sh (.bool b)=>some (b,a.2)
 |_=>none
theorem wB{K:PySem.W.Frag}{m:Bool}{f:cX}{σ:Sg}{H:Hp}{Q:Bool→Hp→Prop}(h:rt K m (a_ f) σ H Q):rd K m f σ H (fun x H'=>∃k,x=.bl k∧Q k H'):=by
 obtain⟨B,E,xs,Xs,b,E',fr,c,e,q⟩:=h
 obtain⟨⟨s,E1⟩,e1,e⟩:=Option.bind_eq_some_iff.mp e
 refine⟨B,E,xs,Xs,s,E1,fr,c,e1,fun v H' ⟨F,A,fr'⟩=>?_⟩
 simp only at e
 split at e
 ·cases e
  obtain⟨r,_⟩:=fr'.look0 (d:=.bool b) rfl
  cases r
  obtain⟨A',fr2⟩:=fr'.pop
  exact⟨b,rfl,q H' ⟨F,A',fr2⟩⟩
 ·cases e
theorem iY{op:CmpOp}{r:R2}{p:P2}(ho:OpR X (compareOp op) r)(hp:iM X.K r p)(ha:EX X a m1 f)(hb:EX X b m2 g)(hm:behindInMarks op b=false):TX X (.Compare a [op] [b] pos) (m1||m2) (a_ (ag p m2 f g)):=by
 refine pN (yU ho ha hb hm) fun σ H Q h=>?_
 exact pO hp (wB h)
end
def u_:Int:=2 ^ 20000
def dA(i j:Int):Bool:=decide (-(2 ^ 64) < i∧i < 2 ^ 64)||decide (-(2 ^ 64) < j∧j < 2 ^ 64)||decide (-u_ < i∧i < u_∧ -u_ < j∧j < u_)
def kX(j:Int):Bool:=decide (0 < j∧j < 2 ^ 400)
def iD(C:Int→Int→Bool)(g:Int→Int→PyData):PyData→PyData→Option PyData
 |.int i,.int j=>if C i j then some (g i j)else none
 |_,_=>none
abbrev DI(C:Int→Int→Bool)(g:Int→Int→V):R2:=rI (fun i j=>C i j=true) g
theorem su{K:PySem.W.Frag}{C:Int→Int→Bool}{g:Int→Int→PyData}{g':Int→Int→V}(hg:∀i j,AO (g i j)=some (g' i j)):iM K (DI C g') (bz (iD C g)):=by
 refine fX fun d1 d2 d v1 v2 H Q e r1 r2=>?_
 unfold iD at e
 split at e
 ·split at e
  ·cases e
   cases r1
   cases r2
   rename_i hC
   exact⟨_,hg _ _,fun q=>⟨_,_,rfl,rfl,hC,q⟩⟩
  ·cases e
 ·cases e
section
variable {X:Cx}
theorem mj{i:Int}(h1: -u_ < i)(h2:i < u_):Builtin.Int.intBits i≤2 ^ 20:=by
 unfold u_ at h1 h2
 have h:i.natAbs < 2 ^ 20000:=by
  have e:((2 ^ 20000:Nat):Int)=2 ^ 20000:=Int.natCast_pow 2 20000
  generalize (2 ^ 20000:Int)=z at h1 h2 e
  generalize (2 ^ 20000:Nat)=y at e ⊢
  omega
 unfold Builtin.Int.intBits
 split
 ·exact Nat.zero_le _
 ·rename_i hz
  have hz':i≠0:=by simpa using hz
  have:i.natAbs.log2 < 20000:=(Nat.log2_lt (by omega)).mpr h
  omega
theorem wC{i j:Int}(h:dA i j=true):PySem.IntMulOk i j:=by
 unfold dA at h
 simp only[Bool.or_eq_true,decide_eq_true_eq]at h
 rcases h with(h |h) |h
 ·exact CMul.ok (.inl h)
 ·exact CMul.ok (.inr h)
 ·exact PySem.IntMulOk.of_bits (mj h.1 h.2.1) (mj h.2.2.1 h.2.2.2)
end
end PL
namespace PL
open PySem L2 Nh PyProof.Rows
abbrev lK:=L2.St
section
variable {X:Cx}
theorem OpR.or{f:Value→Value→Sem Value}{r r':R2}(h:OpR X f r)(h':OpR X f r'):OpR X f (fun x y H Q=>r x y H Q∨r' x y H Q):=by
 intro pins s σ H x y v u Q I rx ry q
 rcases q with q |q
 ·exact h pins s σ H x y v u Q I rx ry q
 ·exact h' pins s σ H x y v u Q I rx ry q
theorem OpR.imp{f:Value→Value→Sem Value}{r r':R2}(h:OpR X f r)(k:∀x y H Q,r' x y H Q→r x y H Q):OpR X f r':=fun pins s σ H x y v u Q I rx ry q=>h pins s σ H x y v u Q I rx ry (k _ _ _ _ q)
def AQ(K:PySem.W.Frag):R2:=fun x y H Q=>∃l b xs zs,x=.ref l∧y=.ref b∧SqL K H l xs∧SqL K H b zs∧xs.length+zs.length≤sizeLine∧∀p,H p=none→Q (.ref p) (upd H p (.lst (xs++zs)))
theorem zj:OpR X (binaryOp .Add) (AQ X.K):=by
 intro pins s σ H x y v u Q I rx ry h
 obtain⟨l,b,xs,zs,rfl,rfl,hH,hB,hz,q⟩:=h
 cases rx
 cases ry
 obtain⟨its,r,p1,z1⟩:=I.list hH
 obtain⟨its2,r2,p2,z2⟩:=I.list hB
 obtain⟨⟨cls,dd,data,sl⟩,ho,hc,n,hd⟩:=p1.isList
 obtain⟨⟨cls2,dd2,data2,sl2⟩,ho2,hc2,n2,AM⟩:=p2.isList
 simp only at hc hd hc2 AM
 subst hc hd hc2 AM
 have l1:=r.length
 have l2:=r2.length
 refine concat_meets ⟨_,ho,rfl⟩ ⟨_,ho2,rfl⟩ noFill_list_add seq_list_add PySem.F.slot_list_add PySem.F.entry_list_add (PySem.F.args_list_add_2 _ _) (list_addW l b its.toArray its2.toArray n n2 dd dd2 sl sl2 (by simp only[List.size_toArray];omega)) ⟨ho,ho2,?_⟩
 have ea:its.toArray++its2.toArray=(its++its2).toArray:=by simp
 rw[ea]
 exact⟨.ref _,_,I.lnew (t':=s.toks) (r.append r2) (by rw[List.length_append];omega),rfl,q _ I.fresh⟩
def AR(K:PySem.W.Frag):R2:=fun x y H Q=>∃l k xs,x=.ref l∧y=.int k∧SqL K H l xs∧ -(2 ^ 63)≤k∧k < 2 ^ 63∧xs.length*k.toNat≤sizeLine∧
 ∀p,H p=none→Q (.ref p) (upd H p (.lst (List.replicate k.toNat xs).flatten))
theorem zk:OpR X (binaryOp .Mult) (AR X.K):=by
 intro pins s σ H x y v u Q I rx ry h
 obtain⟨l,k,xs,rfl,rfl,hH,h1,h2,hz,q⟩:=h
 cases rx
 obtain⟨t,rfl⟩:=ry
 obtain⟨its,r,p1,z1⟩:=I.list hH
 obtain⟨⟨cls,d,data,sl⟩,ho,hcl,n,hd⟩:=p1.isList
 simp only at hcl hd
 subst hcl hd
 have l1:=r.length
 have hsz:its.toArray.size*k.toNat≤2 ^ 24:=by rw[List.size_toArray,←l1];exact hz
 refine wpAny_binaryOp_repeat_ref (T:="list") (U:="int") (by decide) ⟨_,ho,rfl⟩ (fun s'=>typeIs_int s' k t) noFill_list_mul F.fills_int_mul F.slot_int_rmul repeat_list F.slot_int_index.lookup
  (call_meets F.slot_int_rmul (typeIs_int s k t) F.entry_int_rmul (F.args_int_rmul_2 _ _) (lm_int_rmul_list_any k t l its.toArray n d sl)
   ⟨ho,rfl,⟨_,ho,rfl⟩,call_meets F.slot_list_mul ⟨_,ho,rfl⟩ F.entry_list_mul (F.args_list_mul_2 _ _)
    (lm_list_mul_any l its.toArray n d sl k t (by simp[Builtin.List.listFitsIndex];omega) (by omega) (by simp[Builtin.List.listTooLong,sizeLine];omega))
    ⟨ho,?_⟩⟩)
 rw[listMul_foldl_if]
 exact⟨.ref _,_,I.lnew (t':=s.toks) (r.rep k.toNat) (by rw[ze,Nat.mul_comm];exact hz),rfl,q _ I.fresh⟩
end
def aE:P2:=fun E s1 s2=>(look E s1).bind fun d1=>(look E s2).bind fun d2=>match d1,d2 with
 |.int i,.int j=>some (.sh (.int (i+j)),E)
 |.str a,.str b=>if a.length+b.length≤1000000 then some (.sh (.str (a++b)),E)else none
 |.list a,.list b=>if decide (a.length+b.length≤1000000)&&(!hot E s1||bg a)&&(!hot E s2||bg b)then some (.ow (a++b),E)else none
 |_,_=>none
theorem m_{n:Nat}(h:n≤1000000):n < sizeLine:=Nat.lt_of_le_of_lt h (by rw[sizeLine_eq];decide)
theorem hO{n:Nat}(h:n≤1000000):n≤sizeLine:=Nat.le_of_lt (m_ h)
section
variable {K:PySem.W.Frag} {B F:Hp} {A:List Addr} {σ:lK} {H:Hp} {E:List Sl} {xs:List V} {Xs:List Sl} {v:V} {s:Sl} {ds:List PyData}
theorem FrF.items{k:Nat}(h:FrF K B F A σ H E xs Xs)(e:Xs[k]? =some s)(q:PL.look E s=some (.list ds))(c:(!hot E s||bg ds)=true):∃a vs,xs[k]? =some (.ref a)∧SqL K H a vs∧RpA K F vs ds:=by
 obtain⟨v,ev,r,f⟩:=h.look e q
 cases hh:hot E s with
 |false=>
  obtain⟨a,vs,rfl,h1,h2⟩:=f hh
  exact⟨a,vs,ev,h1,h2⟩
 |true=>
  rw[hh]at c
  cases r with
  |lst h1 h2=>exact⟨_,_,ev,h1,h.coldA h2 (by simpa using c)⟩
theorem FrF.res2l{v1 v2:V}{s1 s2:Sl}{vs:List V}(h:FrF K B F A σ H E (v2::v1::xs) (s2::s1::Xs))(r:RpA K F vs ds){p:Addr}(hp:H p=none):Frm K B σ (upd H p (.lst vs)) E (.ref p::xs) (.ow ds::Xs):=by
 obtain⟨A1,h⟩:=h.pop
 obtain⟨A2,h⟩:=h.pop
 exact⟨F,_,h.newl r hp⟩
end
abbrev AS(K:PySem.W.Frag):R2:=fun x y H Q=>(∃i j,x=.int i∧y=.int j∧Q (.int (i+j)) H)∨(∃i j,x=.str i∧y=.str j∧i.length+j.length≤sizeLine∧Q (.str (i++j)) H)∨AQ K x y H Q
theorem zm{X:Cx}:OpR X (binaryOp .Add) (AS X.K):=OpR.or v7 (OpR.or r_ zj)
theorem zn{K:PySem.W.Frag}:iM K (AS K) aE:=by
 intro B F A σ H E xs Xs v1 v2 s1 s2 res E' Q fr e q
 obtain⟨d1,e1,e⟩:=Option.bind_eq_some_iff.mp e
 obtain⟨d2,e2,e⟩:=Option.bind_eq_some_iff.mp e
 have r1:=(fr.look1 e1).1
 have r2:=(fr.look0 e2).1
 split at e
 ·cases e;cases r1;cases r2
  exact .inl ⟨_,_,rfl,rfl,q _ _ (fr.res2 ⟨rfl,_,rfl,.int _⟩)⟩
 ·split at e
  ·rename_i hl
   cases e;cases r1;cases r2
   exact .inr (.inl ⟨_,_,rfl,rfl,hO hl,q _ _ (fr.res2 ⟨rfl,_,rfl,.str _⟩)⟩)
  ·cases e
 ·split at e
  ·rename_i hc
   cases e
   simp only[Bool.and_eq_true,decide_eq_true_eq]at hc
   obtain⟨a1,u1,x1,q1,i1⟩:=fr.items (k:=1) rfl e1 hc.1.2
   obtain⟨a2,u2,x2,q2,i2⟩:=fr.items (k:=0) rfl e2 hc.2
   cases x1;cases x2
   have l1:=i1.len
   have l2:=i2.len
   exact .inr (.inr ⟨_,_,_,_,rfl,rfl,q1,q2,hO (by omega),fun p hp=>q _ _ (fr.res2l (i1.append i2) hp)⟩)
  ·cases e
 ·cases e
def hU:P2:=bz (iD (fun _ _=>true) fun i j=>.int (i - j))
def gq:P2:=bz (iD (fun _ j=>kX j) fun i j=>.int (i / j))
def cF:P2:=bz (iD (fun _ j=>decide (0 < j)) fun i j=>.int (i % j))
section
variable {X:Cx}
theorem zo:OpR X (binaryOp .Sub) (DI (fun _ _=>true) fun i j=>.int (i - j)):=OpR.imp BH fun x y H Q ⟨i,j,a,b,_,q⟩=>⟨i,j,a,b,q⟩
theorem wD:OpR X (binaryOp .FloorDiv) (DI (fun _ j=>kX j) fun i j=>.int (i / j)):=Fq fun i j _ _ _ _ _ hc q=>by
 obtain⟨h1,h2⟩:=of_decide_eq_true hc
 have h3:j.natAbs.log2 < 9000:=by
  have:j.natAbs < 2 ^ 400:=by omega
  have:=(Nat.log2_lt (n:=j.natAbs) (k:=400) (by omega)).mpr this
  omega
 exact floordiv_int (by omega) (by rw[Int.fdiv_eq_ediv_of_nonneg i (by omega)];exact q) (.inl (PyProof.noPylong_of_log2 h3))
theorem zp:OpR X (binaryOp .Mod) (DI (fun _ j=>decide (0 < j)) fun i j=>.int (i % j)):=OpR.imp BI fun x y H Q ⟨i,j,a,b,c,q⟩=>⟨i,j,a,b,of_decide_eq_true c,q⟩
end
def dX:P2:=fun E s1 s2=>(look E s1).bind fun d1=>(look E s2).bind fun d2=>match d1,d2 with
 |.int i,.int j=>if dA i j then some (.sh (.int (i*j)),E)else none
 |.list a,.int k=>if decide (a.length*k.toNat≤1000000∧ -1000000≤k∧k≤1000000)&&(!hot E s1||bg a)then some (.ow (List.replicate k.toNat a).flatten,E)else none
 |_,_=>none
abbrev ub(K:PySem.W.Frag):R2:=fun x y H Q=>DI dA (fun i j=>.int (i*j)) x y H Q∨AR K x y H Q
theorem pP{X:Cx}:OpR X (binaryOp .Mult) (ub X.K):=OpR.or (Fq fun _ _ _ _ _ _ _ hc q=>mul_int q (wC hc)) zk
theorem zq{K:PySem.W.Frag}:iM K (ub K) dX:=by
 intro B F A σ H E xs Xs v1 v2 s1 s2 res E' Q fr e q
 obtain⟨d1,e1,e⟩:=Option.bind_eq_some_iff.mp e
 obtain⟨d2,e2,e⟩:=Option.bind_eq_some_iff.mp e
 have r1:=(fr.look1 e1).1
 have r2:=(fr.look0 e2).1
 split at e
 ·split at e
  ·rename_i hm
   cases e;cases r1;cases r2
   exact .inl ⟨_,_,rfl,rfl,hm,q _ _ (fr.res2 ⟨rfl,_,rfl,.int _⟩)⟩
  ·cases e
 ·split at e
  ·rename_i hc
   cases e
   simp only[Bool.and_eq_true,decide_eq_true_eq]at hc
   obtain⟨a1,u1,x1,q1,i1⟩:=fr.items (k:=1) rfl e1 hc.2
   cases x1;cases r2
   have l1:=i1.len
   exact .inr ⟨_,_,_,rfl,rfl,q1,by omega,by omega,hO (by rw[l1];exact hc.1.1),fun p hp=>q _ _ (fr.res2l (i1.rep _) hp)⟩
  ·cases e
 ·cases e
section
variable {X:Cx} {a b:Expr} {m1 m2:Bool} {f g:cX} {pos:Pos}
theorem aA(ha:EX X a m1 f)(hb:EX X b m2 g):EX X (.BinOp a .Add b pos) (m1||m2) (ag aE m2 f g):=oW zm zn ha hb
theorem ng(ha:EX X a m1 f)(hb:EX X b m2 g):EX X (.BinOp a .Sub b pos) (m1||m2) (ag hU m2 f g):=oW zo (su fun _ _=>rfl) ha hb
theorem fY(ha:EX X a m1 f)(hb:EX X b m2 g):EX X (.BinOp a .Mult b pos) (m1||m2) (ag dX m2 f g):=oW pP zq ha hb
theorem iZ(ha:EX X a m1 f)(hb:EX X b m2 g):EX X (.BinOp a .FloorDiv b pos) (m1||m2) (ag gq m2 f g):=oW wD (su fun _ _=>rfl) ha hb
theorem dO(ha:EX X a m1 f)(hb:EX X b m2 g):EX X (.BinOp a .Mod b pos) (m1||m2) (ag cF m2 f g):=oW zp (su fun _ _=>rfl) ha hb
end
def FD(K:PySem.W.Frag)(r:V→Hp→VK→Prop)(op:PyData→Option PyData):Prop:=∀(d1 d:PyData) (v1:V) (H:Hp) (Q:VK),op d1=some d→Rp K H v1 d1→∃v,AO d=some v∧(Q v H→r v1 H Q)
def gE(op:PyData→Option PyData)(f:cX):cX:=fun E=>(f E).bind fun a=>(look a.2 a.1).bind fun d1=>(op d1).map fun d=>(.sh d,a.2)
theorem DJ{K:PySem.W.Frag}{r:V→Hp→VK→Prop}{op:PyData→Option PyData}(hp:FD K r op){m:Bool}{f:cX}{σ:lK}{H:Hp}{Q:VK}(h:rd K m (gE op f) σ H Q):rd K m f σ H (fun x H1=>r x H1 Q):=by
 obtain⟨B,E,xs,Xs,res,E',fr,c,e,q⟩:=h
 obtain⟨⟨s1,E1⟩,e1,e⟩:=Option.bind_eq_some_iff.mp e
 obtain⟨d1,e2,e⟩:=Option.bind_eq_some_iff.mp e
 obtain⟨d,e3,e⟩:=Option.map_eq_some_iff.mp e
 cases e
 refine⟨B,E,xs,Xs,s1,E1,fr,c,e1,fun v1 H1 ⟨F,A,fr1⟩=>?_⟩
 obtain⟨v,hv,k⟩:=hp d1 d v1 H1 Q e3 (fr1.look0 e2).1
 obtain⟨A',fr2⟩:=fr1.pop
 exact k (q v H1 ⟨F,A',fr2.push ⟨rfl,v,rfl,m9 hv⟩⟩)
def mD:PyData→Option PyData
 |.int i=>some (.int (-i))
 |_=>none
section
variable {X:Cx} {a b c:Expr} {m1 m2 m3:Bool} {f g h:cX} {pos:Pos}
theorem sw(ha:EX X a m1 f):EX X (.UnaryOp .USub a pos) m1 (gE mD f):=bY (Dn BJ ha) fun σ H Q h=>DJ (r:=rU fun i=>.int (-i)) (fun d1 d v1 H Q e r=>by
 cases d1 <;> simp[mD]at e
 cases e;cases r
 exact⟨_,rfl,fun q=>⟨_,rfl,q⟩⟩) h
end
def sx(d1 d2:PyData):Option Bool:=match d1,d2 with
 |.int i,.int j=>some (decide (i=j))
 |.str a,.str b=>some (decide (a=b))
 |.bool a,.bool b=>some (decide (a=b))
 |.none,.none=>some true
 |.none,.str _=>some false
 |.str _,.none=>some false
 |d1,d2=>if SeqAt.shaped d1&&SeqAt.shaped d2 then some (PyData.eqv d1 d2)else none
def cP:P2:=bz fun d1 d2=>(sx d1 d2).map fun b=>.bool b
def jB:P2:=bz fun d1 d2=>(sx d1 d2).map fun b=>.bool (!b)
abbrev FE(K:PySem.W.Frag):R2:=fun x y H Q=>Fr x y H Q∨DE K x y H Q
abbrev FG(K:PySem.W.Frag):R2:=fun x y H Q=>Gj x y H Q∨DF K x y H Q
theorem wE{K:PySem.W.Frag}{H:Hp}{v1 v2:V}{d1 d2:PyData}{b:Bool}(e:sx d1 d2=some b)(r1:Rp K H v1 d1)(r2:Rp K H v2 d2):
  (BK v1 v2=true∧decide (v1=v2)=b)∨(DOf K H v1 d1∧DOf K H v2 d2∧SeqAt.shaped d1=true∧SeqAt.shaped d2=true∧PyData.eqv d1 d2=b):=by
 unfold sx at e
 split at e
 ·cases e;cases r1;cases r2;exact .inl ⟨rfl,by simp⟩
 ·cases e;cases r1;cases r2;exact .inl ⟨rfl,by simp⟩
 ·cases e;cases r1;cases r2;exact .inl ⟨rfl,by simp⟩
 ·cases e;cases r1;cases r2;exact .inl ⟨rfl,rfl⟩
 ·cases e;cases r1;cases r2;exact .inl ⟨rfl,rfl⟩
 ·cases e;cases r1;cases r2;exact .inl ⟨rfl,rfl⟩
 ·split at e
  ·rename_i hs
   cases e
   simp only[Bool.and_eq_true]at hs
   exact .inr ⟨r1.dof hs.1,r2.dof hs.2,hs.1,hs.2,rfl⟩
  ·cases e
theorem wF{K:PySem.W.Frag}:iM K (FE K) cP:=fX fun d1 d2 d v1 v2 H Q e r1 r2=>by
 obtain⟨b,e',rfl⟩:=Option.map_eq_some_iff.mp e
 refine⟨_,rfl,fun q=>?_⟩
 rcases wE e' r1 r2 with⟨a,rfl⟩ |⟨a1,a2,a3,a4,rfl⟩
 ·exact .inl ⟨a,q⟩
 ·exact .inr ⟨_,_,a1,a2,a3,a4,q⟩
theorem BY{K:PySem.W.Frag}:iM K (FG K) jB:=fX fun d1 d2 d v1 v2 H Q e r1 r2=>by
 obtain⟨b,e',rfl⟩:=Option.map_eq_some_iff.mp e
 refine⟨_,rfl,fun q=>?_⟩
 rcases wE e' r1 r2 with⟨a,rfl⟩ |⟨a1,a2,a3,a4,rfl⟩
 ·exact .inl ⟨a,q⟩
 ·exact .inr ⟨_,_,a1,a2,a3,a4,q⟩
def nh(K:PySem.W.Frag)(r:R2)(op:PyData→PyData→Option PyData):Prop:=∀(d1 d2 d:PyData) (v1 v2:V) (H:Hp) (Q:VK),op d1 d2=some d→Rp K H v1 d1→Rp K H v2 d2→∃v,AO d=some v∧(Q v H→r v1 v2 H Q)
def cY(neg:Bool):PyData→PyData→Option PyData
 |d,.none=>some (.bool (match d with |.none=> !neg |_=>neg))
 |_,_=>none
theorem wG{K:PySem.W.Frag}:nh K (fun x y H Q=>y=.non∧Q (.bl (decide (x=.non))) H) (cY false):=fun d1 d2 d v1 v2 H Q e r1 r2=>by
 unfold cY at e
 split at e
 ·cases e;cases r2
  refine⟨_,rfl,fun q=>⟨rfl,?_⟩⟩
  cases r1 <;> exact q
 ·cases e
theorem zr{K:PySem.W.Frag}:nh K (fun x y H Q=>y=.non∧Q (.bl (!decide (x=.non))) H) (cY true):=fun d1 d2 d v1 v2 H Q e r1 r2=>by
 unfold cY at e
 split at e
 ·cases e;cases r2
  refine⟨_,rfl,fun q=>⟨rfl,?_⟩⟩
  cases r1 <;> exact q
 ·cases e
def cZ(op op':PyData→PyData→Option PyData)(m2 m3:Bool)(f g h:cX):cX:=fun E=>(f E).bind fun a=>if (m2||m3)&&a.1.isBr then none else (g a.2).bind fun b=>if m3&&b.1.isBr then none else
 (look b.2 a.1).bind fun d1=>(look b.2 b.1).bind fun d2=>match op d1 d2 with
  |some (.bool true)=>(h b.2).bind fun c=>(look c.2 b.1).bind fun d2=>(look c.2 c.1).bind fun d3=>(op' d2 d3).map fun d=>(.sh d,c.2)
  |some (.bool false)=>some (.sh (.bool false),b.2)
  |_=>none
section
variable {X:Cx} {a b c:Expr} {m1 m2 m3:Bool} {f g h:cX} {pos:Pos}
theorem DK(hu:X.A.units+64 < cLine)(ha:EX X a m1 f)(hb:EX X b m2 g):EX X (.Compare a [.Eq] [b] pos) (m1||m2) (ag cP m2 f g):=sr (OpR.or v9 (wt hu)) wF ha hb (jw _)
theorem wH(ha:EX X a m1 f)(hb:EX X b m2 g):EX X (.Compare a [.Is] [b] pos) (m1||m2) (ag (bz (cY false)) m2 f g):=sr v_ (fX wG) ha hb (jw _)
theorem dB(hu:X.A.units+64 < cLine)(ha:EX X a m1 f)(hb:EX X b m2 g):TX X (.Compare a [.Eq] [b] pos) (m1||m2) (a_ (ag cP m2 f g)):=iY (OpR.or v9 (wt hu)) wF ha hb (jw _)
theorem ml(hu:X.A.units+64 < cLine)(ha:EX X a m1 f)(hb:EX X b m2 g):TX X (.Compare a [.NotEq] [b] pos) (m1||m2) (a_ (ag jB m2 f g)):=iY (OpR.or Dp (BT hu)) BY ha hb (jw _)
theorem kA(ha:EX X a m1 f)(hb:EX X b m2 g):TX X (.Compare a [.Is] [b] pos) (m1||m2) (a_ (ag (bz (cY false)) m2 f g)):=iY v_ (fX wG) ha hb (jw _)
theorem uc(ha:EX X a m1 f)(hb:EX X b m2 g):TX X (.Compare a [.IsNot] [b] pos) (m1||m2) (a_ (ag (bz (cY true)) m2 f g)):=iY yS (fX zr) ha hb (jw _)
theorem qK{K:PySem.W.Frag}{r r':R2}{op op':PyData→PyData→Option PyData}(k:nh K r op)(k':nh K r' op'){σ:lK}{H:Hp}{Q:VK}(z:rd K (m1||(m2||m3)) (cZ op op' m2 m3 f g h) σ H Q):rZ r r' (rd K m1 f) (rd K m2 g) (rd K m3 h) σ H Q:=by
 obtain⟨B,E,xs,Xs,res,E',fr,cl,e,q⟩:=z
 obtain⟨⟨s1,E1⟩,e1,e⟩:=Option.bind_eq_some_iff.mp e
 by_cases hb:((m2||m3)&&s1.isBr)=true
 ·rw[if_pos hb]at e;cases e
 rw[if_neg hb]at e
 obtain⟨⟨s2,E2⟩,e2,e⟩:=Option.bind_eq_some_iff.mp e
 by_cases hb2:(m3&&s2.isBr)=true
 ·rw[if_pos hb2]at e;cases e
 rw[if_neg hb2]at e
 obtain⟨d1,l1,e⟩:=Option.bind_eq_some_iff.mp e
 obtain⟨d2,l2,e⟩:=Option.bind_eq_some_iff.mp e
 have n1:(m2||m3)=true→s1.isBr=false:=fun z=>by
  cases hs:s1.isBr with
  |false=>rfl
  |true=>exact absurd (by rw[z,hs];rfl) hb
 have n2:m3=true→s2.isBr=false:=fun z=>by
  cases hs:s2.isBr with
  |false=>rfl
  |true=>exact absurd (by rw[z,hs];rfl) hb2
 refine⟨B,E,xs,Xs,s1,E1,fr,fun z=>cl (by simp[z]),e1,fun v1 H1 fr1=>?_⟩
 refine⟨B,E1,v1::xs,s1::Xs,s2,E2,fr1,fun z=>Calm.cons (cl (by simp[z])) (n1 (by simp[z])),e2,fun v2 H2 ⟨F,A,fr2⟩=>?_⟩
 cases ho:op d1 d2 with
 |none=>rw[ho]at e;cases e
 |some d=>
  rw[ho]at e
  obtain⟨v,hv,kk⟩:=k d1 d2 d v1 v2 H2 (fun z H3=>∃k,z=.bl k∧(if k=true then rd K m3 h σ H3 fun w' H4=>r' v2 w' H4 Q else Q (.bl false) H3)) ho (fr2.look1 l1).1 (fr2.look0 l2).1
  cases d with
  |bool t=>
   cases hv
   refine kk ⟨t,rfl,?_⟩
   cases t with
   |true=>
    rw[if_pos rfl]
    obtain⟨⟨s3,E3⟩,e3,e⟩:=Option.bind_eq_some_iff.mp e
    obtain⟨d2',l2',e⟩:=Option.bind_eq_some_iff.mp e
    obtain⟨d3,l3,e⟩:=Option.bind_eq_some_iff.mp e
    obtain⟨d,ho',e⟩:=Option.map_eq_some_iff.mp e
    cases e
    refine⟨B,E2,v2::v1::xs,s2::s1::Xs,s3,E3,⟨F,A,fr2⟩,fun z=>Calm.cons (Calm.cons (cl (by simp[z])) (n1 (by simp[z]))) (n2 z),e3,fun v3 H3 ⟨F3,A3,fr3⟩=>?_⟩
    obtain⟨v,hv,kk⟩:=k' d2' d3 d v2 v3 H3 Q ho' (fr3.look1 l2').1 (fr3.look0 l3).1
    obtain⟨A4,fr4⟩:=fr3.pop
    exact kk (q v H3 (fr4.res2 ⟨rfl,v,rfl,m9 hv⟩))
   |false=>
    rw[if_neg (by decide)]
    cases e
    exact q _ _ (fr2.res2 ⟨rfl,_,rfl,.bl _⟩)
  |none=>cases e
  |int i=>cases e
  |str x=>cases e
  |list xs=>cases e
  |tuple xs=>cases e
  |dict kvs=>cases e
theorem wI{o1 o2:CmpOp}{r r':R2}{op op':PyData→PyData→Option PyData}(ho:OpR X (compareOp o1) r)(ho':OpR X (compareOp o2) r')(k:nh X.K r op)(k':nh X.K r' op')(ha:EX X a m1 f)(hb:EX X b m2 g)(hc:EX X c m3 h)
  (hm:lastMarks [o1,o2] [b,c]=false:=by with_unfolding_all rfl):EX X (.Compare a [o1,o2] [b,c] pos) (m1||(m2||m3)) (cZ op op' m2 m3 f g h):=bY (wa ho ho' ha hb hc hm) fun _ _ _ z=>qK k k' z
end
end PL
namespace PL
open PySem L2 Nh
def kh(f g:cX):cX:=fun E=>(f E).bind fun a=>match a.1 with
 |.sh (.bool true)=>g a.2
 |.sh (.bool false)=>some (.sh (.bool false),a.2)
 |_=>none
def wJ(f g:cX):cX:=fun E=>(f E).bind fun a=>match a.1 with
 |.sh (.bool true)=>some (.sh (.bool true),a.2)
 |.sh (.bool false)=>g a.2
 |_=>none
def bI(f g:iU):iU:=fun E=>(f E).bind fun a=>if a.1 then g a.2 else some (false,a.2)
def cz(f g:iU):iU:=fun E=>(f E).bind fun a=>if a.1 then some (true,a.2)else g a.2
def cA(f:iU):iU:=fun E=>(f E).map fun a=>(!a.1,a.2)
def oX(c:iU)(f g:cX):cX:=fun E=>(c E).bind fun a=>if a.1 then f a.2 else g a.2
def dY:PyData→Option Bool
 |.none=>some false
 |.bool b=>some b
 |.int i=>some (i != 0)
 |.str x=>if x.length≤1000000 then some ((x.length:Int) != 0)else none
 |.list xs=>some (!xs.isEmpty)
 |.tuple xs=>some (!xs.isEmpty)
 |.dict _=>none
def cL(f:cX):iU:=fun E=>(f E).bind fun a=>match a.1 with
 |.al i=>match a.2[i]? with
  |some (.od kvs)=>some (!kvs.isEmpty,a.2)
  |some s=>(s.val.bind dY).map fun b=>(b,a.2)
  |none=>none
 |s=>(s.val.bind dY).map fun b=>(b,a.2)
section
variable {X:Cx} {a b c:Expr} {dW:List Expr} {m1 m2 m3:Bool} {f g h:cX} {t u:iU} {pos:Pos} {K:PySem.W.Frag}
theorem sy{op}(h:EX X a m1 f):EX X (.BoolOp op [a] pos) m1 f:=Bw h
theorem sC(ha:EX X a m1 f)(hb:EX X (.BoolOp .And (b::dW) pos) m2 g):EX X (.BoolOp .And (a::b::dW) pos) (m1||m2) (kh f g):=by
 refine bY (Bx ha hb) fun σ H Q z=>?_
 obtain⟨B,E,xs,Xs,res,E',fr,cl,e,q⟩:=z
 obtain⟨⟨s1,E1⟩,e1,e⟩:=Option.bind_eq_some_iff.mp e
 refine⟨B,E,xs,Xs,s1,E1,fr,fun z=>cl (by simp[z]),e1,fun v1 H1 ⟨F,A,fr1⟩=>?_⟩
 simp only at e
 split at e
 ·obtain⟨r,_⟩:=fr1.look0 (d:=.bool true) rfl
  cases r
  obtain⟨A',fr2⟩:=fr1.pop
  exact⟨true,rfl,(if_pos rfl).mpr ⟨B,E1,xs,Xs,res,E',⟨F,A',fr2⟩,fun z=>cl (by simp[z]),e,q⟩⟩
 ·cases e
  obtain⟨r,_⟩:=fr1.look0 (d:=.bool false) rfl
  cases r
  exact⟨false,rfl,(if_neg (by decide)).mpr (q _ _ ⟨F,A,fr1⟩)⟩
 ·cases e
theorem DN(ha:EX X a m1 f)(hb:EX X (.BoolOp .Or (b::dW) pos) m2 g):EX X (.BoolOp .Or (a::b::dW) pos) (m1||m2) (wJ f g):=by
 refine bY (Dh ha hb) fun σ H Q z=>?_
 obtain⟨B,E,xs,Xs,res,E',fr,cl,e,q⟩:=z
 obtain⟨⟨s1,E1⟩,e1,e⟩:=Option.bind_eq_some_iff.mp e
 refine⟨B,E,xs,Xs,s1,E1,fr,fun z=>cl (by simp[z]),e1,fun v1 H1 ⟨F,A,fr1⟩=>?_⟩
 simp only at e
 split at e
 ·cases e
  obtain⟨r,_⟩:=fr1.look0 (d:=.bool true) rfl
  cases r
  exact⟨true,rfl,(if_pos rfl).mpr (q _ _ ⟨F,A,fr1⟩)⟩
 ·obtain⟨r,_⟩:=fr1.look0 (d:=.bool false) rfl
  cases r
  obtain⟨A',fr2⟩:=fr1.pop
  exact⟨false,rfl,(if_neg (by decide)).mpr ⟨B,E1,xs,Xs,res,E',⟨F,A',fr2⟩,fun z=>cl (by simp[z]),e,q⟩⟩
 ·cases e
theorem gd(ha:TX X a m1 t):WX X (.BoolOp .And [a] pos) m1 t:=yL ha
theorem gA(ha:TX X a m1 t):WX X (.BoolOp .Or [a] pos) m1 t:=Bt ha
theorem iE(ha:TX X a m1 t)(hb:WX X (.BoolOp .And (b::dW) pos) m2 u):WX X (.BoolOp .And (a::b::dW) pos) (m1||m2) (bI t u):=by
 refine wA (Bu ha hb) fun σ H Q z=>?_
 obtain⟨B,E,xs,Xs,res,E',fr,cl,e,q⟩:=z
 obtain⟨⟨b1,E1⟩,e1,e⟩:=Option.bind_eq_some_iff.mp e
 refine⟨B,E,xs,Xs,b1,E1,fr,fun z=>cl (by simp[z]),e1,fun H1 fr1=>?_⟩
 cases b1 with
 |true=>exact(if_pos rfl).mpr ⟨B,E1,xs,Xs,res,E',fr1,fun z=>cl (by simp[z]),e,q⟩
 |false=>cases e;exact(if_neg (by decide)).mpr (q _ fr1)
theorem gr(ha:TX X a m1 t)(hb:WX X (.BoolOp .Or (b::dW) pos) m2 u):WX X (.BoolOp .Or (a::b::dW) pos) (m1||m2) (cz t u):=by
 refine wA (De ha hb) fun σ H Q z=>?_
 obtain⟨B,E,xs,Xs,res,E',fr,cl,e,q⟩:=z
 obtain⟨⟨b1,E1⟩,e1,e⟩:=Option.bind_eq_some_iff.mp e
 refine⟨B,E,xs,Xs,b1,E1,fr,fun z=>cl (by simp[z]),e1,fun H1 fr1=>?_⟩
 cases b1 with
 |true=>cases e;exact(if_pos rfl).mpr (q _ fr1)
 |false=>exact(if_neg (by decide)).mpr ⟨B,E1,xs,Xs,res,E',fr1,fun z=>cl (by simp[z]),e,q⟩
theorem io(h:WX X a m1 t):TX X a m1 t:=PW.pt h
theorem fE(ha:TX X a m1 t):TX X (.UnaryOp .Not a pos) m1 (cA t):=by
 refine pN (Bv ha) fun σ H Q z=>?_
 obtain⟨B,E,xs,Xs,res,E',fr,cl,e,q⟩:=z
 obtain⟨⟨b1,E1⟩,e1,e⟩:=Option.map_eq_some_iff.mp e
 cases e
 exact⟨B,E,xs,Xs,b1,E1,fr,cl,e1,fun H1 fr1=>q _ fr1⟩
theorem qL(hc:TX X c m1 t)(ha:EX X a m2 f)(hb:EX X b m3 g):EX X (.IfExp c a b pos) (m1||(m2||m3)) (oX t f g):=by
 refine bY (vZ hc ha hb) fun σ H Q z=>?_
 obtain⟨B,E,xs,Xs,res,E',fr,cl,e,q⟩:=z
 obtain⟨⟨b1,E1⟩,e1,e⟩:=Option.bind_eq_some_iff.mp e
 refine⟨B,E,xs,Xs,b1,E1,fr,fun z=>cl (by simp[z]),e1,fun H1 fr1=>?_⟩
 cases b1 with
 |true=>exact(if_pos rfl).mpr ⟨B,E1,xs,Xs,res,E',fr1,fun z=>cl (by simp[z]),e,q⟩
 |false=>exact(if_neg (by decide)).mpr ⟨B,E1,xs,Xs,res,E',fr1,fun z=>cl (by simp[z]),e,q⟩
theorem BZ{H:Hp}{v:V}{d:PyData}{b:Bool}(r:Rp K H v d)(e:dY d=some b):wc K v H b:=by
 cases r with
 |non=>cases e;rfl
 |bl b=>cases e;rfl
 |int i=>cases e;rfl
 |str x=>
  simp only[dY]at e
  split at e
  ·rename_i hl
   cases e
   exact⟨hO hl,rfl⟩
  ·cases e
 |lst h r=>cases e;exact .inl ⟨_,h,by cases r <;> rfl⟩
 |tup h r=>cases e;exact .inr (.inl ⟨_,h,by cases r <;> rfl⟩)
 |dct h r=>cases e
 |exc h r=>cases e
 |obj c h n r=>cases e
 |frl h r=>cases e
theorem dG(ha:EX X a m1 f)(he:∀whole,isTrue a X.env whole=(do let v ←whole;standAt a.pos;holding [v] (truthy v)):=by exact fun _=>rfl):TX X a m1 (cL f):=by
 refine pN (wd ha he) fun σ H Q z=>?_
 obtain⟨B,E,xs,Xs,res,E',fr,cl,e,q⟩:=z
 obtain⟨⟨s,E1⟩,e1,e⟩:=Option.bind_eq_some_iff.mp e
 refine⟨B,E,xs,Xs,s,E1,fr,cl,e1,fun v1 H1 ⟨F,A,fr1⟩=>?_⟩
 have key:∀d,look E1 s=some d→(dY d).map (fun b=>(b,E1))=some (res,E')→∃k,wc X.K v1 H1 k∧Q k H1:=fun d l e=>by
  obtain⟨b,e',z⟩:=Option.map_eq_some_iff.mp e
  cases z
  obtain⟨A',fr2⟩:=fr1.pop
  exact⟨_,BZ (fr1.look0 l).1 e',q _ ⟨F,A',fr2⟩⟩
 have kv:(s.val.bind dY).map (fun b=>(b,E1))=some (res,E')→(∀i,s≠ .al i)→∃k,wc X.K v1 H1 k∧Q k H1:=fun e na=>by
  obtain⟨b,e',z⟩:=Option.map_eq_some_iff.mp e
  obtain⟨d,e1,e2⟩:=Option.bind_eq_some_iff.mp e'
  refine key d ?_ (by rw[e2];exact congrArg some z)
  cases s <;> first |exact e1 |exact absurd rfl (na _)
 simp only at e
 split at e
 ·rename_i i
  split at e
  ·rename_i kvs ei
   cases e
   obtain⟨v',A1,ev,rfl,w,ew,hw⟩:=fr1.ext (k:=0) rfl
   cases ev;cases ew
   obtain⟨o,A1,eo,l,us,A2,rfl,_,hl,r⟩:=fr1.var ei
   rw[hw]at eo
   cases eo
   obtain⟨A',fr2⟩:=fr1.pop
   exact⟨_,.inr (.inr ⟨_,hl,by cases us <;> cases kvs <;> first |rfl |exact False.elim r⟩),q _ ⟨F,A',fr2⟩⟩
  ·rename_i s' _ ei
   obtain⟨b,e',z⟩:=Option.map_eq_some_iff.mp e
   obtain⟨d,e1,e2⟩:=Option.bind_eq_some_iff.mp e'
   exact key d (by simp[look,ei,e1]) (by rw[e2];exact congrArg some z)
  ·cases e
 ·rename_i na
  exact kv e na
end
theorem wK{X:Cx}{a b c:Expr}{m1 m2 m3:Bool}{f g h:cX}{pos:Pos}{o1 o2:CmpOp}{r r':R2}{op op':PyData→PyData→Option PyData}(ho:OpR X (compareOp o1) r)(ho':OpR X (compareOp o2) r')(k:nh X.K r op)(k':nh X.K r' op')(ha:EX X a m1 f)(hb:EX X b m2 g)(hc:EX X c m3 h)
  (hm:lastMarks [o1,o2] [b,c]=false:=by with_unfolding_all rfl):TX X (.Compare a [o1,o2] [b,c] pos) (m1||(m2||m3)) (a_ (cZ op op' m2 m3 f g h)):=pN (wb ho ho' ha hb hc hm) fun _ _ _ z=>qK k k' (wB z)
def ap:m8:=fun E=>some ([],E)
def af(m2:Bool)(f:cX)(g:m8):m8:=fun E=>(f E).bind fun a=>if m2&&a.1.isBr then none else (g a.2).map fun b=>(a.1::b.1,b.2)
def bi:mC:=fun E=>some ([],E)
def aw(f:cX)(g:mC):mC:=fun E=>(f E).bind fun a=>(frz a.2 a.1).bind fun b=>(g b.2).map fun c=>(b.1::c.1,c.2)
def c8(f:mC):cX:=fun E=>(f E).bind fun a=>if a.1.length≤1000000 then some (.sh (.tuple a.1),a.2)else none
def cj(f:mC):cX:=fun E=>(f E).bind fun a=>if a.1.length≤1000000 then some (.ow a.1,a.2)else none
section
variable {X:Cx} {e:Expr} {es:List Expr} {m1 m2:Bool} {f:cX} {g:m8} {d:mC} {pos:Pos} {K:PySem.W.Frag}
theorem ar:AX X [] false ap:=by
 refine lR fi fun σ H Q z=>?_
 obtain⟨B,E,xs,Xs,res,E',fr,cl,e,q⟩:=z
 cases e
 exact q [] H rfl fr
theorem ae(ha:EX X e m1 f)(hr:AX X es m2 g)(hs:starEach (e::es) X.env=(false,eval e X.env)::starEach es X.env:=by rfl):AX X (e::es) (m1||m2) (af m2 f g):=by
 refine lR (c_ ha hr hs) fun σ H Q z=>?_
 obtain⟨B,E,xs,Xs,res,E',fr,cl,e,q⟩:=z
 obtain⟨⟨s,E1⟩,e1,e⟩:=Option.bind_eq_some_iff.mp e
 by_cases hb:(m2&&s.isBr)=true
 ·rw[if_pos hb]at e;cases e
 rw[if_neg hb]at e
 obtain⟨⟨rs,E2⟩,e2,e⟩:=Option.map_eq_some_iff.mp e
 cases e
 refine⟨B,E,xs,Xs,s,E1,fr,fun z=>cl (by simp[z]),e1,fun v1 H1 fr1=>?_⟩
 refine⟨B,E1,v1::xs,s::Xs,rs,E2,fr1,fun z=>Calm.cons (cl (by simp[z])) ?_,e2,fun vs H2 hl fr2=>?_⟩
 ·cases hs:s.isBr with
  |false=>rfl
  |true=>exact absurd (by simp[z,hs]) hb
 ·exact q (v1::vs) H2 (by simp[hl]) (by simpa using fr2)
theorem B1:DX X [] false bi:=by
 refine lR fi fun σ H Q z=>?_
 obtain⟨B,E,xs,Xs,res,E',fr,cl,e,q⟩:=z
 cases e
 exact q [] H rfl fr
theorem zt(ha:EX X e m1 f)(hr:DX X es m2 d)(hs:starEach (e::es) X.env=(false,eval e X.env)::starEach es X.env:=by rfl):DX X (e::es) (m1||m2) (aw f d):=by
 refine lR (c_ ha hr hs) fun σ H Q z=>?_
 obtain⟨B,E,xs,Xs,res,E',fr,cl,e,q⟩:=z
 obtain⟨⟨s,E1⟩,e1,e⟩:=Option.bind_eq_some_iff.mp e
 obtain⟨⟨d1,E2⟩,e2,e⟩:=Option.bind_eq_some_iff.mp e
 obtain⟨⟨rs,E3⟩,e3,e⟩:=Option.map_eq_some_iff.mp e
 cases e
 refine⟨B,E,xs,Xs,s,E1,fr,fun z=>cl (by simp[z]),e1,fun v1 H1 ⟨F,A,fr1⟩=>?_⟩
 obtain⟨F2,A2,fr2⟩:=fr1.frz0 e2
 refine⟨B,E2,v1::xs,.sh d1::Xs,rs,E3,⟨F2,A2,fr2⟩,fun z=>Calm.cons (cl (by simp[z])) rfl,e3,fun vs H2 hl fr2=>?_⟩
 exact q (v1::vs) H2 (by simp[hl]) (by simpa using fr2)
theorem FrF.shsR{B F:Hp}{σ:lK}{H:Hp}{E:List Sl}{xs:List V}{Xs:List Sl}:∀{us:List V} {es:List PyData} {A:List Addr},us.length=es.length→FrF K B F A σ H E (us++xs) (es.map .sh++Xs)→RpA K F us es∧∃A',FrF K B F A' σ H E xs Xs
 |[],[],A,_,h=>⟨.nil,A,h⟩
 |u::us,e::es,A,hl,h=>by
  obtain⟨v,A1,ev,rfl,w,ew,r⟩:=h.ext (k:=0) rfl
  cases ev;cases ew
  obtain⟨A',h'⟩:=FrF.pop (xs:=us++xs) (Xs:=es.map .sh++Xs) h
  obtain⟨r',q⟩:=FrF.shsR (by simpa using hl) h'
  exact⟨.cons r r',q⟩
 |[],_::_,_,e,_=>by cases e
 |_::_,[],_,e,_=>by cases e
theorem FrF.shs{B F:Hp}{σ:lK}{H:Hp}{E:List Sl}{xs:List V}{Xs:List Sl}{us:List V}{es:List PyData}{A:List Addr}(hl:us.length=es.length)(h:FrF K B F A σ H E (us.reverse++xs) (es.reverse.map .sh++Xs)):RpA K F us es∧∃A',FrF K B F A' σ H E xs Xs:=by
 obtain⟨r,q⟩:=FrF.shsR (by simpa using hl) h
 have:=r.rev
 rw[List.reverse_reverse,List.reverse_reverse]at this
 exact⟨this,q⟩
theorem B3{x1}(h:DX X es m1 d):EX X (.Tuple es x1 pos) m1 (c8 d):=by
 refine bY (wj h) fun σ H Q z=>?_
 obtain⟨B,E,xs,Xs,res,E',fr,cl,e,q⟩:=z
 obtain⟨⟨ds,E1⟩,e1,e⟩:=Option.bind_eq_some_iff.mp e
 simp only at e
 split at e
 ·rename_i hl
  cases e
  refine⟨B,E,xs,Xs,ds,_,fr,cl,e1,fun vs H1 hv ⟨F,A,fr1⟩=>?_⟩
  obtain⟨r,A',fr2⟩:=fr1.shs hv
  exact⟨hO (by omega),fun p hp=>q _ _ ⟨_,_,fr2.newt r hp⟩⟩
 ·cases e
theorem B4(h:DX X es m1 d):EX X (.List es pos) m1 (cj d):=by
 refine bY (BN h) fun σ H Q z=>?_
 obtain⟨B,E,xs,Xs,res,E',fr,cl,e,q⟩:=z
 obtain⟨⟨ds,E1⟩,e1,e⟩:=Option.bind_eq_some_iff.mp e
 simp only at e
 split at e
 ·rename_i hl
  cases e
  refine⟨B,E,xs,Xs,ds,_,fr,cl,e1,fun vs H1 hv ⟨F,A,fr1⟩=>?_⟩
  obtain⟨r,A',fr2⟩:=fr1.shs hv
  exact⟨hO (by omega),fun p hp=>q _ _ ⟨_,_,fr2.newl r hp⟩⟩
 ·cases e
end
def zu(ds:List PyData)(lo hi:Option Int):List PyData:=(ds.drop (HT.qv ds.length 0 lo)).take (HT.qv ds.length ds.length hi - HT.qv ds.length 0 lo)
def bq:P2:=fun E s1 s2=>(look E s1).bind fun d1=>(look E s2).bind fun d2=>match d2 with
 |.int i=>match d1 with
  |.list ds=>(atI ds i).map fun d=>(if hot E s1&& !aJ d then .br d else .sh d,E)
  |.tuple ds=>(atI ds i).map fun d=>(if hot E s1&& !aJ d then .br d else .sh d,E)
  |.str z=>if z.length≤1000000 then (atI z.cps.toList i).map fun c=>(.sh (.str ⟨#[c]⟩),E)else none
  |_=>none
 |_=>none
section
variable {K:PySem.W.Frag} {H:Hp}
theorem RpA.atI{vs:List V}{ds:List PyData}{i:Int}{d:PyData}(h:RpA K H vs ds)(e:L2.atI ds i=some d):∃v,L2.atI vs i=some v∧Rp K H v d:=by
 unfold L2.atI at e ⊢
 obtain⟨j,e1,e2⟩:=Option.bind_eq_some_iff.mp e
 obtain⟨v,ev,r⟩:=h.get e2
 exact⟨v,by rw[h.len,e1];exact ev,r⟩
theorem FrF.item{B F:Hp}{A:List Addr}{σ:lK}{E:List Sl}{xs:List V}{Xs:List Sl}{v1 v2 v:V}{s1 s2:Sl}{d:PyData}(fr:FrF K B F A σ H E (v2::v1::xs) (s2::s1::Xs))(r:Rp K H v d)(f:hot E s1=false→Rp K F v d):
  Frm K B σ H E (v::xs) ((if hot E s1&& !aJ d then .br d else .sh d)::Xs):=by
 by_cases hc:(hot E s1&& !aJ d)=true
 ·rw[if_pos hc]
  exact fr.res2 ⟨rfl,v,rfl,r⟩
 ·rw[if_neg hc]
  refine fr.res2 ⟨rfl,v,rfl,?_⟩
  cases hh:hot E s1 with
  |false=>exact f hh
  |true=>
   rw[hh]at hc
   exact fr.cold r (by simpa using hc)
theorem B5:iM K (Gk K) bq:=by
 intro B F A σ H E xs Xs v1 v2 s1 s2 res E' Q fr e q
 obtain⟨d1,e1,e⟩:=Option.bind_eq_some_iff.mp e
 obtain⟨d2,e2,e⟩:=Option.bind_eq_some_iff.mp e
 obtain⟨r1,f1⟩:=fr.look1 e1
 have r2:=(fr.look0 e2).1
 split at e
 ·cases r2
  split at e
  ·obtain⟨d,ed,e⟩:=Option.map_eq_some_iff.mp e
   cases e
   cases hh:hot E s1 with
   |false=>
    obtain⟨a,vs,rfl,h1,h2⟩:=f1 hh
    obtain⟨v,ev,rv⟩:=h2.atI ed
    have z:=fr.item (rv.same fr.fh) fun _=>rv
    rw[hh]at z q
    exact .inl ⟨_,_,_,v,rfl,rfl,h1,ev,q _ _ z⟩
   |true=>
    cases r1 with
    |lst h1 h2=>
     obtain⟨v,ev,rv⟩:=h2.atI ed
     have z:=fr.item rv fun h=>absurd (hh.symm.trans h) (by decide)
     rw[hh]at z q
     exact .inl ⟨_,_,_,v,rfl,rfl,h1,ev,q _ _ z⟩
  ·obtain⟨d,ed,e⟩:=Option.map_eq_some_iff.mp e
   cases e
   cases hh:hot E s1 with
   |false=>
    have h0:Rp K F v1 _:=f1 hh
    cases h0 with
    |tup h1 h2=>
     obtain⟨v,ev,rv⟩:=h2.atI ed
     have z:=fr.item (rv.same fr.fh) fun _=>rv
     rw[hh]at z q
     exact .inr (.inl ⟨_,_,_,v,rfl,rfl,fr.fh.tup h1,ev,q _ _ z⟩)
   |true=>
    cases r1 with
    |tup h1 h2=>
     obtain⟨v,ev,rv⟩:=h2.atI ed
     have z:=fr.item rv fun h=>absurd (hh.symm.trans h) (by decide)
     rw[hh]at z q
     exact .inr (.inl ⟨_,_,_,v,rfl,rfl,h1,ev,q _ _ z⟩)
  ·split at e
   ·rename_i hl
    obtain⟨c,ec,e⟩:=Option.map_eq_some_iff.mp e
    cases e;cases r1
    exact .inr (.inr ⟨_,_,c,rfl,rfl,hO hl,ec,q _ _ (fr.res2 ⟨rfl,_,rfl,.str _⟩)⟩)
   ·cases e
  ·cases e
 ·cases e
end
end PL
namespace L2
open PySem PySem.Spec PyProof.Rows
section
variable {κ:Type} [DecidableEq κ]
def sD(kvs:List (κ×V))(k:κ):Option V:=(kvs.find? fun kv=>decide (kv.1=k)).map (·.2)
def AT(kvs:List (κ×V))(k:κ):List (κ×V):=kvs.filter fun kv=>decide (kv.1≠k)
theorem qM{p:κ×V}{r:List (κ×V)}{k:κ}(e:p.1=k):sD (p::r) k=some p.2:=by simp[sD,List.find?_cons,e]
theorem qN{p:κ×V}{r:List (κ×V)}{k:κ}(e:¬p.1=k):sD (p::r) k=sD r k:=by simp[sD,List.find?_cons,e]
theorem RelO.getD{o:Option V}{u:Option Value}{d:V}{d':Value}(r:RelO o u)(rd:RelV d d'):RelV (o.getD d) (u.getD d'):=by
 cases o with
 |none=>cases u with
  |none=>exact rd
  |some _=>exact(show False from r).elim
 |some _=>cases u with
  |none=>exact(show False from r).elim
  |some _=>exact r
theorem KV.val{kvs:List (κ×V)}{vs:List (κ×Value)}(r:KV kvs vs)(k:κ):RelO (sD kvs k) (valueAt vs k):=by
 unfold KV at r
 induction r with
 |nil=>exact True.intro
 | @cons p q ps qs h t ih=>
  obtain⟨h1,h2⟩:=h
  by_cases e:p.1=k
  ·have e':q.1=k:=h1.symm.trans e
   have b:valueAt (q::qs) k=some q.2:=by simp[valueAt,List.find?_cons,e']
   rw[qM e,b];exact h2
  ·have e':¬q.1=k:=fun z=>e (h1.trans z)
   have b:valueAt (q::qs) k=valueAt qs k:=by simp[valueAt,List.find?_cons,e']
   rw[qN e,b];exact ih
theorem KV.any{kvs:List (κ×V)}{vs:List (κ×Value)}(r:KV kvs vs)(k:κ):(kvs.any fun kv=>decide (kv.1=k))=vs.any fun kv=>decide (kv.1=k):=by
 unfold KV at r
 induction r with
 |nil=>rfl
 |cons h t ih=>rw[List.any_cons,List.any_cons,ih,h.1]
theorem KV.drop{kvs:List (κ×V)}{vs:List (κ×Value)}(r:KV kvs vs)(k:κ):KV (AT kvs k) (without vs k):=by
 unfold KV at r ⊢
 unfold AT without
 induction r with
 |nil=>exact .nil
 | @cons p q ps qs h t ih=>
  obtain⟨h1,h2⟩:=h
  rw[List.filter_cons,List.filter_cons]
  by_cases e:p.1=k
  ·have a:¬decide (p.1≠k)=true:=by simp[e]
   have b:¬decide (q.1≠k)=true:=by simp[h1.symm.trans e]
   rw[if_neg a,if_neg b];exact ih
  ·have e':¬q.1=k:=fun z=>e (h1.trans z)
   have a:decide (p.1≠k)=true:=by simp[e]
   have b:decide (q.1≠k)=true:=by simp[e']
   rw[if_pos a,if_pos b];exact .cons ⟨h1,h2⟩ ih
theorem KV.length{kvs:List (κ×V)}{vs:List (κ×Value)}(r:KV kvs vs):kvs.length=vs.length:=Paired.length r
end
abbrev KT(H:Hp):List (List iJ×V)→List (List iJ×Addr×Value)→Prop:=Paired fun p q=>p.1=q.1∧H q.2.1=some (.tup (p.1.map kV))∧RelV p.2 q.2.2
theorem KT.val{H:Hp}{kvs:List (List iJ×V)}{xs:List (List iJ×Addr×Value)}(r:KT H kvs xs)(k:List iJ):RelO (sD kvs k) ((atKey xs k).map (·.2)):=by
 induction r with
 |nil=>exact True.intro
 | @cons p q ps qs h t ih=>
  obtain⟨h1,_,h2⟩:=h
  by_cases e:p.1=k
  ·have e':q.1=k:=h1.symm.trans e
   have b:atKey (q::qs) k=some q.2:=by simp[atKey,List.find?_cons,e']
   rw[qM e,b];exact h2
  ·have e':¬q.1=k:=fun z=>e (h1.trans z)
   have b:atKey (q::qs) k=atKey qs k:=by simp[atKey,List.find?_cons,e']
   rw[qN e,b];exact ih
theorem KT.keeps{H H':Hp}{kvs:List (List iJ×V)}{xs:List (List iJ×Addr×Value)}(r:KT H kvs xs)(ht:∀b ys,H b=some (.tup ys)→H' b=some (.tup ys)):KT H' kvs xs:=
 Paired.mapP r fun _ _ z=>⟨z.1,ht _ _ z.2.1,z.2.2⟩
section
variable {P:Program} {w:World} {H:Hp} {h:Heap} {a:Addr}
theorem DO{u:HO}(ok:HOk P w H h)(e:Rd H a u):ObjOk P w H h a u:=e.ok ok
theorem DQ{kvs:List (iJ×V)}(ok:HOk P w H h)(e:Rd H a (.dK kvs)):kvs.length≤sizeLine∧(a == sysModules)=false∧∃vs,KV kvs vs∧h.DictOf (mH P w) a vs:=
 show ObjOk P w H h a (.dK kvs)from DO ok e
end
section
variable {X:Cx} {pins:List (Addr×Obj)} {σ:St} {H:Hp} {s:Shared} {a:Addr} {y v:V} {u r:Value} {o:Option V} {A:Around} {E:Value→Shared→Prop}
theorem Inv.big(I:Inv X pins σ H s):sysModules < s.heap.objs.size:=by
 have h:mainGlobals < s.heap.objs.size:=(I.mod.glob.keeps I.bk).lt
 exact Nat.lt_trans (by decide) h
end
theorem wL{P:Program}{w:World}{H:Hp}(h:Heap)(hb:sysModules < h.objs.size):ObjOk P w H (h.push {cls:=.type "dict",data:=.dict #[]}) h.objs.size (.dK []):=
 ⟨Nat.zero_le _,beq_eq_false_iff_ne.mpr (Ne.symm (Nat.ne_of_lt hb)),[],.nil,Heap.DictOf.new h⟩
def B6:TE:=fun _ H Q=>∀p,H p=none→Q (.ref p) (upd H p (.dK []))
section
variable {X:Cx} {pos:Pos}
theorem wM:PE X (.Dict [] [] pos) B6:=fun pins s σ H Q I h=>
 wpAny_Dict_empty ⟨.ref s.heap.objs.size,_,I.laid (a:=s.heap.objs.size) (o:=.dK []) (t':=s.toks) (fun _ _ q=>Heap.get?_push_of_some _ q) (Nat.le_refl _) (wL s.heap I.big),rfl,h _ (I.hok.fresh (Nat.le_refl _))⟩
end
end L2
namespace PL
open PySem L2 Nh
theorem aP{X:Cx}{a b:Expr}{m1 m2:Bool}{f g:cX}{pos:Pos}(ha:EX X a m1 f)(hb:EX X b m2 g)(hs:tT b:=by exact fun _ _=>rfl):EX X (.Subscript a b pos) (m1||m2) (ag bq m2 f g):=bY (Dy BQ ha hb hs) fun _ _ _ h=>pO B5 h
abbrev B7:=List Sl→Option (Option Int×List Sl)
def ro(K:PySem.W.Frag)(m:Bool)(f:B7):TO:=fun σ H Q=>∃B E xs Xs o E',Frm K B σ H E xs Xs∧(m=true→Calm Xs)∧f E=some (o,E')∧∀H',Frm K B σ H' E' xs Xs→Q o H'
def OX(X:Cx)(e:Option Expr)(m:Bool)(f:B7):Prop:=PO X e (ro X.K m f)
def eT:B7:=fun E=>some (none,E)
def bn(f:cX):B7:=fun E=>(f E).bind fun a=>match look a.2 a.1 with
 |some (.int i)=>some (some i,a.2)
 |_=>none
section
variable {X:Cx} {e:Expr} {lo hi:Option Expr} {m1 m2 m3:Bool} {f:cX} {g h:B7} {pos p2:Pos} {K:PySem.W.Frag}
theorem wN{e:Option Expr}{t t':TO}(h:PO X e t)(k:∀σ H Q,t' σ H Q→t σ H Q):PO X e t':=fun pins s σ H Q I q=>h pins s σ H Q I (k σ H Q q)
theorem i0:OX X none false eT:=wN y2 fun σ H Q z=>by
 obtain⟨B,E,xs,Xs,res,E',fr,cl,e,q⟩:=z
 cases e
 exact q _ fr
theorem b5(he:EX X e m1 f):OX X (some e) m1 (bn f):=wN (y9 he) fun σ H Q z=>by
 obtain⟨B,E,xs,Xs,res,E',fr,cl,e,q⟩:=z
 obtain⟨⟨s,E1⟩,e1,e⟩:=Option.bind_eq_some_iff.mp e
 refine⟨B,E,xs,Xs,s,E1,fr,cl,e1,fun v1 H1 ⟨F,A,fr1⟩=>?_⟩
 simp only at e
 split at e
 ·rename_i i l
  cases e
  have r:=(fr1.look0 l).1
  cases r
  obtain⟨A',fr2⟩:=fr1.pop
  exact⟨i,rfl,q _ ⟨F,A',fr2⟩⟩
 ·cases e
theorem RpA.cut{F:Hp}{vs:List V}{ds:List PyData}(h:RpA K F vs ds)(lo hi:Option Int):RpA K F (uX vs lo hi) (zu ds lo hi):=by
 unfold uX zu
 rw[h.len]
 exact(h.drop _).take _
end
def ax(E:List Sl):List Sl→Option (List PyData)
 |[]=>some []
 |s::ss=>(look E s).bind fun d=>(ax E ss).map fun ds=>d::ds
theorem lookA_iff{E:List Sl}:∀{ss:List Sl} {ds:List PyData},ax E ss=some ds↔Paired (fun s d=>look E s=some d) ss ds
 |[],ds=>⟨fun h=>by cases h;exact .nil,fun h=>by cases h;rfl⟩
 |s::ss,ds=>by
  constructor
  ·intro h
   obtain⟨d,h1,h⟩:=Option.bind_eq_some_iff.mp h
   obtain⟨es,h2,h⟩:=Option.map_eq_some_iff.mp h
   cases h
   exact .cons h1 (lookA_iff.mp h2)
  ·intro h
   cases h with
   |cons h1 h2=>simp[ax,h1,lookA_iff.mpr h2]
theorem va{E:List Sl}{ss:List Sl}{ds:List PyData}(h:ax E ss=some ds):ax E ss.reverse=some ds.reverse:=lookA_iff.mpr (ky (lookA_iff.mp h))
section
variable {X:Cx} {K:PySem.W.Frag} {B F:Hp} {σ:lK} {H:Hp} {E:List Sl} {xs:List V} {Xs:List Sl}
theorem FrF.looksR:∀{us:List V} {ts:List Sl} {es:List PyData} {A:List Addr},us.length=ts.length→FrF K B F A σ H E (us++xs) (ts++Xs)→ax E ts=some es→RpA K H us es∧∃A',FrF K B F A' σ H E xs Xs
 |[],[],es,A,_,h,e=>by cases e;exact⟨.nil,A,h⟩
 |u::us,t::ts,es,A,hl,h,e=>by
  obtain⟨d,h1,e⟩:=Option.bind_eq_some_iff.mp e
  obtain⟨es',h2,e⟩:=Option.map_eq_some_iff.mp e
  cases e
  have r:=(FrF.look0 (xs:=us++xs) (Xs:=ts++Xs) h h1).1
  obtain⟨A',h'⟩:=FrF.pop (xs:=us++xs) (Xs:=ts++Xs) h
  obtain⟨r',q⟩:=FrF.looksR (by simpa using hl) h' h2
  exact⟨.cons r r',q⟩
 |[],_::_,_,_,e,_,_=>by cases e
 |_::_,[],_,_,e,_,_=>by cases e
theorem FrF.looks{us:List V}{ts:List Sl}{es:List PyData}{A:List Addr}(hl:us.length=ts.length)(h:FrF K B F A σ H E (us.reverse++xs) (ts.reverse++Xs))(e:ax E ts=some es):RpA K H us es∧∃A',FrF K B F A' σ H E xs Xs:=by
 obtain⟨r,q⟩:=FrF.looksR (by simpa using hl) h (va e)
 have:=r.rev
 rw[List.reverse_reverse,List.reverse_reverse]at this
 exact⟨this,q⟩
end
def B8(K:PySem.W.Frag)(r:List V→Hp→VK→Prop)(op:List PyData→Option PyData):Prop:=∀(ds:List PyData) (d:PyData) (vs:List V) (H:Hp) (Q:VK),op ds=some d→RpA K H vs ds→∃v,AO d=some v∧(Q v H→r vs H Q)
def bJ(op:List PyData→Option PyData)(g:m8):cX:=fun E=>(g E).bind fun a=>(ax a.2 a.1).bind fun ds=>(op ds).map fun d=>(.sh d,a.2)
theorem sE{K:PySem.W.Frag}{r:List V→Hp→VK→Prop}{op:List PyData→Option PyData}(hp:B8 K r op){m:Bool}{g:m8}{σ:lK}{H:Hp}{Q:VK}(h:rd K m (bJ op g) σ H Q):BO r (ra K m g) σ H Q:=by
 obtain⟨B,E,xs,Xs,res,E',fr,cl,e,q⟩:=h
 obtain⟨⟨rs,E1⟩,e1,e⟩:=Option.bind_eq_some_iff.mp e
 obtain⟨ds,e2,e⟩:=Option.bind_eq_some_iff.mp e
 obtain⟨d,e3,e⟩:=Option.map_eq_some_iff.mp e
 cases e
 refine⟨B,E,xs,Xs,rs,E1,fr,cl,e1,fun vs H1 hl ⟨F,A,fr1⟩=>?_⟩
 obtain⟨r1,A',fr2⟩:=fr1.looks hl e2
 obtain⟨v,hv,k⟩:=hp ds d vs H1 Q e3 r1
 exact k (q v H1 ⟨F,A',fr2.push ⟨rfl,v,rfl,m9 hv⟩⟩)
def cG:List PyData→Option PyData
 |[.list xs]=>some (.int xs.length)
 |[.tuple xs]=>some (.int xs.length)
 |[.str z]=>if z.length≤1000000 then some (.int z.length)else none
 |_=>none
def nW:List PyData→Option PyData
 |[.int i]=>some (.int (if i < 0 then -i else i))
 |_=>none
def pQ:List PyData→Option PyData
 |[.int i,.int j]=>some (.int (if j < i then j else i))
 |_=>none
theorem RpA.one{K:PySem.W.Frag}{H:Hp}{vs:List V}{d:PyData}(h:RpA K H vs [d]):∃v,vs=[v]∧Rp K H v d:=by
 cases h with
 |cons h t=>cases t;exact⟨_,rfl,h⟩
theorem RpA.two{K:PySem.W.Frag}{H:Hp}{vs:List V}{d e:PyData}(h:RpA K H vs [d,e]):∃v u,vs=[v,u]∧Rp K H v d∧Rp K H u e:=by
 cases h with
 |cons h t=>
  obtain⟨u,rfl,r⟩:=t.one
  exact⟨_,_,rfl,h,r⟩
section
variable {X:Cx} {e:Expr} {es:List Expr} {m1:Bool} {g:m8} {p pos:Pos} {K:PySem.W.Frag}
abbrev DR(K:PySem.W.Frag):List V→Hp→VK→Prop:=fun xs H Q=>(∃p ys,xs=[.ref p]∧(SqL K H p ys∨SqT K H p ys)∧Q (.int ys.length) H)∨(∃z,xs=[.str z]∧z.length≤sizeLine∧Q (.int z.length) H)
theorem zv:B8 K (DR K) cG:=fun ds d vs H Q e r=>by
 unfold cG at e
 split at e
 ·cases e
  obtain⟨v,rfl,r'⟩:=r.one
  cases r' with
  |lst h1 h2=>exact⟨_,rfl,fun q=>.inl ⟨_,_,rfl,.inl h1,by rw[h2.len];exact q⟩⟩
 ·cases e
  obtain⟨v,rfl,r'⟩:=r.one
  cases r' with
  |tup h1 h2=>exact⟨_,rfl,fun q=>.inl ⟨_,_,rfl,.inr h1,by rw[h2.len];exact q⟩⟩
 ·split at e
  ·rename_i hl
   cases e
   obtain⟨v,rfl,r'⟩:=r.one
   cases r'
   exact⟨_,rfl,fun q=>.inr ⟨_,rfl,hO hl,q⟩⟩
  ·cases e
 ·cases e
theorem ni {x:Str} {id:String} {r:List V→Hp→VK→Prop} {op:List PyData→Option PyData} (hp:B8 X.K r op) (hc:CallR X (.builtin id) r) (hg:Gl X x) (hm:X.mg x=none) (hv:bootBuiltins x=some (.builtin id)) (ha:AX X (e::es) m1 g) (hn:x≠"__name__":=by decide) (hdb:(x == ("__debug__":Str))=false:=by decide)
  (he:starEach (e::es) X.env=(false,eval e X.env)::starEach es X.env:=by rfl) (hpl:(backTo pos (starEach es X.env)).any (·.1)=false:=by rfl):EX X (.Call (.Name x p) (e::es) [] pos) m1 (bJ op g):=
 bY (jy hc hg hm hv ha hn hdb he hpl) fun _ _ _ h=>sE hp h
theorem fk (hg:Gl X "len") (hm:X.mg "len"=none) (ha:AX X [e] m1 g) (he:starEach [e] X.env=[(false,eval e X.env)]:=by rfl):EX X (.Call (.Name "len" p) [e] [] pos) m1 (bJ cG g):=ni zv (CallR.or pI pJ) hg hm PySem.boot_len ha (by decide) (by decide) he rfl
theorem wO (hg:Gl X "abs") (hm:X.mg "abs"=none) (ha:AX X [e] m1 g) (he:starEach [e] X.env=[(false,eval e X.env)]:=by rfl):EX X (.Call (.Name "abs" p) [e] [] pos) m1 (bJ nW g):=ni (fun ds d vs H Q e r=>by
 unfold nW at e
 split at e
 ·cases e
  obtain⟨v,rfl,r'⟩:=r.one
  cases r'
  exact⟨_,rfl,fun q=>⟨_,rfl,q⟩⟩
 ·cases e) qC hg hm PyProof.Rows.boot_abs ha (by decide) (by decide) he rfl
theorem wP {e2:Expr} (hc:X.calm=true) (hg:Gl X "min") (hm:X.mg "min"=none) (ha:AX X [e,e2] m1 g) (he:starEach [e,e2] X.env=(false,eval e X.env)::starEach [e2] X.env:=by rfl) (hpl:(backTo pos (starEach [e2] X.env)).any (·.1)=false:=by rfl):EX X (.Call (.Name "min" p) [e,e2] [] pos) m1 (bJ pQ g):=ni (fun ds d vs H Q e r=>by
 unfold pQ at e
 split at e
 ·cases e
  obtain⟨v,u,rfl,r',r2⟩:=r.two
  cases r';cases r2
  exact⟨_,rfl,fun q=>⟨_,_,rfl,q⟩⟩
 ·cases e) (uT hc) hg hm PyProof.Rows.boot_min ha (by decide) (by decide) he hpl
end
inductive Ty where
 |non |bool |int |str |list |tuple |dict
def Ty.name:Ty→String
 |.non=>"NoneType"
 |.bool=>"bool"
 |.int=>"int"
 |.str=>"str"
 |.list=>"list"
 |.tuple=>"tuple"
 |.dict=>"dict"
def Ty.is:Ty→Ty→Bool
 |.non,.non=>true
 |.bool,.bool=>true
 |.bool,.int=>true
 |.int,.int=>true
 |.str,.str=>true
 |.list,.list=>true
 |.tuple,.tuple=>true
 |.dict,.dict=>true
 |_,_=>false
def ud:PyData→Ty
 |.none=>.non
 |.bool _=>.bool
 |.int _=>.int
 |.str _=>.str
 |.list _=>.list
 |.tuple _=>.tuple
 |.dict _=>.dict
theorem DU(K:PySem.W.Frag)(t n:Ty):PySem.W.kitOne K (.type t.name) (.type n.name)=some (t.is n):=by cases t <;> cases n <;> rfl
def ip(n:Ty):PyData→Option PyData
 |.dict ((.none,_)::_)=>none
 |d=>some (.bool ((ud d).is n))
section
variable {X:Cx} {e:Expr} {m1:Bool} {f:cX} {p p2 pos:Pos}
theorem vb{pins:List (Addr×Obj)}{s:Shared}{σ:lK}{H:Hp}{x:V}{u:Value}{d r:PyData}{n:Ty}{A:Around}{E:Value→Shared→Prop}{Q:Value→Shared→Prop}(I:Inv X pins σ H s)(rx:RelV x u)(rp:Rp X.K H x d)(hd:ip n d=some r)(h:∀tk b,r=.bool b→Q (.bool b) {s with toks:=tk}):
  wpAny (model X.prog X.w) A (call (.builtin "isinstance") [u,.type n.name]) Q E s:=by
 have e:=DU X.K (ud d) n
 have h:∀tk,r=.bool ((ud d).is n)→Q (.bool ((ud d).is n)) {s with toks:=tk}:=fun tk z=>h tk _ z
 cases rp with
 |non=>cases hd;exact jY I rx .non e fun tk=>h tk rfl
 |bl b=>cases hd;exact jY I rx (.bl b) e fun tk=>h tk rfl
 |int i=>cases hd;exact jY I rx (.int i) e fun tk=>h tk rfl
 |str y=>cases hd;exact jY I rx (.str y) e fun tk=>h tk rfl
 |lst h1 _=>
  cases hd
  cases rx
  obtain⟨its,rv,⟨o,n',e1,c,_,d⟩,_⟩:=I.list h1
  exact PySem.W.kia_one PySem.W.kitx_list I.kIn ⟨_,e1,c⟩ e (fun z=>nomatch z) fun tk=>h tk rfl
 |tup h1 _=>
  cases hd
  cases rx
  obtain⟨its,rv,⟨o,e1,c,n',d⟩,_⟩:=I.tuple h1
  exact PySem.W.kia_one PySem.W.kitx_tuple I.kIn ⟨_,e1,c⟩ e (fun z=>nomatch z) fun tk=>h tk rfl
 |dct h1 hk=>
  cases rx
  obtain⟨_,_,vs,_,ob,es,ep,e1,c,_⟩:=DQ I.hok h1
  refine PySem.W.kia_one PySem.W.kitx_dict I.kIn ⟨_,e1,c.1⟩ e (fun z=>nomatch z) fun tk=>h tk ?_
  cases hk with
  |nil=>cases hd;rfl
  | @cons k x us d kvs a b=>cases k <;> (cases hd;rfl)
 |exc h1 h2=>cases hd
 |obj c h n r=>cases hd
 |frl h r=>cases hd
theorem vd(n:Ty):CallR X (.builtin "isinstance") (fun xs H Q=>∃x d r,xs=[x,.ty n.name]∧Rp X.K H x d∧ip n d=some r∧∀b,r=.bool b→Q (.bl b) H):=by
 intro pins s σ H xs us Q I r h
 obtain⟨x,d,r',rfl,rp,hd,q⟩:=h
 obtain⟨u,w',rfl,ru,rw'⟩:=r.two
 cases(show w'=Value.type n.name from rw')
 exact vb I ru rp hd fun tk b z=>⟨.bl _,H,I.tok _,rfl,q b z⟩
theorem i3 (n:Ty) (hg:Gl X "isinstance") (hm:X.mg "isinstance"=none) (ha:EX X e m1 f) {x:Str} (hgx:Gl X x) (hmx:X.mg x=none) (hbx:bootBuiltins x=some (.type n.name)) (hnx:x≠"__name__":=by decide) (hdx:(x == ("__debug__":Str))=false:=by decide)
  (he:starEach [e,.Name x p2] X.env=(false,eval e X.env)::starEach [.Name x p2] X.env:=by rfl) (he2:starEach [.Name x p2] X.env=[(false,eval (.Name x p2) X.env)]:=by rfl) (hpl:(backTo pos (starEach [.Name x p2] X.env)).any (·.1)=false:=by rfl):
  EX X (.Call (.Name "isinstance" p) [e,.Name x p2] [] pos) m1 (gE (ip n) f):=by
 have h2:PE X (.Name x p2) (tC (.ty n.name)):=tN (v:=.ty n.name) hgx hmx hbx rfl hnx hdx
 refine bY (jy (vd n) hg hm PyProof.Rows.boot_isinstance (c_ ha (c_ h2 fi he2) he) (by decide) (by decide) he hpl) fun σ H Q z=>?_
 obtain⟨B,E,xs,Xs,res,E',fr,cl,e,q⟩:=z
 obtain⟨⟨s,E1⟩,e1,e⟩:=Option.bind_eq_some_iff.mp e
 obtain⟨d1,e2,e⟩:=Option.bind_eq_some_iff.mp e
 obtain⟨d2,e3,e⟩:=Option.map_eq_some_iff.mp e
 cases e
 refine⟨B,E,xs,Xs,s,E1,fr,cl,e1,fun v1 H1 ⟨F,A,fr1⟩=>?_⟩
 obtain⟨A',fr2⟩:=fr1.pop
 exact⟨v1,d1,d2,rfl,(fr1.look0 e2).1,e3,fun b z=>q _ _ ⟨F,A',fr2.push ⟨rfl,_,rfl,z▸ .bl b⟩⟩⟩
end
end PL
namespace PL
open PySem L2 Nh
def oY(K:PySem.W.Frag)(H H':Hp)(v:V):Sl→Prop
 |.sh d=>Rp K (tups H') v d
 |.ow ds=>∃l vs,v=.ref l∧H l=none∧H' l=some (.lst vs)∧RpA K (tups H') vs ds
 |.tx ps=>∃t vs A,v=.ref t∧tups H' t=some (.tup vs)∧A.Nodup∧(∀a∈A,H a=none)∧PtsOk K (tups H') H' vs ps A
 |.od kvs=>∃l us A,v=.ref l∧(l::A).Nodup∧(∀a∈l::A,H a=none)∧H' l=some (.dK us)∧DlOk K (tups H') H' us kvs A
 |.br d=>Rp K H' v d
 |_=>False
def bQ(K:PySem.W.Frag)(c:List PyData→Option Sl):Sp:=fun vs H Q _=>∃ds r,c ds=some r∧RpA K H vs ds∧∀v H',Same H H'→oY K H H' v r→Q v H'
section
variable {K:PySem.W.Frag} {B F:Hp} {A N:List Addr} {σ:lK} {H H':Hp} {E:List Sl} {xs:List V} {Xs:List Sl} {v:V} {s:Sl}
theorem FrF.growN(h:FrF K B F A σ H E xs Xs)(g:Same H H')(hN:∀a∈N,H a=none∧((∃us,H' a=some (.lst us))∨∃us,H' a=some (.dK us))):FrF K B (fun b=>if b∈N then none else if b∈A then none else H' b) A σ H' E xs Xs:=by
 have h1:=h.grow g
 have nF:∀b o,F b=some o→b∉N:=fun b o e hb=>by
  have:=h.fh.free (hN b hb).1
  rw[this]at e;cases e
 have FF:Same F (fun b=>if b∈N then none else if b∈A then none else H' b):=fun b o e=>by
  have nA:b∉A:=fun hb=>by rw[h.fr b hb]at e;cases e
  show(if b∈N then none else if b∈A then none else H' b)=some o
  rw[if_neg (nF b o e),if_neg nA]
  exact g _ _ (h.fh _ _ e)
 have hA:∀b∈A,H' b=H b:=fun b hb=>by
  rcases h.mutA b hb with⟨_,z⟩ |⟨_,z⟩ <;> rw[z,g _ _ z]
 refine⟨h.bf.trans FF,fun b o e=>?_,fun b o e=>?_,h.sl.mono fun o s C _ hC q=>q.stay FF (fun b hb=>hA b (hC b hb)) fun _=>g,h.nd,fun a ha=>?_,h.len,h.pl⟩
 ·by_cases hb:b∈N
  ·rw[if_pos hb]at e;cases e
  ·rw[if_neg hb]at e;exact h1.fh _ _ e
 ·show(if b∈N then none else if b∈A then none else H' b)=some o
  by_cases hb:b∈N
  ·obtain⟨e1,e2⟩:=Option.filter_eq_some_iff.mp e
   rcases(hN b hb).2 with⟨us,z⟩ |⟨us,z⟩ <;> rw[z]at e1 <;> cases e1 <;> cases e2
  ·rw[if_neg hb];exact h1.tf _ _ e
 ·show(if a∈N then none else if a∈A then none else H' a)=none
  by_cases hb:a∈N
  ·rw[if_pos hb]
  ·rw[if_neg hb,if_pos ha]
theorem FrF.pushR(h:FrF K B F A σ H E xs Xs)(q:SlOk K F H σ (some v) s N)(nd:N.Nodup)(dj:∀a∈N,a∉A)(fr:∀a∈N,F a=none):FrF K B F (N++A) σ H E (v::xs) (s::Xs):=
 ⟨h.bf,h.fh,h.tf,.cons q h.sl,List.nodup_append.mpr ⟨nd,h.nd,fun a ha b hb e=>dj a ha (e▸hb)⟩,fun a ha=>(List.mem_append.mp ha).elim (fr a) (h.fr a),by simp[h.len],h.pl⟩
theorem FrF.told(h:FrF K B F A σ H E xs Xs)(g:Same H H')(q:oY K H H' v s):Frm K B σ H' E (v::xs) (s::Xs):=by
 cases s with
 |sh d=>
  have h1:=h.grow g
  exact⟨_,_,h1.push ⟨rfl,v,rfl,Rp.same h1.tf q⟩⟩
 |ow ds=>
  obtain⟨l,vs,rfl,hl,hl',r⟩:=q
  have h1:=h.growN (N:=[l]) g fun a ha=>by rw[List.mem_singleton.mp ha];exact⟨hl,.inl ⟨vs,hl'⟩⟩
  exact⟨_,_,h1.pushR (N:=[l]) ⟨l,vs,rfl,rfl,hl',r.same h1.tf⟩ (by simp) (fun a ha=>by rw[List.mem_singleton.mp ha];exact h.newA hl) fun a ha=>if_pos ha⟩
 |tx ps=>
  obtain⟨t,vs,N,rfl,ht,nd,hN,r⟩:=q
  have h1:=h.growN (N:=N) g fun a ha=>⟨hN a ha,.inl (r.some a ha)⟩
  exact⟨_,_,h1.pushR (N:=N) ⟨t,vs,rfl,h1.tf _ _ ht,r.stay h1.tf fun _ _=>rfl⟩ nd (fun a ha=>h.newA (hN a ha)) fun a ha=>if_pos ha⟩
 |no=>exact False.elim q
 |od kvs=>
  obtain⟨l,us,N,rfl,nd,hN,hl,r⟩:=q
  have h1:=h.growN (N:=l::N) g fun a ha=>⟨hN a ha,(List.mem_cons.mp ha).elim (fun z=>.inr ⟨us,z▸hl⟩) fun z=>.inl (r.some a z)⟩
  exact⟨_,_,h1.pushR (N:=l::N) ⟨l,us,N,rfl,rfl,hl,r.stay h1.tf fun _ _=>rfl⟩ nd (fun a ha=>h.newA (hN a ha)) fun a ha=>if_pos ha⟩
 |al i=>exact False.elim q
 |br d=>
  have h1:=h.grow g
  exact⟨_,_,h1.push ⟨rfl,v,rfl,q⟩⟩
end
def ao(c:List PyData→Option Sl)(g:m8):cX:=fun E=>(g E).bind fun a=>(ax a.2 a.1).bind fun ds=>(c ds).map fun r=>(r,a.2)
theorem aG{X:Cx}{k:Nat}{x:Str}{ps:List Str}{c:List PyData→Option Sl}{p pos:Pos}{e:Expr}{es:List Expr}{m:Bool}{g:m8}(D:Own X.prog X.w X.K X.mg X.base k x ps (bQ X.K c))(hr:Room k X.A)(hg:Gl X x)(ha:AX X (e::es) m g)
  (hdb:(x == ("__debug__":Str))=false:=by decide) (he:starEach (e::es) X.env=(false,eval e X.env)::starEach es X.env:=by rfl) (hpl:(backTo pos (starEach es X.env)).any (·.1)=false:=by rfl):
  EX X (.Call (.Name x p) (e::es) [] pos) m (ao c g):=by
 refine bY (BV D hr hg ha hdb he hpl) fun σ H Q z=>?_
 obtain⟨B,E,xs,Xs,res,E',fr,cl,e,q⟩:=z
 obtain⟨⟨rs,E1⟩,e1,e⟩:=Option.bind_eq_some_iff.mp e
 obtain⟨ds,e2,e⟩:=Option.bind_eq_some_iff.mp e
 obtain⟨r,e3,e⟩:=Option.map_eq_some_iff.mp e
 cases e
 refine⟨B,E,xs,Xs,rs,E1,fr,cl,e1,fun vs H1 hl ⟨F,A,fr1⟩=>?_⟩
 obtain⟨r1,A',fr2⟩:=fr1.looks hl e2
 exact⟨ds,res,e3,by rw[List.append_nil];exact r1,fun v H' g q'=>q v H' (fr2.told g q')⟩
def dm(i:Nat)(f:cX):cX:=fun E=>match E[i]? with
 |some (.ow _)=>(f E).bind fun a=>(frz a.2 a.1).bind fun b=>match b.2[i]? with
  |some (.ow ds)=>if ds.length < 1000000 then some (.sh .none,b.2.set i (.ow (ds++[b.1])))else none
  |_=>none
 |_=>none
section
variable {X:Cx} {e:Expr} {m1:Bool} {f:cX} {x:Str} {p apos cpos:Pos}
theorem j4 (i:Nat) (he:EX X e m1 f) (hN:X.N[i]? =some x:=by rfl) (hv:AG X.env.scope x:=by first |exact Or.inl rfl |exact Or.inr (Or.inl rfl) |exact Or.inr (Or.inr rfl)) (hd:(x == ("__debug__":Str))=false:=by decide) (hcd:(x == ("__classdict__":Str))=false:=by decide)
  (hs:starEach [e] X.env=[(false,eval e X.env)]:=by rfl) (hbase:attributeBase (.Name x p) "append" X.env (eval (.Name x p) X.env)=eval (.Name x p) X.env:=by rfl)
  (hfew:((backTo cpos (starEach [e] X.env)).all (fun x=> !x.1)&&(backToKw cpos (keywordEach [] X.env)).all (fun x=>x.1.isSome)
   &&decide (([e]:List Expr).length+([]:List Keyword).length+(if ([]:List Keyword).isEmpty then 0 else 1) < 30))=true:=by rfl) (hline:(apos.endLine == cpos.line)=true:=by rfl):
  EX X (.Call (.Attribute (.Name x p) "append" apos) [e] [] cpos) true (dm i f):=by
 refine bY (tU PySem.F.plainAttrs_list PySem.F.slot_list_append PySem.F.type_list_append oU (lL hN hv hd hcd) (c_ he fi hs) hbase hfew hline hs rfl) fun σ H Q z=>?_
 obtain⟨B,E,xs,Xs,res,E',⟨F,A,fr⟩,cl,e,q⟩:=z
 unfold dm at e
 split at e
 ·rename_i ds0 ei
  obtain⟨⟨s,E1⟩,e1,e⟩:=Option.bind_eq_some_iff.mp e
  obtain⟨⟨d,E2⟩,e2,e⟩:=Option.bind_eq_some_iff.mp e
  simp only at e
  split at e
  ·rename_i ds ei2
   split at e
   ·rename_i hl
    cases e
    obtain⟨o,A1,eo,l,vs,rfl,rfl,hl0,_⟩:=fr.var ei
    refine⟨_,eo,.inl ⟨rfl,_,SqL.of hl0⟩,B,E,xs,Xs,s,E1,⟨F,A,fr⟩,fun _=>cl rfl,e1,fun v H1 ⟨F1,A1,fr1⟩=>?_⟩
    obtain⟨F2,A2,fr2⟩:=fr1.frz0 e2
    obtain⟨v',A3,ev,rfl,w,ew,rv⟩:=fr2.ext (k:=0) rfl
    cases ev;cases ew
    obtain⟨A4,fr3⟩:=fr2.pop
    obtain⟨l',vs',eo',hl',r',put⟩:=fr3.mut ei2 (cl rfl)
    rw[eo]at eo'
    cases eo'
    have ll:=r'.len
    have fr4:=put (vs'++[v]) (ds++[d]) (r'.snoc rv)
    exact⟨l,vs',v,rfl,rfl,hl',m_ (by omega),q _ _ ⟨_,_,fr4.push ⟨rfl,_,rfl,.non⟩⟩⟩
   ·cases e
  ·cases e
 ·cases e
end
def wQ(s:Sl):Sl:=match s.val with
 |some d=>.sh d
 |none=>.no
def frzAll(E:List Sl):List Sl:=E.map wQ
def settle(E:List Sl):Sl→Option (Sl×List Sl)
 |.al i=>(frz E (.al i)).map fun a=>(.sh a.1,a.2)
 |.br d=>if aJ d then some (.sh d,E)else some (.sh d,frzAll E)
 |s=>some (s,E)
def ay(g h:cy):cy:=fun E=>(g E).bind fun a=>match a.2 with
 |.nx=>h a.1
 |fl=>some (a.1,fl)
def aB:cy:=fun E=>some (E,.nx)
def fV(f:cX):cy:=fun E=>(f E).map fun a=>(a.2,.nx)
def aF(f:cX):cy:=fun E=>(f E).bind fun a=>match a.1 with
 |.al i=>(a.2[i]?).map fun s=>(a.2.set i .no,.rt s)
 |s=>some (a.2,.rt s)
def aK(c:iU)(g h:cy):cy:=fun E=>(c E).bind fun a=>if a.1 then g a.2 else h a.2
def aD(i:Nat)(f:cX):cy:=fun E=>(f E).bind fun a=>(settle a.2 a.1).bind fun b=>if i < b.2.length then some (b.2.set i b.1,.nx)else none
section
variable {K:PySem.W.Frag} {B F:Hp} {A:List Addr} {σ:lK} {H:Hp} {E E':List Sl} {xs:List V} {Xs:List Sl} {v:V} {s s':Sl} {d:PyData}
theorem FrF.frzAll(h:FrF K B F A σ H E xs Xs)(hX:Xs=[]):FrF K B H [] σ H (PL.frzAll E) [] []:=by
 subst hX
 have hx:xs=[]:=by simpa using h.len
 subst hx
 refine⟨h.bf.trans h.fh,Same.refl _,j3 H,?_,List.nodup_nil,fun a ha=>(by cases ha),rfl,fun s hs=>?_⟩
 ·have key:∀{os:List (Option V)} {ss:List Sl} {C:List Addr},SAll (SlOk K F H σ) os ss C→SAll (SlOk K H H σ) os (PL.frzAll ss) []:=fun {os ss C} r=>by
   induction r with
   |nil=>exact .nil
   |cons q _ ih=>
    refine .cons (A:=[]) ?_ ih
    unfold wQ
    split
    ·rename_i d e
     obtain⟨v,rfl,r,_⟩:=q.val h.fh e
     exact⟨rfl,v,rfl,r⟩
    ·exact rfl
  exact key h.sl
 ·obtain⟨t,_,rfl⟩:=List.mem_map.mp hs
  unfold wQ
  split <;> rfl
theorem FrF.settle(h:FrF K B F A σ H E (v::xs) (s::Xs))(hX:Xs=[])(q:PL.settle E s=some (s',E')):s'.isAl=false∧Frm K B σ H E' (v::xs) (s'::Xs):=by
 cases s with
 |al i=>
  obtain⟨⟨d,E2⟩,e,z⟩:=Option.map_eq_some_iff.mp (show(frz E (.al i)).map (fun a=>(Sl.sh a.1,a.2))=some (s',E')from q)
  cases z
  obtain⟨F',A',h'⟩:=h.frz0 e
  exact⟨rfl,F',A',h'⟩
 |br d=>
  have r:=(h.look0 (d:=d) rfl).1
  obtain⟨A',h'⟩:=h.pop
  simp only[PL.settle]at q
  split at q
  ·rename_i hf
   cases q
   exact⟨rfl,F,A',h'.push ⟨rfl,v,rfl,h.cold r hf⟩⟩
  ·cases q
   have h2:=h'.frzAll hX
   have hl:=h'.len
   subst hX
   have hx:xs=[]:=by simpa using hl
   subst hx
   exact⟨rfl,H,[],h2.push ⟨rfl,v,rfl,r⟩⟩
 |no=>cases q;exact⟨rfl,F,A,h⟩
 |sh d=>cases q;exact⟨rfl,F,A,h⟩
 |ow ds=>cases q;exact⟨rfl,F,A,h⟩
 |od kvs=>cases q;exact⟨rfl,F,A,h⟩
 |tx ps=>cases q;exact⟨rfl,F,A,h⟩
theorem FrF.move{i:Nat}(h:FrF K B F A σ H E (v::xs) (.al i::Xs))(e:E[i]? =some s):Frm K B σ H (E.set i .no) (v::xs) (s::Xs):=by
 obtain⟨v',A1,ev,rfl,w,ew,hw⟩:=h.ext (k:=0) rfl
 cases ev;cases ew
 obtain⟨A',h'⟩:=h.pop
 obtain⟨o,A0,A1,A2,eA,eo,hp,put⟩:=h'.sl.at (k:=Xs.length+i) (s:=s) (by rw[List.getElem?_append_right (by omega)];simpa using e)
 have z:=put (SlOk K F H σ) o .no [] rfl fun _ _ _ _ _ q=>q
 have e3:(Xs++E).set (Xs.length+i) .no=Xs++E.set i .no:=by
  rw[List.set_append_right _ _ (by omega),Nat.add_sub_cancel_left]
 have e2:(List.map some xs++σ).set (Xs.length+i) o=List.map some xs++σ:=List.ext_getElem? fun j=>by
  by_cases hj:Xs.length+i=j
  ·subst hj
   rw[List.getElem?_set_self',eo];rfl
  ·rw[List.getElem?_set_ne hj]
 rw[e2,e3]at z
 rw[List.getElem?_append_right (by rw[List.length_map,h'.len];omega),List.length_map,h'.len,Nat.add_sub_cancel_left,hw]at eo
 cases eo
 have nd:=h'.nd
 rw[eA]at nd
 refine⟨F,A1++(A0++([]++A2)),h.bf,h.fh,h.tf,.cons hp z,?_,fun a ha=>h'.fr a ?_,h.len,fun s' hs=>?_⟩
 ·have p:(A1++(A0++([]++A2))).Perm (A0++(A1++A2)):=by
   rw[List.nil_append,←List.append_assoc,←List.append_assoc]
   exact List.Perm.append_right _ List.perm_append_comm
  exact p.nodup_iff.mpr nd
 ·rw[eA]
  simp only[List.mem_append,List.nil_append]at ha ⊢
  rcases ha with z |z |z
  ·exact .inr (.inl z)
  ·exact .inl z
  ·exact .inr (.inr z)
 ·rcases List.mem_or_eq_of_mem_set hs with hs |hs
  ·exact h.pl s' hs
  ·subst hs;rfl
end
section
variable {X:Cx} {st:Stmt} {dW a b:List Stmt} {g h:cy} {e c:Expr} {m:Bool} {f:cX} {t:iU} {pos:Pos}
theorem aY:rS X [] aB:=ua yM fun D σ H z=>by
 obtain⟨B,E,xs,Xs,E',fl,fr,cl,e,q⟩:=z
 cases e
 exact q _ _ fr
theorem aj(h1:SX X st g):rS X [st] g:=kQ h1
theorem B9{K:PySem.W.Frag}{D:Ends}{σ:lK}{H:Hp}(z:rs K (ay g h) D σ H):rs K g {D with nx:=rs K h D} σ H:=by
 obtain⟨B,E,xs,Xs,E',fl,fr,cl,e,q⟩:=z
 obtain⟨⟨E1,f1⟩,e1,e⟩:=Option.bind_eq_some_iff.mp e
 refine⟨B,E,xs,Xs,E1,f1,fr,cl,e1,?_⟩
 cases f1 with
 |nx=>exact fun σ' H' fr'=>⟨B,E1,xs,Xs,E',fl,fr',cl,e,q⟩
 |bk=>cases e;exact q
 |ct=>cases e;exact q
 |rt r=>cases e;exact q
theorem ai(h1:SX X st g)(h2:rS X dW h):rS X (st::dW) (ay g h):=ua (fD h1 h2) fun D σ H z=>B9 z
theorem kY(he:EX X e m f)(hs:swapsWith e none pos.line X.env=pure false:=by rfl):SX X (.Expr e pos) (fV f):=kz (yN he hs) fun D σ H z=>by
 obtain⟨B,E,xs,Xs,E',fl,fr,cl,e,q⟩:=z
 obtain⟨⟨s,E1⟩,e1,e⟩:=Option.map_eq_some_iff.mp e
 cases e
 refine⟨B,E,xs,Xs,s,E1,fr,fun _=>Calm.nil cl,e1,fun v H1 ⟨F,A,fr1⟩=>?_⟩
 obtain⟨A',fr2⟩:=fr1.pop
 exact q _ _ ⟨F,A',fr2⟩
theorem aM(he:EX X e m f):SX X (.Return (some e) pos) (aF f):=kz (By he) fun D σ H z=>by
 obtain⟨B,E,xs,Xs,E',fl,fr,cl,e,q⟩:=z
 obtain⟨⟨s,E1⟩,e1,e⟩:=Option.bind_eq_some_iff.mp e
 refine⟨B,E,xs,Xs,s,E1,fr,fun _=>Calm.nil cl,e1,fun v H1 ⟨F,A,fr1⟩=>?_⟩
 simp only at e
 split at e
 ·obtain⟨s',es,e⟩:=Option.map_eq_some_iff.mp e
  cases e
  exact q σ _ _ (fr1.move es)
 ·cases e
  exact q σ _ _ ⟨F,A,fr1⟩
theorem bB(hc:TX X c m t)(ha:rS X a g)(hb:rS X b h):SX X (.If c a b pos) (aK t g h):=kz (Dk hc ha hb) fun D σ H z=>by
 obtain⟨B,E,xs,Xs,E',fl,fr,cl,e,q⟩:=z
 obtain⟨⟨b1,E1⟩,e1,e⟩:=Option.bind_eq_some_iff.mp e
 refine⟨B,E,xs,Xs,b1,E1,fr,fun _=>Calm.nil cl,e1,fun H1 fr1=>?_⟩
 cases b1 with
 |true=>exact(if_pos rfl).mpr ⟨B,E1,xs,Xs,E',fl,fr1,cl,e,q⟩
 |false=>exact(if_neg (by decide)).mpr ⟨B,E1,xs,Xs,E',fl,fr1,cl,e,q⟩
theorem aH(i:Nat){x:Str}{pos':Pos}(hN:X.N.Nodup)(he:EX X e m f)(hi:X.N[i]? =some x:=by rfl)(hx:C8 X.env.scope x:=by first |exact Or.inl rfl |exact Or.inr rfl)(hs:swapsWith e (some (.Name x pos')) pos.line X.env=pure false:=by rfl)(hf:X.fn x=true∨X.env.scope.names.lookup x=some .local:=by first |exact .inl rfl |exact .inr rfl |assumption):
  SX X (.Assign [.Name x pos'] e pos) (aD i f):=kz (BC hN hi hx he hs hf) fun D σ H z=>by
 obtain⟨B,E,xs,Xs,E',fl,fr,cl,e,q⟩:=z
 obtain⟨⟨s,E1⟩,e1,e⟩:=Option.bind_eq_some_iff.mp e
 obtain⟨⟨s',E2⟩,e2,e⟩:=Option.bind_eq_some_iff.mp e
 refine⟨B,E,xs,Xs,s,E1,fr,fun _=>Calm.nil cl,e1,fun v H1 ⟨F,A,fr1⟩=>?_⟩
 obtain⟨c1,F2,A2,fr2⟩:=fr1.settle cl e2
 simp only at e
 split at e
 ·rename_i hi
  cases e
  obtain⟨A3,fr3⟩:=fr2.store c1 (Still.nil cl) hi
  exact q _ _ ⟨F2,A3,fr3⟩
 ·cases e
end
end PL
namespace PL
open PySem L2 Nh
abbrev mI:=PyData→List Sl→Option (List Sl)
abbrev qO:=List PyData→List Sl→Option (List Sl)
def rg(K:PySem.W.Frag)(h:mI):TG:=fun v σ H Q=>∃B E xs Xs d E',Frm K B σ H E (v::xs) (.sh d::Xs)∧Still Xs∧h d E=some E'∧∀σ' H',Frm K B σ' H' E' xs Xs→Q σ' H'
def GF(K:PySem.W.Frag)(h:qO):yO:=fun vs σ H Q=>∃B E xs Xs ds E',vs.length=ds.length∧Frm K B σ H E (vs++xs) (ds.map .sh++Xs)∧Still Xs∧h ds E=some E'∧∀σ' H',Frm K B σ' H' E' xs Xs→Q σ' H'
def GX(X:Cx)(e:Expr)(h:mI):Prop:=PG X e (rg X.K h)
def ER(X:Cx)(es:List Expr)(h:qO):Prop:=BA X es (GF X.K h)
def dZ(i:Nat):mI:=fun d E=>if i < E.length then some (E.set i (.sh d))else none
def oZ:qO:=fun ds E=>if ds.isEmpty then some E else none
def jC(h:mI)(hs:qO):qO:=fun ds E=>match ds with
 |d::ds=>(h d E).bind (hs ds)
 |[]=>none
def o0(n:Nat)(hs:qO):mI:=fun d E=>match d with
 |.tuple ds=>if ds.length=n then hs ds E else none
 |_=>none
section
variable {X:Cx}
theorem wR{e:Expr}{t t':TG}(h:PG X e t)(k:∀v σ H Q,t' v σ H Q→t v σ H Q):PG X e t':=fun pins s σ H v u Q I r q=>h pins s σ H v u Q I r (k v σ H Q q)
theorem ue{es:List Expr}{t t':yO}(h:BA X es t)(k:∀v σ H Q,t' v σ H Q→t v σ H Q):BA X es t':=fun pins s σ H v u Q I r q=>h pins s σ H v u Q I r (k v σ H Q q)
theorem eL(i:Nat){x:Str}{pos:Pos}(hN:X.N.Nodup)(hi:X.N[i]? =some x:=by rfl)(hx:C8 X.env.scope x:=by first |exact Or.inl rfl |exact Or.inr rfl)(hf:X.fn x=true∨X.env.scope.names.lookup x=some .local:=by first |exact .inl rfl |exact .inr rfl |assumption):GX X (.Name x pos) (dZ i):=wR (tO hN hi hx hf) fun v σ H Q z=>by
 obtain⟨B,E,xs,Xs,d,E',⟨F,A,fr⟩,cl,e,q⟩:=z
 unfold dZ at e
 split at e
 ·rename_i hi
  cases e
  obtain⟨A',fr'⟩:=fr.store rfl cl hi
  exact q _ _ ⟨F,A',fr'⟩
 ·cases e
theorem pR:ER X [] oZ:=ue yP fun v σ H Q z=>by
 obtain⟨B,E,xs,Xs,ds,E',hl,fr,cl,e,q⟩:=z
 unfold oZ at e
 split at e
 ·rename_i hd
  cases e
  have:ds=[]:=by simpa using hd
  subst this
  have hv:v=[]:=by simpa using hl
  subst hv
  exact⟨rfl,q _ _ fr⟩
 ·cases e
theorem iN{e:Expr}{es:List Expr}{h:mI}{hs:qO}(h1:GX X e h)(h2:ER X es hs)(hst:(assignEach (e::es) X.env).map (·.2)=assign e X.env::(assignEach es X.env).map (·.2):=by rfl):ER X (e::es) (jC h hs):=ue (v5 h1 h2 hst) fun v σ H Q z=>by
 obtain⟨B,E,xs,Xs,ds,E',hl,fr,cl,e,q⟩:=z
 cases ds with
 |nil=>cases e
 |cons d ds=>
  cases v with
  |nil=>cases hl
  |cons v vs=>
   obtain⟨E1,e1,e2⟩:=Option.bind_eq_some_iff.mp e
   refine⟨v,vs,rfl,B,E,vs++xs,ds.map Sl.sh++Xs,d,E1,fr,fun s hs=>?_,e1,fun σ1 H1 fr1=>⟨B,E1,xs,Xs,ds,E',by simpa using hl,fr1,cl,e2,q⟩⟩
   rcases List.mem_append.mp hs with hs |hs
   ·obtain⟨d',_,rfl⟩:=List.mem_map.mp hs
    rfl
   ·exact cl s hs
theorem sG{es:List Expr}{k:Nat}{pos:Pos}{hs:qO}{n:Nat}(hc:X.calm=true)(h:ER X es hs)(hn:(assignEach es X.env).length=n:=by rfl)(hst:(assignEach es X.env).findIdx? (·.1)=none:=by rfl):GX X (.Tuple es k pos) (o0 n hs):=wR (BB hc h hn hst) fun v σ H Q z=>by
 obtain⟨B,E,xs,Xs,d,E',⟨F,A,fr⟩,cl,e,q⟩:=z
 unfold o0 at e
 split at e
 ·rename_i ds
  split at e
  ·rename_i hl
   obtain⟨v',A1,ev,rfl,w,ew,r⟩:=fr.ext (k:=0) rfl
   cases ev;cases ew
   cases r with
   |tup h1 h2=>
    obtain⟨A',fr'⟩:=fr.pop
    have key:∀{us:List V} {es:List PyData},RpA X.K F us es→FrF X.K B F A' σ H E (us++xs) (es.map .sh++Xs):=fun {us es} r=>by
     induction us generalizing es with
     |nil=>cases r;exact fr'
     |cons u us ih=>
      cases r with
      |cons r1 r2=>exact(ih r2).push ⟨rfl,_,rfl,r1⟩
    exact⟨_,_,rfl,fr.fh.tup h1,by rw[h2.len];exact hl,B,E,xs,Xs,ds,E',h2.len,⟨F,A',key h2⟩,cl,e,q⟩
  ·cases e
 ·cases e
end
def qP(K:PySem.W.Frag)(B0:Hp)(J:It)(ds:List PyData):Prop:=∀{B F:Hp} {A:List Addr} {σ:lK} {H:Hp} {E:List Sl} {xs:List V} {Xs:List Sl} (i:Nat),Same B0 B→FrF K B F A σ H E xs Xs→
 (∀d,ds[i]? =some d→J.go i H∧∀x H2,J.yld i H x H2→Frm K B σ H2 E (x::xs) (.sh d::Xs))∧(i=ds.length→J.stop i H)
def ri(K:PySem.W.Frag)(m:Bool)(f:mC):TI:=fun σ H R=>∃B E xs Xs ds E',Frm K B σ H E xs Xs∧(m=true→Calm Xs)∧f E=some (ds,E')∧∀B' J H',Same B B'→Frm K B' σ H' E' xs Xs→qP K B' J ds→R J H'
def IX(X:Cx)(tg e:Expr)(m:Bool)(f:mC):Prop:=PI X tg e (ri X.K m f)
theorem FrF.base{K:PySem.W.Frag}{B B' F:Hp}{A:List Addr}{σ:lK}{H:Hp}{E:List Sl}{xs:List V}{Xs:List Sl}(h:FrF K B' F A σ H E xs Xs)(s:Same B B'):FrF K B F A σ H E xs Xs:=⟨s.trans h.bf,h.fh,h.tf,h.sl,h.nd,h.fr,h.len,h.pl⟩
theorem Frm.base{K:PySem.W.Frag}{B B':Hp}{σ:lK}{H:Hp}{E:List Sl}{xs:List V}{Xs:List Sl}(h:Frm K B' σ H E xs Xs)(s:Same B B'):Frm K B σ H E xs Xs:=let ⟨F,A,h⟩:=h;⟨F,A,h.base s⟩
theorem FrF.raise{K:PySem.W.Frag}{B F:Hp}{A:List Addr}{σ:lK}{H:Hp}{E:List Sl}{xs:List V}{Xs:List Sl}(h:FrF K B F A σ H E xs Xs):FrF K F F A σ H E xs Xs:=⟨Same.refl _,h.fh,h.tf,h.sl,h.nd,h.fr,h.len,h.pl⟩
def kZ(lo:Int)(n:Nat):List PyData:=(List.range n).map fun(k:Nat)=>.int (lo+(k:Int))
def jD(g:m8):mC:=fun E=>(g E).bind fun a=>match ax a.2 a.1 with
 |some [.int j]=>if -1000000≤j∧j≤1000000 then some (kZ 0 j.toNat,a.2)else none
 |_=>none
def qQ(f:cX):mC:=fun E=>(f E).bind fun a=>(frz a.2 a.1).bind fun b=>match b.1 with
 |.list ds=>some (ds.reverse,b.2)
 |_=>none
section
variable {X:Cx} {tg e e2:Expr} {m:Bool} {f:cX} {g:m8} {p pos:Pos} {K:PySem.W.Frag} {B:Hp}
theorem nj{t t':TI}(h:PI X tg e t)(k:∀σ H Q,t' σ H Q→t σ H Q):PI X tg e t':=fun pins s σ H R I q=>h pins s σ H R I (k σ H R q)
theorem o6{a:Addr}{vs:List V}{ds:List PyData}(h:SqL K B a vs)(r:RpA K B vs ds):qP K B (C9 K a) ds:=fun {B' F A σ H E xs Xs} i sB fr=>by
 have hH:=fr.fh.seq (fr.bf.seq (sB.seq h))
 refine⟨fun d ed=>?_,fun e=>⟨vs,hH,by rw[e,r.len];exact Nat.le_refl _⟩⟩
 obtain⟨v,ev,rv⟩:=r.get ed
 refine⟨⟨vs,v,hH,ev⟩,fun x H2 ⟨e2,y⟩=>?_⟩
 subst e2
 have:=y vs hH
 rw[ev]at this
 cases this
 exact⟨F,A,fr.push ⟨rfl,_,rfl,rv.same (sB.trans fr.bf)⟩⟩
theorem wS{a:Addr}{vs:List V}{ds:List PyData}(h:SqL K B a vs)(r:RpA K B vs ds):qP K B (Fy K a vs) ds.reverse:=fun {B' F A σ H E xs Xs} i sB fr=>by
 have hH:=fr.fh.seq (fr.bf.seq (sB.seq h))
 refine⟨fun d ed=>?_,fun e=>⟨hH,by rw[e,List.length_reverse,r.len]⟩⟩
 obtain⟨v,ev,rv⟩:=r.rev.get ed
 have hi:i < vs.length:=by
  have:=(List.getElem?_eq_some_iff.mp ev).1
  simpa using this
 refine⟨⟨hH,hi⟩,fun x H2 ⟨e2,y⟩=>?_⟩
 subst e2
 rw[ev]at y
 cases y
 exact⟨F,A,fr.push ⟨rfl,_,rfl,rv.same (sB.trans fr.bf)⟩⟩
theorem sH{lo:Int}{n:Nat}:qP K B (EO lo n) (kZ lo n):=fun {B' F A σ H E xs Xs} i sB fr=>by
 have hl:(kZ lo n).length=n:=by simp[kZ]
 refine⟨fun d ed=>?_,fun e=>?_⟩
 ·have hi:i < n:=by have:=(List.getElem?_eq_some_iff.mp ed).1;omega
  refine⟨hi,fun x H2 ⟨e2,y⟩=>?_⟩
  subst e2 y
  have:d=.int (lo+i):=by
   unfold kZ at ed
   rw[List.getElem?_map,List.getElem?_range hi]at ed
   exact(Option.some.inj ed).symm
  subst this
  exact⟨F,A,fr.push ⟨rfl,_,rfl,.int _⟩⟩
 ·show n≤i
  omega
theorem wT (hg:Gl X "reversed") (hm:X.mg "reversed"=none) (he:EX X e m f) (hs:starEach [e] X.env=[(false,eval e X.env)]:=by rfl):IX X tg (.Call (.Name "reversed" p) [e] [] pos) m (qQ f):=nj (BU hg hm (c_ he fi hs) hs) fun σ H R z=>by
 obtain⟨B,E,xs,Xs,ds,E',fr,cl,e,q⟩:=z
 obtain⟨⟨s,E1⟩,e1,e⟩:=Option.bind_eq_some_iff.mp e
 obtain⟨⟨d,E2⟩,e2,e⟩:=Option.bind_eq_some_iff.mp e
 refine⟨B,E,xs,Xs,s,E1,fr,cl,e1,fun v H1 ⟨F,A,fr1⟩=>?_⟩
 obtain⟨F2,A2,fr2⟩:=fr1.frz0 e2
 simp only at e
 split at e
 ·cases e
  obtain⟨v',A1,ev,rfl,w,ew,r⟩:=fr2.ext (k:=0) rfl
  cases ev;cases ew
  cases r with
  |lst h1 h2=>
   obtain⟨A3,fr3⟩:=fr2.pop
   exact⟨_,_,rfl,fr2.fh.seq h1,q F2 _ _ fr2.bf ⟨F2,A3,fr3.raise⟩ (wS h1 h2)⟩
 ·cases e
theorem lU (hg:Gl X "range") (hm:X.mg "range"=none) (ha:AX X [e] m g) (hs:starEach [e] X.env=[(false,eval e X.env)]:=by rfl):IX X tg (.Call (.Name "range" p) [e] [] pos) m (jD g):=nj (uP hg hm ha hs) fun σ H R z=>by
 obtain⟨B,E,xs,Xs,ds,E',fr,cl,e,q⟩:=z
 obtain⟨⟨rs,E1⟩,e1,e⟩:=Option.bind_eq_some_iff.mp e
 refine⟨B,E,xs,Xs,rs,E1,fr,cl,e1,fun vs H1 hl ⟨F,A,fr1⟩=>?_⟩
 simp only at e
 split at e
 ·rename_i j ld
  split at e
  ·rename_i hj
   cases e
   obtain⟨r,A',fr2⟩:=fr1.looks hl ld
   obtain⟨v,rfl,r'⟩:=r.one
   cases r'
   exact⟨j,rfl,by omega,by omega,q B _ _ (Same.refl _) ⟨F,A',fr2⟩ sH⟩
  ·cases e
 ·cases e
end
def dL(tg:mI)(body:cy):List PyData→cy
 |[],E=>some (E,.nx)
 |d::ds,E=>((tg d E).bind body).bind fun a=>match a.2 with
  |.nx=>dL tg body ds a.1
  |.ct=>dL tg body ds a.1
  |.bk=>some (a.1,.nx)
  |.rt r=>some (a.1,.rt r)
def kd(it:mC)(tg:mI)(body:cy):cy:=fun E=>(it E).bind fun a=>dL tg body a.1 a.2
theorem kB{X:Cx}{tg iter:Expr}{body:List Stmt}{m:Bool}{it:mC}{g:mI}{b:cy}{pos:Pos}(hp:PassesOwn (model X.prog X.w) X.A X.env X.xe)(hc:X.calm=true)(hi:IX X tg iter m it)(hg:GX X tg g)(hb:rS X body b)
  (hs:∀x,foldedSetIterable iter X.env x=pure x:=by intro _;rfl):SX X (.For tg iter body [] pos) (kd it g b):=kz (BF hp hc hi hg hb hs) fun D σ H z=>by
 obtain⟨B,E,xs,Xs,E',fl,fr,cl,e,q⟩:=z
 obtain⟨⟨ds,E1⟩,e1,e⟩:=Option.bind_eq_some_iff.mp e
 refine⟨B,E,xs,Xs,ds,E1,fr,fun _=>Calm.nil cl,e1,fun B' J H1 hB fr1 ok=>?_⟩
 refine⟨fun i mm σ' H'=>mm=ds.length - i∧i≤ds.length∧∃Ei,dL g b (ds.drop i) Ei=some (E',fl)∧Frm X.K B' σ' H' Ei xs Xs,⟨ds.length,by simp,Nat.zero_le _,E1,by simpa using e,fr1⟩,?_⟩
 rintro i mm σ' H' ⟨rfl,hi,Ei,ei,F,A,fri⟩
 obtain⟨go,stop⟩:=ok i (Same.refl _) fri
 by_cases hlt:i < ds.length
 ·obtain⟨d,ed⟩:∃d,ds[i]? =some d:=⟨ds[i],List.getElem?_eq_getElem hlt⟩
  obtain⟨g1,yl⟩:=go d ed
  have edr:ds.drop i=d::ds.drop (i+1):=by
   rw[List.drop_eq_getElem_cons hlt]
   congr 1
   exact Option.some.inj ((List.getElem?_eq_getElem hlt).symm.trans ed)
  rw[edr]at ei
  obtain⟨⟨E2,f2⟩,e2,ei⟩:=Option.bind_eq_some_iff.mp ei
  obtain⟨E3,e3,e2⟩:=Option.bind_eq_some_iff.mp e2
  refine .inr ⟨g1,fun σ2 H2=>∃Ej,dL g b (ds.drop (i+1)) Ej=some (E',fl)∧Frm X.K B' σ2 H2 Ej xs Xs,fun σ2 H2 ⟨Ej,ej,frj⟩=>⟨ds.length - (i+1),by omega,rfl,hlt,Ej,ej,frj⟩,fun x H2 y=>?_⟩
  refine⟨B',Ei,xs,Xs,d,E3,yl x H2 y,Still.nil cl,e3,fun σ3 H3 fr3=>?_⟩
  refine⟨B',E3,xs,Xs,E2,f2,fr3,cl,e2,?_⟩
  cases f2 with
  |nx=>exact fun σ4 H4 fr4=>⟨E2,ei,fr4⟩
  |ct=>exact fun σ4 H4 fr4=>⟨E2,ei,fr4⟩
  |bk=>cases ei;exact fun σ4 H4 fr4=>q _ _ (fr4.base hB)
  |rt r=>cases ei;exact fun σ4 v H4 fr4=>q _ _ _ (fr4.base hB)
 ·have e0:i=ds.length:=by omega
  refine .inl ⟨stop e0,?_⟩
  rw[e0,List.drop_length]at ei
  cases ei
  exact q _ _ (Frm.base ⟨F,A,fri⟩ hB)
def aR:Sl→Bool
 |.sh d=>aJ d
 |.ow ds=>bg ds
 |.tx ps=>ps.all fun p=>match p with |.fl d=>aJ d |.ol ds=>bg ds
 |.od kvs=>kvs.all fun p=>bg p.2
 |_=>false
def av(n:Nat)(ds:List PyData):List Sl:=ds.map .sh++List.replicate (n - ds.length) .no
def bt(r:Sl):Option Sl:=if aR r then some r else match r with
 |.sh d=>some (.br d)
 |.ow ds=>some (.br (.list ds))
 |.tx ps=>some (.br (.tuple (ps.map Pt.val)))
 |.br d=>some (if aJ d then .sh d else .br d)
 |_=>none
def bC(n:Nat)(g:cy):List PyData→Option Sl:=fun ds=>(g (av n ds)).bind fun a=>match a.2 with
 |.rt r=>bt r
 |.nx=>some (.sh .none)
 |_=>none
section
variable {K:PySem.W.Frag} {B F:Hp} {A:List Addr} {σ:lK} {H:Hp} {E:List Sl} {v:V} {r:Sl}
theorem DlOk.cold{F H:Hp}(sF:Same F H):∀{us:List (iJ×V)} {kvs:List (iJ×List PyData)} {A:List Addr},(∀p∈kvs,bg p.2=true)→DlOk K F H us kvs A→DlOk K (tups H) H us kvs A
 |[],[],A,_,h=>h
 |p::us,q::kvs,A,c,h=>by
  obtain⟨l,vs,A',rfl,rfl,hl,hr,k⟩:=h
  exact⟨l,vs,A',rfl,rfl,hl,(hr.same sF).cold (c q (List.mem_cons_self ..)),DlOk.cold sF (fun p hp=>c p (List.mem_cons_of_mem _ hp)) k⟩
 |[],_::_,_,_,h=>False.elim h
 |_::_,[],_,_,h=>False.elim h
theorem PtsOk.cold{F H G:Hp}(sF:Same F H)(tG:∀{v:V} {d:PyData},Rp K F v d→aJ d=true→Rp K G v d):∀{vs:List V} {ps:List Pt} {A:List Addr},(∀p∈ps,(match p with |.fl d=>aJ d |.ol ds=>bg ds)=true)→PtsOk K F H vs ps A→PtsOk K G H vs ps A
 |[],[],A,_,h=>h
 |v::vs,.fl d::ps,A,c,h=>⟨tG h.1 (c (.fl d) (List.mem_cons_self ..)),PtsOk.cold sF tG (fun p hp=>c p (List.mem_cons_of_mem _ hp)) h.2⟩
 |v::vs,.ol ds::ps,A,c,h=>by
  obtain⟨l,us,A',rfl,rfl,hl,hr,q⟩:=h
  refine⟨l,us,A',rfl,rfl,hl,?_,q.cold sF tG fun p hp=>c p (List.mem_cons_of_mem _ hp)⟩
  have cd:bg ds=true:=c (.ol ds) (List.mem_cons_self ..)
  have key:∀{us:List V} {ds:List PyData},RpA K F us ds→bg ds=true→RpA K G us ds:=fun {us ds} r c=>by
   induction us generalizing ds with
   |nil=>cases r;exact .nil
   |cons u us ih=>
    cases r with
    |cons r1 r2=>
     simp only[bg,Bool.and_eq_true]at c
     exact .cons (tG r1 c.1) (ih r2 c.2)
  exact key hr cd
 |[],_::_,_,_,h=>False.elim h
 |_::_,[],_,_,h=>False.elim h
theorem FrF.result(h:FrF K B F A σ H E [v] [r])(c:aR r=true):Same B H∧oY K B H v r:=by
 refine⟨h.bf.trans h.fh,?_⟩
 have nB:∀a,F a=none→B a=none:=fun a e=>h.bf.free e
 have cold:∀{v:V} {d:PyData},Rp K F v d→aJ d=true→Rp K (tups H) v d:=fun r f=>(r.same h.fh).cold f
 obtain⟨v',A1,ev,hs⟩:=h.ext (k:=0) rfl
 cases ev
 obtain⟨o,C0,C1,C2,eA,eo,hp,_⟩:=h.sl.at (k:=0) (s:=r) rfl
 cases eo
 have sub:∀a∈C1,F a=none:=fun a ha=>h.fr a (by rw[eA];simp[ha])
 have nd:C1.Nodup:=by
  have:=h.nd
  rw[eA]at this
  exact(List.nodup_append.mp (List.nodup_append.mp this).2.1).1
 cases r with
 |sh d=>obtain⟨_,w,ew,r⟩:=hp;cases ew;exact cold r c
 |ow ds=>
  obtain⟨l,vs,el,rfl,hl,r⟩:=hp
  cases el
  exact⟨l,vs,rfl,nB l (sub l (by simp)),hl,(r.same h.fh).cold c⟩
 |tx ps=>
  obtain⟨t,vs,et,ht,r⟩:=hp
  cases et
  exact⟨t,vs,C1,rfl,gc (h.fh _ _ ht) rfl,nd,fun a ha=>nB a (sub a ha),r.cold h.fh cold (by simpa[aR,List.all_eq_true]using c)⟩
 |no=>cases c
 |od kvs=>
  obtain⟨l,us,A',el,rfl,hl,r⟩:=hp
  cases el
  exact⟨l,us,A',rfl,nd,fun a ha=>nB a (sub a ha),hl,r.cold h.fh (by simpa[aR,List.all_eq_true]using c)⟩
 |al i=>cases c
 |br d=>cases c
theorem FrF.resultO{r':Sl}(h:FrF K B F A σ H E [v] [r])(c:bt r=some r'):Same B H∧oY K B H v r':=by
 unfold bt at c
 split at c
 ·rename_i hc
  cases c
  exact h.result hc
 ·refine⟨h.bf.trans h.fh,?_⟩
  cases r with
  |sh d=>cases c;exact(h.look0 (d:=d) rfl).1
  |ow ds=>cases c;exact(h.look0 (d:=.list ds) rfl).1
  |tx ps=>cases c;exact(h.look0 (d:=.tuple (ps.map Pt.val)) rfl).1
  |br d=>
   have r:=(h.look0 (d:=d) rfl).1
   simp only at c
   split at c
   ·rename_i hf
    cases c
    exact r.cold hf
   ·cases c
    exact r
  |no=>cases c
  |od kvs=>cases c
  |al i=>cases c
theorem k7{N:List Str}{vs:List V}{ds:List PyData}(r:RpA K H vs ds)(hn:ds.length≤N.length):FrF K H H [] (L2.dz N vs) H (av N.length ds) [] []:=by
 refine⟨Same.refl _,Same.refl _,j3 H,?_,List.nodup_nil,fun a ha=>(by cases ha),rfl,?_⟩
 ·have l:=r.len
  unfold L2.dz av
  rw[l]
  generalize N.length - ds.length=k
  have base:∀τ:lK,SAll (SlOk K H H τ) (List.replicate k none) (List.replicate k .no) []:=fun τ=>by
   induction k with
   |zero=>exact .nil
   |succ k ih=>exact .cons (A:=[]) rfl ih
  have key:∀(τ:lK) {us:List V} {es:List PyData},RpA K H us es→SAll (SlOk K H H τ) (us.map some++List.replicate k none) (es.map .sh++List.replicate k .no) []:=fun τ us es r=>by
   induction us generalizing es with
   |nil=>cases r;exact base τ
   |cons u us ih=>
    cases r with
    |cons r1 r2=>exact .cons (A:=[]) ⟨rfl,_,rfl,r1⟩ (ih _ r2)
  exact key _ r
 ·intro s hs
  unfold av at hs
  rcases List.mem_append.mp hs with hs |hs
  ·obtain⟨d,_,rfl⟩:=List.mem_map.mp hs
   rfl
  ·rw[(List.mem_replicate.mp hs).2]
   rfl
end
def bP(k n:Nat)(g:cy):List PyData→Option Sl:=fun ds=>if ds.length=k then bC n g ds else none
theorem eU{P:Program}{w:World}{K:PySem.W.Frag}{mg:Str→Option Value}{base:Heap}{x:Str}{st:Stmt}{N ps:List Str}{k a n:Nat}{g:cy}(D:Def K mg x st ps)(S:FnScope N ps (au st))(hpa:ps.length=a)(hNn:N.length=n)(hps:a≤n)
  (hbody:∀(f:Addr) (cdv:Value) (A:Around) (outer:List Env) (s:Shared) (H:Hp) (E:XK),Room k (A.deeper (PyProof.Rows.envOfC x (au st) s.heap.objs.size f cdv))→
   rS (iW jA P w K mg base N x (au st) f cdv A outer s H E).nox (cB st) g):Own P w K mg base (k+1) x ps (bQ K (bP a n g)):=by
 subst hpa hNn
 refine D.own S (fun vs H Q E h=>?_) (fun f cdv A outer s H vs Q E hr h=>?_)
 ·obtain⟨ds,r,e,rp,_⟩:=h
  unfold bP at e
  split at e
  ·rename_i hl
   rw[rp.len];exact hl
  ·cases e
 obtain⟨ds,r,e,rp,q⟩:=h
 unfold bP at e
 split at e
 ·rename_i hl
  refine⟨_,hbody f cdv A outer s H E hr,?_⟩
  obtain⟨⟨E',fl⟩,e1,e⟩:=Option.bind_eq_some_iff.mp e
  refine⟨H,av N.length ds,[],[],E',fl,⟨H,[],k7 rp (by omega)⟩,rfl,e1,?_⟩
  cases fl with
  |nx=>
   cases e
   rintro σ' H' ⟨F',A',fr'⟩
   exact q _ _ (fr'.bf.trans fr'.fh) .non
  |bk=>cases e
  |ct=>cases e
  |rt r'=>
   rintro σ' v H' ⟨F',A',fr'⟩
   obtain⟨s1,s2⟩:=fr'.resultO e
   exact q v H' s1 s2
 ·cases e
theorem GG{P:Program}{w:World}{K:PySem.W.Frag}{mg:Str→Option Value}{base:Heap}{x:Str}{st:Stmt}{N ps:List Str}{k a n:Nat}{g:cy}{f0:Addr}{fd:FuncData}(D:Fun K x x st f0 fd)(S:FnScope N ps (au st))(hpa:ps.length=a)(hNn:N.length=n)(hps:a≤n)
  (hbody:∀(cdv:Value) (A:Around) (outer:List Env) (s:Shared) (H:Hp) (E:XK),Room k (A.deeper (PyProof.Rows.envOfC x (au st) s.heap.objs.size f0 cdv))→
   rS (iW jA P w K mg base N x (au st) f0 cdv A outer s H E).nox (cB st) g):FnOk P w K mg base jA (k+1) f0 fd ps (bQ K (bP a n g)):=by
 subst hpa hNn
 refine D.ok S (fun vs H Q E h=>?_) (fun cdv A outer s H vs Q E hr h=>?_)
 ·obtain⟨ds,r,e,rp,_⟩:=h
  unfold bP at e
  split at e
  ·rename_i hl
   rw[rp.len];exact hl
  ·cases e
 obtain⟨ds,r,e,rp,q⟩:=h
 unfold bP at e
 split at e
 ·rename_i hl
  refine⟨_,hbody cdv A outer s H E hr,?_⟩
  obtain⟨⟨E',fl⟩,e1,e⟩:=Option.bind_eq_some_iff.mp e
  refine⟨H,av N.length ds,[],[],E',fl,⟨H,[],k7 rp (by omega)⟩,rfl,e1,?_⟩
  cases fl with
  |nx=>
   cases e
   rintro σ' H' ⟨F',A',fr'⟩
   exact q _ _ (fr'.bf.trans fr'.fh) .non
  |bk=>cases e
  |ct=>cases e
  |rt r'=>
   rintro σ' v H' ⟨F',A',fr'⟩
   obtain⟨s1,s2⟩:=fr'.resultO e
   exact q v H' s1 s2
 ·cases e
theorem o7{K:PySem.W.Frag}{H:Hp}:∀ns:List Int,RpA K H (ns.map V.int) (ns.map PyData.int)
 |[]=>.nil
 |n::ns=>.cons (.int n) (o7 ns)
theorem B_{K:PySem.W.Frag}{H:Hp}{a:Addr}{ns:List Int}{c:List PyData→Option Sl}(e:c [.list (ns.map .int)]=some (.sh (.bool true)))(h:SqL K H a (ns.map V.int)):bQ K c [.ref a] H (fun v _=>v=.bl true) fun _ _ _=>False:=
 ⟨_,_,e,.cons (.lst h (o7 ns)) .nil,fun v H' _ r=>by
  have r':Rp K (tups H') v (.bool true):=r
  cases r'
  rfl⟩
end PL
namespace PL
open PySem L2 Nh
def uf(E:List Sl):Option Nat→Sl
 |none=>.no
 |some j=>match (E[j]?).bind Sl.val with
  |some d=>.sh d
  |none=>.no
def lV(js:List (Option Nat))(E:List Sl):List Sl:=js.map (uf E)
def mn:iU:=fun E=>some (true,E)
def ki(tg:mI)(cond:iU)(elt:cX):List PyData→List Sl→Option (List PyData)
 |[],_=>some []
 |d::ds,E=>(tg d E).bind fun E1=>(cond E1).bind fun b=>if b.1 then (elt b.2).bind fun c=>(frz c.2 c.1).bind fun e=>(ki tg cond elt ds e.2).map fun r=>e.1::r else ki tg cond elt ds b.2
def nk(js:List (Option Nat))(it:mC)(tg:mI)(cond:iU)(elt:cX):cX:=fun E=>(it E).bind fun a=>(ki tg cond elt a.1 (lV js a.2)).bind fun ds=>if bg ds&&decide (ds.length≤1000000)then some (.ow ds,a.2)else none
section
variable {X:Cx} {elt target iter:Expr} {ifs:List Expr} {scope sc:Scope} {cl:List (Str×Addr)} {N:List Str} {pos:Pos} {js:List (Option Nat)} {K:PySem.W.Frag}
theorem wU{B F:Hp}{A:List Addr}{σ:lK}{H:Hp}{E:List Sl}{xs:List V}{Xs:List Sl}(fr:FrF K B F A σ H E xs Xs)(js:List (Option Nat)):FrF K H H [] (slots js σ) H (lV js E) [] []:=by
 refine⟨Same.refl _,Same.refl _,j3 H,?_,List.nodup_nil,fun a ha=>(by cases ha),rfl,fun s hs=>?_⟩
 ·have key:∀(τ:lK) (ks:List (Option Nat)),SAll (SlOk K H H τ) (slots ks σ) (lV ks E) []:=fun τ ks=>by
   induction ks with
   |nil=>exact .nil
   |cons j ks ih=>
    refine .cons (A:=[]) ?_ ih
    cases j with
    |none=>exact rfl
    |some j=>
     show SlOk K H H τ _ (match (E[j]?).bind Sl.val with |some d=>.sh d |none=>.no) []
     cases ej:E[j]? with
     |none=>exact rfl
     |some s=>
      cases ev:s.val with
      |none=>simp only[Option.bind_some,ev];exact rfl
      |some d=>
       simp only[Option.bind_some,ev]
       obtain⟨o,A1,eo,hs⟩:=fr.var ej
       obtain⟨v,rfl,r,_⟩:=hs.val fr.fh ev
       refine⟨rfl,v,?_,r⟩
       show(σ[j]?).join=some v
       rw[eo]
       rfl
  exact key _ js
 ·obtain⟨j,_,rfl⟩:=List.mem_map.mp hs
  cases j with
  |none=>rfl
  |some j=>
   simp only[uf]
   split <;> rfl
theorem ve{m2 m3:Bool}{tg:mI}{cond:iU}{el:cX}{tt:TT}(htt:∀σ H Q,rt K m2 cond σ H Q→tt σ H Q){B B' F:Hp}{A:List Addr}{σ:lK}{H1:Hp}{E1:List Sl}{xs:List V}{Xs:List Sl}{ds rs:List PyData}{J:It}{Q:VK}
  (fr1:FrF K B F A σ H1 E1 xs Xs) (B2:Same B' H1) (ok:qP K B' J ds) (e2:ki tg cond el ds (lV js E1)=some rs) (hc:bg rs=true∧rs.length≤1000000) (q:∀v H',Frm K B σ H' E1 (v::xs) (.ow rs::Xs)→Q v H') (l:Addr) (hl:H1 l=none):
  ∃W:Nat→Nat→lK→Hp→Prop,(∃m,W 0 m (slots js σ) (upd H1 l (.lst [])))∧
 ∀i m σ' H',W i m σ' H'→(J.stop i H'∧Q (.ref l) H')∨(J.go i H'∧∃N:lK→Hp→Prop,(∀σ' H',N σ' H'→∃m',m' < m∧W (i+1) m' σ' H')∧∀x H2,J.yld i H' x H2→rg K tg x σ' H2 fun σ3 H3=>tt σ3 H3 fun b H4=>
  if b=true then rd K m3 el σ3 H4 fun y H5=>∃ys,H5 l=some (.lst ys)∧ys.length < sizeLine∧N σ3 (upd H5 l (.lst (ys++[y])))else N σ3 H4):=by
 have fr0:=(wU fr1 js).newl (ds:=[]) .nil hl
 refine⟨fun i mm σ' H'=>mm=ds.length - i∧i≤ds.length∧∃Ei acc dW,ki tg cond el (ds.drop i) Ei=some dW∧rs=acc++dW∧Frm K H1 σ' H' Ei [.ref l] [.ow acc],⟨ds.length,by simp,Nat.zero_le _,_,[],rs,by simpa using e2,rfl,⟨_,_,fr0⟩⟩,?_⟩
 rintro i mm σ' H' ⟨rfl,hi,Ei,acc,dW,ei,er,F',A',fri⟩
 obtain⟨go,stop⟩:=ok i B2 fri
 by_cases hlt:i < ds.length
 ·obtain⟨d,ed⟩:∃d,ds[i]? =some d:=⟨ds[i],List.getElem?_eq_getElem hlt⟩
  obtain⟨g1,yl⟩:=go d ed
  have edr:ds.drop i=d::ds.drop (i+1):=by
   rw[List.drop_eq_getElem_cons hlt]
   congr 1
   exact Option.some.inj ((List.getElem?_eq_getElem hlt).symm.trans ed)
  rw[edr]at ei
  obtain⟨E3,e3,ei⟩:=Option.bind_eq_some_iff.mp ei
  obtain⟨⟨b,E4⟩,e4,ei⟩:=Option.bind_eq_some_iff.mp ei
  refine .inr ⟨g1,fun σ2 H2=>∃Ej acc dW,ki tg cond el (ds.drop (i+1)) Ej=some dW∧rs=acc++dW∧Frm K H1 σ2 H2 Ej [.ref l] [.ow acc],fun σ2 H2 ⟨Ej,ac,rt,ej,er,frj⟩=>⟨ds.length - (i+1),by omega,rfl,hlt,Ej,ac,rt,ej,er,frj⟩,fun x H2 y=>?_⟩
  have clm:Calm [Sl.ow acc]:=Calm.cons (fun s hs=>absurd hs (by simp)) rfl
  refine⟨H1,Ei,[.ref l],[.ow acc],d,E3,yl x H2 y,(fun s hs=>by rw[List.mem_singleton.mp hs];rfl),e3,fun σ3 H3 fr3=>htt _ _ _ ?_⟩
  refine⟨H1,E3,[.ref l],[.ow acc],b,E4,fr3,fun _=>clm,e4,fun H4 fr4=>?_⟩
  cases b with
  |false=>
   rw[if_neg (by decide)]
   exact⟨E4,acc,dW,ei,er,fr4⟩
  |true=>
   rw[if_pos rfl]
   obtain⟨⟨s5,E5⟩,e5,ei⟩:=Option.bind_eq_some_iff.mp ei
   obtain⟨⟨d6,E6⟩,e6,ei⟩:=Option.bind_eq_some_iff.mp ei
   obtain⟨rest',e7,ei⟩:=Option.map_eq_some_iff.mp ei
   subst ei
   refine⟨H1,E4,[.ref l],[.ow acc],s5,E5,fr4,fun _=>clm,e5,fun y5 H5 ⟨F5,A5,fr5⟩=>?_⟩
   obtain⟨F6,A6,fr6⟩:=fr5.frz0 e6
   obtain⟨v',C1,ev,rfl,w,ew,ry⟩:=fr6.ext (k:=0) rfl
   cases ev;cases ew
   obtain⟨A7,fr7⟩:=fr6.pop
   -- the list under way is the one part that owns
   obtain⟨bf,fh,tf,sl,nd,frn,len,pl⟩:=fr7
   generalize hT:List.map some [V.ref l]++σ3=T at sl
   generalize hS:[Sl.ow acc]++E6=S at sl
   cases sl with
   |nil=>cases hS
   |cons q0 r0=>
    injection hT with h1 hT
    injection hS with h2 hS
    subst h1 h2 hT hS
    obtain⟨l',us,el,rfl,hl5,ru⟩:=q0
    cases el
    have lu:=ru.len
    refine⟨us,hl5,m_ (by rw[er]at hc;simp at hc;omega),E6,acc++[d6],rest',e7,by rw[er];simp,F6,_,bf,fun b o qb=>?_,?_,.cons (A:=[l]) ⟨l,us++[y5],rfl,rfl,upd_same,ru.snoc ry⟩ (r0.mono fun o s C hs hC qq=>qq.stay (Same.refl _) (fun b hb=>aC fun z=>?_) fun z=>?_),nd,frn,rfl,pl⟩
    ·have lF:F6 l=none:=frn l (by simp)
     rw[aC (fun z=>by rw[z,lF]at qb;cases qb)]
     exact fh _ _ qb
    ·rw[qI hl5];exact tf
    ·have:=hC b hb
     rw[z]at this
     exact(List.nodup_cons.mp nd).1 this
    ·have:=pl s hs
     cases s <;> simp[Sl.isAl,Sl.isBr]at this z
 ·have e0:i=ds.length:=by omega
  refine .inl ⟨stop e0,?_⟩
  rw[e0,List.drop_length]at ei
  cases ei
  rw[List.append_nil]at er
  subst er
  obtain⟨g1,g2⟩:=fri.result hc.1
  exact q _ _ (fr1.told g1 g2)
theorem zw{m m2 m3:Bool}{it:mC}{tg:mI}{cond:iU}{el:cX}{tt:TT}(htt:∀σ H Q,rt K m2 cond σ H Q→tt σ H Q){σ:lK}{H:Hp}{Q:VK}(z:rd K m (nk js it tg cond el) σ H Q):tY js (ri K m it) (rg K tg) tt (rd K m3 el) σ H Q:=by
 obtain⟨B,E,xs,Xs,res,E',fr,cl,e,q⟩:=z
 obtain⟨⟨ds,E1⟩,e1,e⟩:=Option.bind_eq_some_iff.mp e
 obtain⟨rs,e2,e⟩:=Option.bind_eq_some_iff.mp e
 simp only at e
 split at e
 ·rename_i hc
  cases e
  simp only[Bool.and_eq_true,decide_eq_true_eq]at hc
  exact⟨B,E,xs,Xs,ds,_,fr,cl,e1,fun B' J H1 hB ⟨F,A,fr1⟩ ok l hl=>ve htt (fr1.base hB) (fr1.bf.trans fr1.fh) ok e2 hc q l hl⟩
 ·cases e
theorem nq{m m3:Bool}{it:mC}{tg:mI}{el:cX}(C:CompOk X scope sc cl N js)(hc:X.calm=true)(hi:IX X target iter m it)(hg:∀C s₀ H₀ fp,GX (X.comp sc cl N C s₀ H₀ fp) target tg)(he:∀C s₀ H₀ fp,EX (X.comp sc cl N C s₀ H₀ fp) elt m3 el)
  (hs:∀x,foldedSetIterable iter X.env x=pure x:=by intro _;rfl):EX X (.ListComp elt [⟨target,iter,[],0⟩] scope pos) m (nk js it tg mn el):=
 bY (tZ (g:=rg X.K tg) (te:=rd X.K m3 el) C hc hi hg (fun _ _ _ _=>tX) he hs) fun σ H Q z=>zw (m2:=false) (fun σ H Q z=>by
  obtain⟨B,E,xs,Xs,b,E',fr,cl,e,q⟩:=z
  cases e
  exact q _ fr) z
end
end PL
namespace PL
open PySem L2 Nh
theorem aW{α:Type}(xs:List α)(k:Nat):atI xs (k:Int)=xs[k]? :=by
 unfold atI Dx
 rw[if_pos (by omega)]
 split
 ·simp
 ·rw[List.getElem?_eq_none (by omega)];rfl
theorem eQ{α:Type}(a:α)(l:List α):atI (a::l) 0=some a:=aW (a::l) 0
theorem cN{α:Type}(a b:α)(l:List α):atI (a::b::l) 1=some b:=aW (a::b::l) 1
theorem k8{α:Type}(a b c:α)(l:List α):atI (a::b::c::l) 2=some c:=aW (a::b::c::l) 2
theorem k9:∀(a b:List PyData),bg (a++b)=(bg a&&bg b)
 |[],b=>by simp[bg]
 |x::a,b=>by simp[bg,k9 a b,Bool.and_assoc]
theorem o8:∀{a:List PyData},(∀d∈a,aJ d=true)→bg a=true
 |[],_=>rfl
 |x::a,h=>by simp[bg,h x (List.mem_cons_self ..),o8 fun d hd=>h d (List.mem_cons_of_mem _ hd)]
theorem vf{α:Type}{f:α→PyData}(h:∀a,aJ (f a)=true)(l:List α):bg (l.map f)=true:=o8 fun d hd=>by
 obtain⟨a,_,rfl⟩:=List.mem_map.mp hd
 exact h a
theorem zx(p:Pc):aJ (cK p)=true:=rfl
theorem d_(c:List Pc):bg (c.map cK)=true:=vf zx c
theorem mJ{α β:Type}(f:α→β)(k:Nat)(l:List α):(List.replicate k (l.map f)).flatten=((List.replicate k l).flatten).map f:=by
 induction k with
 |zero=>rfl
 |succ k ih=>rw[List.replicate_succ,List.replicate_succ,List.flatten_cons,List.flatten_cons,List.map_append,ih]
theorem j5(lo:Int)(n:Nat):kZ lo (n+1)=.int lo::kZ (lo+1) n:=by
 unfold kZ
 rw[List.range_succ_eq_map,List.map_cons,List.map_map]
 simp only[Int.natCast_zero,Int.add_zero]
 congr 1
 refine List.map_congr_left fun k _=>?_
 show PyData.int (lo+((k+1:Nat):Int))=PyData.int (lo+1+(k:Int))
 congr 1
 omega
theorem o9(lo:Int):kZ lo 0=[]:=rfl
end PL
namespace L2
open PySem PySem.Spec PyProof.Rows
section
variable {X:Cx} {pins:List (Addr×Obj)} {σ:L2.St} {H:Hp} {s:Shared} {h':Heap}
theorem Inv.turnedL{t':Nat}{fp:List Addr}(I:Inv X pins σ H s)(k:∀b o,b∉fp→s.heap.get? b=some o→h'.get? b=some o)(hf:∀b∈fp,nT X pins H b):Inv X pins σ H {s with heap:=h',toks:=t'}:=by
 have nit:∀b u,H b=some u→b∉fp:=fun b u e z=>by rw[(hf b z).1]at e;cases e
 refine I.step (g':=s.gens) (d':=s.drawn) (ch:=fp) (fun b hb=>?_) (fun b o _ _ hc e _=>k b o hc e) (fun b o _ _ hc e _=>⟨o.slots,k b o hc e⟩) (fun _ _ _ _ n=>n)
  (fun b o hc e=>⟨o,k b o hc e⟩) (fun _ _ e=>e) (fun _ _ _ e=>e) (fun _ _ e=>e) (fun m hm=>?_) (fun b u e=>?_) I.bare
 ·obtain⟨f0,f1,f2,f3,f4,f5⟩:=hf b hb
  exact⟨f3,f1,f4,f5⟩
 ·obtain⟨o,es,ep,ho,r⟩:=hm
  exact⟨o,es,ep,k _ o (fun z=>(hf _ z).2.1 rfl) ho,r⟩
 ·refine(I.hok b u e).stay (fun c v hc q=>k c v ?_ q) (fun _ q=>q) fun _ _ q=>q
  rcases hc with z |z
  ·rw[z];exact nit b u e
  ·exact nit c _ z
theorem sI{h:Heap}{o o':Obj}{c:Addr}(hc:c≠h.objs.size)(e:(h.push o').get? c=some o):h.get? c=some o:=(Heap.get?_push_cases e).elim (fun z=>absurd z.1 hc) id
theorem wV{t':Nat}{us:List Value}{vs:List V}(I:Inv X pins σ H s)(r:Vals vs us)(hz:vs.length≤sizeLine):
  Inv X pins σ (upd H s.heap.objs.size (.tup vs)) {s with heap:=s.heap.push {cls:=.type "tuple",data:=.seq us.toArray},toks:=t'}:=
 I.laid (fun b u e=>Heap.get?_push_of_some _ e) (Nat.le_refl _) ⟨hz,us,r,⟨_,Heap.get?_push_size _ rfl,rfl,_,rfl⟩⟩
end
def FH(K:PySem.W.Frag)(a b:Addr)(xs ys:List V):It:=
 ⟨fun i H=>SqL K H a xs∧SqL K H b ys∧i < xs.length∧i < ys.length,fun i H x H'=>∃T u v,H T=none∧xs[i]? =some u∧ys[i]? =some v∧x=.ref T∧H'=upd H T (.tup [u,v]),
  fun i H=>SqL K H a xs∧SqL K H b ys∧i=min xs.length ys.length⟩
theorem wW{P:Program}{w:World}{K:PySem.W.Frag}{nX:List Expr}{k:Nat}{pos:Pos}{z TI TO i1 i2 a b:Addr}(D:ZipApart z TI TO i1 i2 a b)(xs ys:List V):Turn P w K (.Tuple nX k pos) (FH K a b xs ys) [z,TI,TO,i1,i2] z
  (fun i h=>IsZip h z TI TO .none∧IsPair h TI (.ref i1) (.ref i2)∧(∃a b,IsPair h TO a b)∧h.IsListIter i1 a i∧h.IsListIter i2 b i) where
 mem:=by simp
 obj:=fun i h st c hc=>by
  obtain⟨h1,h2,⟨x,y,h3⟩,⟨o4,h4,_,d4⟩,⟨o5,h5,_,d5⟩⟩:=st
  simp only[List.mem_cons,List.not_mem_nil,or_false]at hc
  rcases hc with rfl |rfl |rfl |rfl |rfl
  ·exact⟨_,h1,fun v z=>by cases z⟩
  ·exact⟨_,h2,fun v z=>by cases z⟩
  ·exact⟨_,h3,fun v z=>by cases z⟩
  ·exact⟨_,h4,fun v z=>by rw[d4]at z;cases z⟩
  ·exact⟨_,h5,fun v z=>by rw[d5]at z;cases z⟩
 keep:=fun i h h' st kk=>by
  obtain⟨h1,h2,⟨x,y,h3⟩,h4,h5⟩:=st
  exact⟨kk z (by simp) _ h1,kk TI (by simp) _ h2,⟨x,y,kk TO (by simp) _ h3⟩,h4.at fun o e=>kk i1 (by simp) o e,h5.at fun o e=>kk i2 (by simp) o e⟩
 item:=by
  intro X hP hw hK hc i pins s σ H E I hf st hg
  subst hP hw hK
  obtain⟨h1,h2,⟨x,y,h3⟩,h4,h5⟩:=st
  obtain⟨q1,q2,l1,l2⟩:=hg
  obtain⟨its,rv,p,hz⟩:=I.list q1
  obtain⟨its2,rv2,p2,hz2⟩:=I.list q2
  obtain⟨u,hu⟩:∃u,xs[i]? =some u:=⟨xs[i],List.getElem?_eq_getElem l1⟩
  obtain⟨v,hv⟩:∃v,ys[i]? =some v:=⟨ys[i],List.getElem?_eq_getElem l2⟩
  obtain⟨u',hu',ru⟩:=rv.get hu
  obtain⟨v',hv',rv'⟩:=rv2.get hv
  refine wpAny_pyNext_zip_item D h1 h2 h3 h4 h5 p.isList p2.isList (by simpa using hu') (by simpa using hv') fun h' a1 a2 a3 a4 a5 a6 hk=>?_
  have I0:=wV (t':=s.toks) I (us:=[u',v']) (vs:=[u,v]) (.cons ru (.cons rv' .nil)) (by show 2≤sizeLine;decide)
  have hT:∀c∈[z,TI,TO,i1,i2],c≠s.heap.objs.size:=fun c hc ZE=>by
   have:c < s.heap.objs.size:=by
    simp only[List.mem_cons,List.not_mem_nil,or_false]at hc
    rcases hc with rfl |rfl |rfl |rfl |rfl
    ·exact Heap.lt_size h1
    ·exact Heap.lt_size h2
    ·exact Heap.lt_size h3
    ·obtain⟨o,q,_⟩:=h4;exact Heap.lt_size q
    ·obtain⟨o,q,_⟩:=h5;exact Heap.lt_size q
   rw[ZE]at this;exact Nat.lt_irrefl _ this
  have hf2:∀c∈[z,TI,TO,i1,i2],nT X pins (upd H s.heap.objs.size (.tup [u,v])) c:=fun c hc=>by
   obtain⟨f0,f⟩:=hf c hc
   exact⟨by rw[aC (hT c hc)];exact f0,f⟩
  have I1:=I0.turnedL (h':=h') (t':=s.toks) (fp:=[z,TI,TO,i1,i2]) (fun c o hc e=>by
   simp only[List.mem_cons,List.not_mem_nil,or_false,not_or]at hc
   by_cases ec:c=s.heap.objs.size
   ·subst ec
    rw[Heap.get?_push_size _ rfl]at e
    cases e
    exact a5
   ·have e':s.heap.get? c=some o:=by
     exact sI ec e
    exact hk c o hc.1 hc.2.2.1 hc.2.2.2.1 hc.2.2.2.2 e') hf2
  refine⟨_,rfl,wpAny_letOwnedTupleGo_zip (s:={s with heap:=h'}) a1 fun h'' z'' s''=>?_⟩
  have I2:=I1.turnedL (h':=h'') (t':=s.toks) (fp:=[z,TI,TO,i1,i2]) (fun c o hc e=>(s''.2 c fun e'=>hc (by simp[e'])).trans e) hf2
  refine⟨.ref s.heap.objs.size,_,I2,rfl,⟨_,u,v,I.hok.fresh (Nat.le_refl _),hu,hv,rfl,rfl⟩,⟨z'',?_,⟨_,_,s''.extBut _ _ D.TOz a2⟩,a3.extBut s''.extBut D.i1z,a4.extBut s''.extBut D.i2z⟩,fun c hc=>(hf2 c hc).1⟩
  exact s''.extBut _ _ D.TIz (hk _ _ D.TIz D.TITO D.TIi1 D.TIi2 h2)
 done:=by
  intro X hP hw hK hc i pins s σ H E I hf st hg
  subst hP hw hK
  obtain⟨h1,h2,⟨x,y,h3⟩,h4,h5⟩:=st
  obtain⟨q1,q2,hi⟩:=hg
  obtain⟨its,rv,p,hz⟩:=I.list q1
  obtain⟨its2,rv2,p2,hz2⟩:=I.list q2
  have n1:=rv.length
  have n2:=rv2.length
  refine wpAny_pyNext_zip_end (I.ok.hd hc) D h1 h2 h3 h4 h5 p.isList p2.isList ?_ fun h' hk=>⟨rfl,I.turnedL (t':=s.toks) (fp:=[z,TI,TO,i1,i2]) (fun c o hc e=>?_) hf⟩
  ·rcases Nat.le_total xs.length ys.length with h |h
   ·exact .inl (Array.getElem?_eq_none (by rw[List.size_toArray];omega))
   ·exact .inr (Array.getElem?_eq_none (by rw[List.size_toArray];omega))
  ·simp only[List.mem_cons,List.not_mem_nil,or_false,not_or]at hc
   exact hk c o hc.1 hc.2.2.1 hc.2.2.2.1 hc.2.2.2.2 e
 self:=fun _ _ _ _ _ st h=>wpAny_pyIter_zip st.1 h
def FI(K:PySem.W.Frag)(tl:TA):TI:=fun σ H R=>tl σ H fun vs H1=>∃a b xs ys,vs=[.ref a,.ref b]∧SqL K H1 a xs∧SqL K H1 b ys∧R (FH K a b xs ys) H1
section
variable {X:Cx} {nX:List Expr} {kt:Nat} {pt:Pos}
theorem Ca {l l2:Expr} {tl:TA} {p pos:Pos} (hg:Gl X "zip") (hm:X.mg "zip"=none) (ha:PA X [l,l2] tl) (hs:starEach [l,l2] X.env=(false,eval l X.env)::starEach [l2] X.env:=by rfl) (hs2:starEach [l2] X.env=[(false,eval l2 X.env)]:=by rfl):PI X (.Tuple nX kt pt) (.Call (.Name "zip" p) [l,l2] [] pos) (FI X.K tl):=by
 intro pins s σ H R I h
 refine Call_ (lN I hg hm boot_zip (PyProof.Rows.callWith_type1 (dF (ha pos pins s σ H _ I h) fun us s1 ⟨vs,H1,I1,r1,q1⟩=>?_) hs (by rw[hs2];rfl)))
 obtain⟨a,b,xs,ys,e,hq,hq2,q⟩:=q1
 subst e
 obtain⟨u,v,rfl,ru,rv⟩:=r1.two
 cases ru;cases rv
 obtain⟨its,rva,p1,hz⟩:=I1.list hq
 obtain⟨its2,rvb,p2,hz2⟩:=I1.list hq2
 have la:a < s1.heap.objs.size:=by obtain⟨_,e,_⟩:=p1.isList;exact Heap.lt_size e
 have lb:b < s1.heap.objs.size:=by obtain⟨_,e,_⟩:=p2.isList;exact Heap.lt_size e
 refine call_zip_2 p1.isList p2.isList fun h' z1 z2 z3 z4 z5 z6 hk=>?_
 have I2:Inv X pins σ H1 {s1 with heap:=h'}:=I1.kept (t':=s1.toks) hk
 refine wpAny_pyIter_zip (s:={s1 with heap:=h'}) z1 ⟨_,[_,_,_,_,_],_,_,H1,rfl,I2,wW (zipApart_new la lb) xs ys,⟨z1,z2,⟨_,_,z3⟩,z4,z5⟩,fun c hc=>?_,q⟩
 have le:s1.heap.objs.size≤c:=by
  simp only[List.mem_cons,List.not_mem_nil,or_false]at hc
  rcases hc with rfl |rfl |rfl |rfl |rfl
  ·exact Nat.le_add_right _ 4
  ·exact Nat.le_add_right _ 2
  ·exact Nat.le_add_right _ 3
  ·exact Nat.le_refl _
  ·exact Nat.le_add_right _ 1
 exact I1.fpOk le (I1.hok.fresh le)
end
def ES(x:Str):It:=⟨fun i _=>i < x.cps.toList.length,fun i H v H'=>H'=H∧∃c,x.cps.toList[i]? =some c∧v=.str ⟨#[c]⟩,fun i _=>i=x.cps.toList.length⟩
theorem wX {P:Program} {w:World} {K:PySem.W.Frag} {tg:Expr} {it:Addr} {T:String} {x:Str} {t:Tok} (hT:T="str_ascii_iterator"∨T="str_iterator"):Turn P w K tg (ES x) [it] it (fun i h=>h.IsStrIter it T x t i) where
 mem:=by simp
 obj:=fun i h st b hb=>by
  have e:b=it:=by simpa using hb
  subst e
  obtain⟨o,e,c,d⟩:=st
  exact⟨o,e,fun v z=>by rw[d]at z;cases z⟩
 keep:=fun i h h' st k=>let ⟨o,ho,r⟩:=st;⟨o,k it (by simp) o ho,r⟩
 item:=by
  intro X hP hw hK hc i pins s σ H E I hf st hg
  subst hP hw hK
  obtain⟨f0,f1,f2,f3,f4,f5⟩:=hf it (by simp)
  have hi:i < x.cps.toList.length:=hg
  have hx:x.cps[i]? =some (x.cps.toList[i]'hi):=by simp at hi;simp[hi]
  have fin:∀(h':Heap),h'.IsStrIter it T x t (i+1)→Heap.SameBut it s.heap h'→∃u,some (Value.str ⟨#[x.cps.toList[i]'hi]⟩ s.toks)=some u∧
    wpAny (model X.prog X.w) X.A (letOwnedTupleGo tg (.ref it) u) (fun _ s2=>∃v H',Inv X pins σ H' s2∧RelV v u∧(ES x).yld i H v H'∧s2.heap.IsStrIter it T x t (i+1)∧∀b∈[it],H' b=none) E {s with heap:=h',toks:=s.toks+1}:=fun h' st' sb=>by
   have I1:Inv X pins σ H {s with heap:=h',toks:=s.toks+1}:=I.turned (t':=s.toks+1) (fun b o hb e=>(sb.2 b hb).trans e) f0 f1 f3 f4 f5
   obtain⟨o,e,c,d⟩:=id st'
   exact⟨_,rfl,qA (s:={s with heap:=h',toks:=s.toks+1}) e c d (by rcases hT with rfl |rfl <;> decide) ⟨.str ⟨#[x.cps.toList[i]'hi]⟩,H,I1,⟨_,rfl⟩,⟨rfl,_,List.getElem?_eq_getElem hi,rfl⟩,st',fun b hb=>(hf b hb).1⟩⟩
  rcases hT with rfl |rfl
  ·exact wpAny_pyNext_ascii_item st hx fun h' st' sb=>fin h' st' sb
  ·exact wpAny_pyNext_wide_item st hx fun h' st' sb=>fin h' st' sb
 done:=by
  intro X hP hw hK hc i pins s σ H E I hf st hg
  subst hP hw hK
  obtain⟨f0,f1,f2,f3,f4,f5⟩:=hf it (by simp)
  have hi:i=x.cps.toList.length:=hg
  have hx:x.cps[i]? =none:=by simp at hi;simp[hi]
  rcases hT with rfl |rfl
  ·exact wpAny_pyNext_ascii_end (I.ok.hd hc) st hx fun h' eb=>⟨rfl,I.turned (t':=s.toks) (fun b o hb e=>eb b o hb e) f0 f1 f3 f4 f5⟩
  ·exact wpAny_pyNext_wide_end (I.ok.hd hc) st hx fun h' eb=>⟨rfl,I.turned (t':=s.toks) (fun b o hb e=>eb b o hb e) f0 f1 f3 f4 f5⟩
 self:=fun _ _ _ _ _ st h=>by
  rcases hT with rfl |rfl
  ·exact wpAny_pyIter_striter_ascii st h
  ·exact wpAny_pyIter_striter_wide st h
def FJ(tl:TE):TI:=fun σ H R=>tl σ H fun v H1=>∃x,v=.str x∧R (ES x) H1
theorem Cb{X:Cx}{tg l:Expr}{tl:TE}(hl:PE X l tl):PI X tg l (FJ tl):=by
 intro pins s σ H R I h
 refine dF (hl pins s σ H _ I h) fun v s1 ⟨y,H1,I1,r1,q1⟩=>?_
 obtain⟨x,e,q⟩:=q1
 subst e
 obtain⟨t,rfl⟩:=r1
 refine wpAny_pyIter_strU ?_
 refine⟨s1.heap.objs.size,[s1.heap.objs.size],fun i h=>h.IsStrIter s1.heap.objs.size (strIterType x) x t i,_,H1,rfl,I1.kept (t':=s1.toks) fun b o e=>Heap.get?_push_of_some _ e,wX (t:=t) ?_,⟨_,Heap.get?_push_size _ rfl,rfl,rfl⟩,fun b hb=>?_,q⟩
 ·unfold strIterType
  split
  ·exact .inl rfl
  ·exact .inr rfl
 ·have e:b=s1.heap.objs.size:=by simpa using hb
  subst e
  exact I1.fpOk (Nat.le_refl _) (I1.hok.fresh (Nat.le_refl _))
theorem PI.or{X:Cx}{tg l:Expr}{a b:TI}(h1:PI X tg l a)(h2:PI X tg l b):PI X tg l (fun σ H R=>a σ H R∨b σ H R):=by
 intro pins s σ H R I h
 rcases h with h |h
 ·exact h1 pins s σ H R I h
 ·exact h2 pins s σ H R I h
end L2
namespace PL
open PySem L2 Nh
def k_:List PyData→List PyData→List PyData
 |a::as,b::bs=>.tuple [a,b]::k_ as bs
 |_,_=>[]
def wY(f g:cX):mC:=fun E=>(f E).bind fun a=>(frz a.2 a.1).bind fun b=>(g b.2).bind fun c=>(frz c.2 c.1).bind fun d=>match b.1,d.1 with
 |.list xs,.list ys=>some (k_ xs ys,d.2)
 |_,_=>none
def pS(x:Str):List PyData:=x.cps.toList.map fun c=>.str ⟨#[c]⟩
def zy(f:cX):mC:=fun E=>(f E).bind fun a=>(frz a.2 a.1).bind fun b=>match b.1 with
 |.list ds=>some (ds,b.2)
 |.tuple ds=>some (ds,b.2)
 |.str x=>some (pS x,b.2)
 |_=>none
section
variable {X:Cx} {K:PySem.W.Frag} {B:Hp}
theorem qR:∀{as bs:List PyData} {i:Nat} {d:PyData},(k_ as bs)[i]? =some d→∃a b,as[i]? =some a∧bs[i]? =some b∧d=.tuple [a,b]
 |a::as,b::bs,0,d,e=>by simp[k_]at e;exact⟨a,b,rfl,rfl,e.symm⟩
 |a::as,b::bs,i+1,d,e=>by
  obtain⟨x,y,h1,h2,h3⟩:=qR (as:=as) (bs:=bs) (i:=i) (by simpa[k_]using e)
  exact⟨x,y,by simpa using h1,by simpa using h2,h3⟩
 |[],_,_,_,e=>by simp[k_]at e
 |_::_,[],_,_,e=>by simp[k_]at e
theorem qS:∀(as bs:List PyData),(k_ as bs).length=min as.length bs.length
 |a::as,b::bs=>by simp[k_,qS as bs]
 |[],_=>by simp[k_]
 |_::_,[]=>by simp[k_]
theorem wZ{a b:Addr}{vs us:List V}{ds es:List PyData}(h:SqL K B a vs)(r:RpA K B vs ds)(h2:SqL K B b us)(r2:RpA K B us es):qP K B (FH K a b vs us) (k_ ds es):=fun {B' F A σ H E xs Xs} i sB fr=>by
 have hH:=fr.fh.seq (fr.bf.seq (sB.seq h))
 have hH2:=fr.fh.seq (fr.bf.seq (sB.seq h2))
 refine⟨fun d ed=>?_,fun e=>⟨hH,hH2,by rw[e,qS,r.len,r2.len]⟩⟩
 obtain⟨x,y,ex,ey,rfl⟩:=qR ed
 obtain⟨v,ev,rv⟩:=r.get ex
 obtain⟨u,eu,ru⟩:=r2.get ey
 refine⟨⟨hH,hH2,(List.getElem?_eq_some_iff.mp ev).1,(List.getElem?_eq_some_iff.mp eu).1⟩,fun z H2 ⟨T,v',u',hT,e1,e2,e3,e4⟩=>?_⟩
 rw[ev]at e1;cases e1
 rw[eu]at e2;cases e2
 subst e3 e4
 have s1:=sB.trans fr.bf
 exact⟨_,_,fr.newt (.cons (rv.same s1) (.cons (ru.same s1) .nil)) hT⟩
theorem w5{x:Str}:qP K B (ES x) (pS x):=fun {B' F A σ H E xs Xs} i sB fr=>by
 refine⟨fun d ed=>?_,fun e=>by show i=x.cps.toList.length;rw[e];simp[pS]⟩
 unfold pS at ed
 rw[List.getElem?_map]at ed
 obtain⟨c,ec,rfl⟩:=Option.map_eq_some_iff.mp ed
 refine⟨(List.getElem?_eq_some_iff.mp ec).1,fun z H2 ⟨e1,c',e2,e3⟩=>?_⟩
 rw[ec]at e2;cases e2
 subst e1 e3
 exact⟨F,A,fr.push ⟨rfl,_,rfl,.str _⟩⟩
theorem w6{a:Addr}{vs:List V}{ds:List PyData}(h:SqT K B a vs)(r:RpA K B vs ds):qP K B (Fj K a) ds:=fun {B' F A σ H E xs Xs} i sB fr=>by
 have hH:=fr.fh.tup (fr.bf.tup (sB.tup h))
 refine⟨fun d ed=>?_,fun e=>⟨vs,hH,by rw[e,r.len];exact Nat.le_refl _⟩⟩
 obtain⟨v,ev,rv⟩:=r.get ed
 refine⟨⟨vs,v,hH,ev⟩,fun x H2 ⟨e2,y⟩=>?_⟩
 subst e2
 have:=y vs hH
 rw[ev]at this
 cases this
 exact⟨F,A,fr.push ⟨rfl,_,rfl,rv.same (sB.trans fr.bf)⟩⟩
theorem w_{tg e:Expr}{m:Bool}{f:cX}(he:EX X e m f):IX X tg e m (zy f):=nj (PI.or (pD he) (PI.or (BE he) (Cb he))) fun σ H R z=>by
 obtain⟨B,E,xs,Xs,ds,E',fr,cl,e,q⟩:=z
 obtain⟨⟨s,E1⟩,e1,e⟩:=Option.bind_eq_some_iff.mp e
 obtain⟨⟨d,E2⟩,e2,e⟩:=Option.bind_eq_some_iff.mp e
 have key:∀(v:V) (H1:Hp),Frm X.K B σ H1 E1 (v::xs) (s::Xs)→∃F2 A2 A3,Rp X.K F2 v d∧Same B F2∧FrF X.K F2 F2 A3 σ H1 E2 xs Xs∧FrF X.K B F2 A2 σ H1 E2 (v::xs) (.sh d::Xs):=fun v H1 ⟨F,A,fr1⟩=>by
  obtain⟨F2,A2,fr2⟩:=fr1.frz0 e2
  obtain⟨v',A1,ev,rfl,w,ew,r⟩:=fr2.ext (k:=0) rfl
  cases ev;cases ew
  obtain⟨A3,fr3⟩:=fr2.pop
  exact⟨F2,A2,A3,r,fr2.bf,fr3.raise,fr2⟩
 simp only at e
 split at e
 ·cases e
  refine .inl ⟨B,E,xs,Xs,s,E1,fr,cl,e1,fun v H1 fr1=>?_⟩
  obtain⟨F2,A2,A3,r,sb,fr3,fr2⟩:=key v H1 fr1
  cases r with
  |lst h1 h2=>exact⟨_,rfl,⟨_,fr2.fh.seq h1⟩,q F2 _ _ sb ⟨F2,A3,fr3⟩ (o6 h1 h2)⟩
 ·cases e
  refine .inr (.inl ⟨B,E,xs,Xs,s,E1,fr,cl,e1,fun v H1 fr1=>?_⟩)
  obtain⟨F2,A2,A3,r,sb,fr3,fr2⟩:=key v H1 fr1
  cases r with
  |tup h1 h2=>exact⟨_,rfl,⟨_,fr2.fh.tup h1⟩,q F2 _ _ sb ⟨F2,A3,fr3⟩ (w6 h1 h2)⟩
 ·cases e
  refine .inr (.inr ⟨B,E,xs,Xs,s,E1,fr,cl,e1,fun v H1 fr1=>?_⟩)
  obtain⟨F2,A2,A3,r,sb,fr3,fr2⟩:=key v H1 fr1
  cases r
  exact⟨_,rfl,q F2 _ _ sb ⟨F2,A3,fr3⟩ w5⟩
 ·cases e
theorem Cc {nX:List Expr} {kt:Nat} {pt p pos:Pos} {e e2:Expr} {m m2:Bool} {f g:cX} (hg:Gl X "zip") (hm:X.mg "zip"=none) (he:EX X e m f) (he2:EX X e2 m2 g) (hs:starEach [e,e2] X.env=(false,eval e X.env)::starEach [e2] X.env:=by rfl) (hs2:starEach [e2] X.env=[(false,eval e2 X.env)]:=by rfl):IX X (.Tuple nX kt pt) (.Call (.Name "zip" p) [e,e2] [] pos) (m||m2) (wY f g):=nj (Ca hg hm (c_ he (c_ he2 fi hs2) hs) hs hs2) fun σ H R z=>by
 obtain⟨B,E,xs,Xs,ds,E',fr,cl,e,q⟩:=z
 obtain⟨⟨s,E1⟩,e1,e⟩:=Option.bind_eq_some_iff.mp e
 obtain⟨⟨d,E2⟩,e2,e⟩:=Option.bind_eq_some_iff.mp e
 obtain⟨⟨s3,E3⟩,e3,e⟩:=Option.bind_eq_some_iff.mp e
 obtain⟨⟨d4,E4⟩,e4,e⟩:=Option.bind_eq_some_iff.mp e
 refine⟨B,E,xs,Xs,s,E1,fr,fun z=>cl (by simp[z]),e1,fun v H1 ⟨F,A,fr1⟩=>?_⟩
 obtain⟨F2,A2,fr2⟩:=fr1.frz0 e2
 refine⟨B,E2,v::xs,.sh d::Xs,s3,E3,⟨F2,A2,fr2⟩,fun z=>Calm.cons (cl (by simp[z])) rfl,e3,fun v3 H3 ⟨F3,A3,fr3⟩=>?_⟩
 obtain⟨F4,A4,fr4⟩:=fr3.frz0 e4
 simp only at e
 split at e
 ·cases e
  obtain⟨v',A1,ev,rfl,w,ew,r⟩:=fr4.ext (k:=0) rfl
  cases ev;cases ew
  obtain⟨v',A1,ev,rfl,w,ew,r2⟩:=fr4.ext (k:=1) rfl
  cases ev;cases ew
  cases r with
  |lst h1 h2=>
   cases r2 with
   |lst h3 h4=>
    obtain⟨A5,fr5⟩:=fr4.pop
    obtain⟨A6,fr6⟩:=fr5.pop
    exact⟨_,_,_,_,rfl,fr4.fh.seq h3,fr4.fh.seq h1,q F4 _ _ fr4.bf ⟨F4,A6,fr6.raise⟩ (wZ h3 h4 h1 h2)⟩
 ·cases e
end
def bo(c:iU)(g:cy):Nat→cy
 | 0,_=>none
 |n+1,E=>(c E).bind fun a=>if a.1 then (g a.2).bind fun b=>(match b.2 with
   |.nx=>bo c g n b.1
   |.ct=>bo c g n b.1
   |.bk=>some (b.1,.nx)
   |.rt r=>some (b.1,.rt r))else some (a.2,.nx)
open Classical in
def fF(c:iU)(g:cy):cy:=fun E=>if h:∃n r,bo c g n E=some r then some h.choose_spec.choose else none
theorem i4(c:iU)(g:cy):∀{n:Nat} {E:List Sl} {r:List Sl×Fl},bo c g n E=some r→bo c g (n+1) E=some r
 |n+1,E,r,h=>by
  obtain⟨a,e1,h⟩:=Option.bind_eq_some_iff.mp h
  rw[bo,e1,Option.bind_some]
  cases ha:a.1 with
  |false=>rw[ha]at h;exact h
  |true=>
   rw[ha]at h
   obtain⟨b,e2,h⟩:=Option.bind_eq_some_iff.mp h
   rw[if_pos rfl,e2,Option.bind_some]
   cases hb:b.2 with
   |nx=>rw[hb]at h;exact i4 c g h
   |ct=>rw[hb]at h;exact i4 c g h
   |bk=>rw[hb]at h;exact h
   |rt r=>rw[hb]at h;exact h
theorem nr(c:iU)(g:cy){n m:Nat}{E:List Sl}{r:List Sl×Fl}(h:bo c g n E=some r)(hl:n≤m):bo c g m E=some r:=by
 induction hl with
 |refl=>exact h
 |step _ ih=>exact i4 c g ih
theorem fq{c:iU}{g:cy}{n:Nat}{E:List Sl}{r:List Sl×Fl}(h:bo c g n E=some r):fF c g E=some r:=by
 have ex:∃n r,bo c g n E=some r:=⟨n,r,h⟩
 unfold fF
 rw[dif_pos ex]
 have e:=ex.choose_spec.choose_spec
 have a:=nr c g e (Nat.le_max_left ex.choose n)
 have b:=nr c g h (Nat.le_max_right ex.choose n)
 rw[a]at b
 exact b
theorem lf{X:Cx}{c:Expr}{body:List Stmt}{m:Bool}{t:iU}{b:cy}{pos:Pos}(hp:PassesOwn (model X.prog X.w) X.A X.env X.xe)(hc:TX X c m t)(hb:rS X body b):SX X (.While c body [] pos) (fF t b):=kz (qz hp hc hb) fun D σ H z=>by
 obtain⟨B,E,xs,Xs,E',fl,fr,cl,e,q⟩:=z
 unfold fF at e
 split at e
 ·rename_i ex
  have e0:=ex.choose_spec.choose_spec
  rw[Option.some.inj e]at e0
  refine⟨fun n σ' H'=>∃E1,bo t b n E1=some (E',fl)∧Frm X.K B σ' H' E1 xs Xs,⟨_,E,e0,fr⟩,?_⟩
  rintro n σ' H' ⟨E1,e1,fr1⟩
  cases n with
  |zero=>cases e1
  |succ n=>
   obtain⟨⟨b1,E2⟩,e2,e1⟩:=Option.bind_eq_some_iff.mp e1
   refine⟨B,E1,xs,Xs,b1,E2,fr1,fun _=>Calm.nil cl,e2,fun H2 fr2=>?_⟩
   cases b1 with
   |false=>
    cases e1
    exact(if_neg (by decide)).mpr (q _ _ fr2)
   |true=>
    refine(if_pos rfl).mpr ?_
    obtain⟨⟨E3,f3⟩,e3,e1⟩:=Option.bind_eq_some_iff.mp e1
    refine⟨fun σ4 H4=>∃E1,bo t b n E1=some (E',fl)∧Frm X.K B σ4 H4 E1 xs Xs,fun σ4 H4 z=>⟨n,Nat.lt_succ_self _,z⟩,B,E2,xs,Xs,E3,f3,fr2,cl,e3,?_⟩
    cases f3 with
    |nx=>exact fun σ4 H4 fr4=>⟨E3,e1,fr4⟩
    |ct=>exact fun σ4 H4 fr4=>⟨E3,e1,fr4⟩
    |bk=>cases e1;exact fun σ4 H4 fr4=>q _ _ fr4
    |rt r=>cases e1;exact fun σ4 v H4 fr4=>q _ _ _ fr4
 ·cases e
end PL
namespace PL
open PySem L2 Nh
inductive Cm where
 |lt |le |gt |ge
def Cm.op:Cm→CmpOp
 |.lt=> .Lt
 |.le=> .LtE
 |.gt=> .Gt
 |.ge=> .GtE
def Cm.i:Cm→Int→Int→Bool
 |.lt,i,j=>decide (i < j)
 |.le,i,j=>decide (i≤j)
 |.gt,i,j=>decide (j < i)
 |.ge,i,j=>decide (j≤i)
def Cm.s:Cm→List Nat→List Nat→Bool
 |.lt,i,j=>decide (i < j)
 |.le,i,j=> !decide (j < i)
 |.gt,i,j=>decide (j < i)
 |.ge,i,j=> !decide (i < j)
def ba(c:Cm):PyData→PyData→Option PyData
 |.int i,.int j=>some (.bool (c.i i j))
 |.str x,.str y=>some (.bool (c.s x.cps.toList y.cps.toList))
 |_,_=>none
def Go(c:Cm):R2:=fun x y H Q=>(∃i j,x=.int i∧y=.int j∧Q (.bl (c.i i j)) H)∨(∃i j,x=.str i∧y=.str j∧Q (.bl (c.s i.cps.toList j.cps.toList)) H)
section
variable {X:Cx} {a b c:Expr} {m1 m2 m3:Bool} {f g h:cX} {pos:Pos} {K:PySem.W.Frag}
theorem o_(c:Cm):OpR X (compareOp c.op) (Go c):=by
 cases c with
 |lt=>exact OpR.or Dq uR
 |le=>exact OpR.or Dr (fun pins s σ H x y v u Q I rx ry h=>by
   obtain⟨i,j,rfl,rfl,q⟩:=h
   obtain⟨t,rfl⟩:=rx
   obtain⟨t',rfl⟩:=ry
   exact PySem.P.le_str (bM I q rfl))
 |gt=>exact OpR.or Ds (fun pins s σ H x y v u Q I rx ry h=>by
   obtain⟨i,j,rfl,rfl,q⟩:=h
   obtain⟨t,rfl⟩:=rx
   obtain⟨t',rfl⟩:=ry
   exact PySem.P.gt_str (bM I q rfl))
 |ge=>exact OpR.or Dt (fun pins s σ H x y v u Q I rx ry h=>by
   obtain⟨i,j,rfl,rfl,q⟩:=h
   obtain⟨t,rfl⟩:=rx
   obtain⟨t',rfl⟩:=ry
   exact PySem.P.ge_str (bM I q rfl))
theorem pb(c:Cm):nh K (Go c) (ba c):=fun d1 d2 d v1 v2 H Q e r1 r2=>by
 unfold ba at e
 split at e
 ·cases e;cases r1;cases r2
  exact⟨_,rfl,fun q=>.inl ⟨_,_,rfl,rfl,q⟩⟩
 ·cases e;cases r1;cases r2
  exact⟨_,rfl,fun q=>.inr ⟨_,_,rfl,rfl,q⟩⟩
 ·cases e
theorem pc(c:Cm)(b:Expr):behindInMarks c.op b=false:=by cases c <;> exact jw _
theorem DV(c:Cm)(ha:EX X a m1 f)(hb:EX X b m2 g):EX X (.Compare a [c.op] [b] pos) (m1||m2) (ag (bz (ba c)) m2 f g):=sr (o_ c) (fX (pb c)) ha hb (pc c b)
theorem fv(c:Cm)(ha:EX X a m1 f)(hb:EX X b m2 g):TX X (.Compare a [c.op] [b] pos) (m1||m2) (a_ (ag (bz (ba c)) m2 f g)):=iY (o_ c) (fX (pb c)) ha hb (pc c b)
theorem DW(c1 c2:Cm)(ha:EX X a m1 f)(hb:EX X b m2 g)(hc:EX X c m3 h)(hm:lastMarks [c1.op,c2.op] [b,c]=false:=by with_unfolding_all rfl):EX X (.Compare a [c1.op,c2.op] [b,c] pos) (m1||(m2||m3)) (cZ (ba c1) (ba c2) m2 m3 f g h):=wI (o_ c1) (o_ c2) (pb c1) (pb c2) ha hb hc hm
theorem AU(c1 c2:Cm)(ha:EX X a m1 f)(hb:EX X b m2 g)(hc:EX X c m3 h)(hm:lastMarks [c1.op,c2.op] [b,c]=false:=by with_unfolding_all rfl):TX X (.Compare a [c1.op,c2.op] [b,c] pos) (m1||(m2||m3)) (a_ (cZ (ba c1) (ba c2) m2 m3 f g h)):=wK (o_ c1) (o_ c2) (pb c1) (pb c2) ha hb hc hm
def lY:List PyData→Option (List Str)
 |[]=>some []
 |.str x::ds=>(lY ds).map fun xs=>x::xs
 |_::_=>none
def lZ:List PyData→Option (List Int)
 |[]=>some []
 |.int x::ds=>(lZ ds).map fun xs=>x::xs
 |_::_=>none
theorem iO:∀{ds:List PyData} {xs:List Str},lY ds=some xs→ds=xs.map .str
 |[],xs,h=>by cases h;rfl
 |d::ds,xs,h=>by
  cases d with
  |str x=>
   obtain⟨ys,e,rfl⟩:=Option.map_eq_some_iff.mp h
   rw[iO e];rfl
  |_=>cases h
theorem l7:∀{ds:List PyData} {xs:List Int},lZ ds=some xs→ds=xs.map .int
 |[],xs,h=>by cases h;rfl
 |d::ds,xs,h=>by
  cases d with
  |int x=>
   obtain⟨ys,e,rfl⟩:=Option.map_eq_some_iff.mp h
   rw[l7 e];rfl
  |_=>cases h
theorem jE{H:Hp}:∀{vs:List V} {xs:List Str},RpA K H vs (xs.map .str)→vs=xs.map .str
 |[],[],_=>rfl
 |v::vs,x::xs,.cons h r=>by cases h;rw[jE r];rfl
theorem nu{H:Hp}:∀{vs:List V} {xs:List Int},RpA K H vs (xs.map .int)→vs=xs.map .int
 |[],[],_=>rfl
 |v::vs,x::xs,.cons h r=>by cases h;rw[nu r];rfl
def pd:PyData→PyData→Option Bool
 |.str x,.str y=>some (!(Builtin.Str.occurrences y x 0 y.length 1).isEmpty)
 |.str x,.list ds=>(lY ds).map fun xs=>xs.contains x
 |.str x,.tuple ds=>(lY ds).map fun xs=>xs.contains x
 |.int x,.list ds=>(lZ ds).map fun xs=>xs.contains x
 |.int x,.tuple ds=>(lZ ds).map fun xs=>xs.contains x
 |_,_=>none
def Cd(K:PySem.W.Frag)(neg:Bool):R2:=fun x y H Q=>(∃i j,x=.str i∧y=.str j∧Q (.bl (if neg then !(!(Builtin.Str.occurrences j i 0 j.length 1).isEmpty)else !(Builtin.Str.occurrences j i 0 j.length 1).isEmpty)) H)∨EQ K neg x y H Q
theorem qT(x:Str)(xs:List Str):AL (.str x) (xs.map .str)=xs.contains x:=by
 induction xs with
 |nil=>rfl
 |cons y xs ih=>
  rw[List.contains_cons,←ih]
  show(wo (.str y) (.str x)||AL (.str x) (xs.map .str))=_
  congr 1
  show(y == x)=(x == y)
  exact BEq.comm
theorem qU(x:Int)(xs:List Int):AL (.int x) (xs.map .int)=xs.contains x:=by
 induction xs with
 |nil=>rfl
 |cons y xs ih=>
  rw[List.contains_cons,←ih]
  show(wo (.int y) (.int x)||AL (.int x) (xs.map .int))=_
  congr 1
  show(y == x)=(x == y)
  exact BEq.comm
theorem xa(neg:Bool):nh K (Cd K neg) (fun d1 d2=>(pd d1 d2).map fun b=>.bool (if neg then !b else b)):=fun d1 d2 d v1 v2 H Q e r1 r2=>by
 obtain⟨b,e',rfl⟩:=Option.map_eq_some_iff.mp e
 clear e
 have e:=e'
 clear e'
 refine⟨_,rfl,fun q=>?_⟩
 have hs:∀xs:List Str,(xs.map V.str).all iK=true:=fun xs=>by simp[List.all_eq_true,iK]
 have hi:∀xs:List Int,(xs.map V.int).all iK=true:=fun xs=>by simp[List.all_eq_true,iK]
 unfold pd at e
 split at e
 ·cases e;cases r1;cases r2
  exact .inl ⟨_,_,rfl,rfl,q⟩
 ·obtain⟨xs,ex,rfl⟩:=Option.map_eq_some_iff.mp e
  cases r1
  cases r2 with
  |lst h1 h2=>
   rw[iO ex]at h2
   rw[jE h2]at h1
   exact .inr ⟨_,_,rfl,.inl h1,rfl,hs _,by rw[qT];exact q⟩
 ·obtain⟨xs,ex,rfl⟩:=Option.map_eq_some_iff.mp e
  cases r1
  cases r2 with
  |tup h1 h2=>
   rw[iO ex]at h2
   rw[jE h2]at h1
   exact .inr ⟨_,_,rfl,.inr h1,rfl,hs _,by rw[qT];exact q⟩
 ·obtain⟨xs,ex,rfl⟩:=Option.map_eq_some_iff.mp e
  cases r1
  cases r2 with
  |lst h1 h2=>
   rw[l7 ex]at h2
   rw[nu h2]at h1
   exact .inr ⟨_,_,rfl,.inl h1,rfl,hi _,by rw[qU];exact q⟩
 ·obtain⟨xs,ex,rfl⟩:=Option.map_eq_some_iff.mp e
  cases r1
  cases r2 with
  |tup h1 h2=>
   rw[l7 ex]at h2
   rw[nu h2]at h1
   exact .inr ⟨_,_,rfl,.inr h1,rfl,hi _,by rw[qU];exact q⟩
 ·cases e
def mq(neg:Bool):P2:=bz fun d1 d2=>(pd d1 d2).map fun b=>.bool (if neg then !b else b)
theorem Ce:OpR X (compareOp .In) (Cd X.K false):=OpR.or uS oS
theorem vg:OpR X (compareOp .NotIn) (Cd X.K true):=OpR.or pH pG
theorem qV(ha:EX X a m1 f)(hb:EX X b m2 g)(hm:behindInMarks .In b=false:=by with_unfolding_all rfl):TX X (.Compare a [.In] [b] pos) (m1||m2) (a_ (ag (mq false) m2 f g)):=iY Ce (fX (xa false)) ha hb hm
theorem sJ(ha:EX X a m1 f)(hb:EX X b m2 g)(hm:behindInMarks .NotIn b=false:=by with_unfolding_all rfl):TX X (.Compare a [.NotIn] [b] pos) (m1||m2) (a_ (ag (mq true) m2 f g)):=iY vg (fX (xa true)) ha hb hm
end
def AV(x:Str):PyData→Option PyData
 |.list ds=>(lY ds).bind fun ys=>if (ys.map (·.length)).sum+ys.length*x.length≤1000000 then some (.str (Txt.join x ys))else none
 |.tuple ds=>(lY ds).bind fun ys=>if (ys.map (·.length)).sum+ys.length*x.length≤1000000 then some (.str (Txt.join x ys))else none
 |_=>none
theorem pe{ys:List Str}:∀{us:List Value},Vals (ys.map V.str) us→PyProof.Rows.StrsAre us ys:=by
 induction ys with
 |nil=>intro us h;cases h;exact .nil
 |cons y ys ih=>
  intro us h
  cases h with
  |cons h r=>
   obtain⟨t,rfl⟩:=h
   exact .cons y t (ih r)
def DY(K:PySem.W.Frag):V→List V→Hp→VK→Prop:=fun x vs H Q=>∃z p ys,x=.str z∧vs=[.ref p]∧(SqL K H p (ys.map .str)∨SqT K H p (ys.map .str))∧(ys.map (·.length)).sum+ys.length*z.length≤16777216∧Q (.str (Txt.join z ys)) H
theorem zz{X:Cx}:Fv X "str.join" (DY X.K):=by
 intro pins s σ H x vs v us Q I rx rv h
 obtain⟨z,p,ys,rfl,rfl,hq,hl,q⟩:=h
 obtain⟨t,rfl⟩:=rx
 obtain⟨u,rfl,ru⟩:=rv.one
 cases ru
 rcases hq with hq |hq
 ·obtain⟨its,r,pl,_⟩:=I.list hq
  exact PyProof.Rows.join_list pl.isList (by simpa using pe r) hl fun t' k=>⟨.str _,H,I.tok _,⟨_,rfl⟩,q⟩
 ·obtain⟨its,r,pl,_⟩:=I.tuple hq
  exact PyProof.Rows.join_tuple pl (by simpa using pe r) hl fun t' k=>⟨.str _,H,I.tok _,⟨_,rfl⟩,q⟩
section
variable {X:Cx} {e o:Expr} {m1 m2:Bool} {g:m8} {f h:cX} {p pos apos cpos:Pos} {K:PySem.W.Frag}
def AW(x:Str)(f:cX):cX:=gE (AV x) f
theorem zA {x:Str} {j:Nat} {sp:Pos} (he:EX X e m1 f) (hs:starEach [e] X.env=[(false,eval e X.env)]:=by rfl) (hbase:attributeBase (.Constant (.str x) j sp) "join" X.env (eval (.Constant (.str x) j sp) X.env)=eval (.Constant (.str x) j sp) X.env:=by rfl)
  (hfew:((backTo cpos (starEach [e] X.env)).all (fun x=> !x.1)&&(backToKw cpos (keywordEach [] X.env)).all (fun x=>x.1.isSome)
   &&decide (([e]:List Expr).length+([]:List Keyword).length+(if ([]:List Keyword).isEmpty then 0 else 1) < 30))=true:=by rfl) (hline:(apos.endLine == cpos.line)=true:=by rfl):
  EX X (.Call (.Attribute (.Constant (.str x) j sp) "join" apos) [e] [] cpos) m1 (AW x f):=by
 refine bY (tU PySem.F.plainAttrs_str PySem.F.slot_str_join PySem.F.type_str_join zz (rW) (c_ he fi hs) hbase hfew hline hs rfl) fun σ H Q z=>?_
 obtain⟨B,E,xs,Xs,res,E',fr,c,e,q⟩:=z
 obtain⟨⟨s1,E1⟩,e1,e⟩:=Option.bind_eq_some_iff.mp e
 obtain⟨d1,e2,e⟩:=Option.bind_eq_some_iff.mp e
 obtain⟨d,e3,e⟩:=Option.map_eq_some_iff.mp e
 cases e
 refine⟨rfl,B,E,xs,Xs,s1,E1,fr,c,e1,fun v1 H1 ⟨F,A,fr1⟩=>?_⟩
 have r:=(fr1.look0 e2).1
 obtain⟨A',fr2⟩:=fr1.pop
 unfold AV at e3
 split at e3
 ·obtain⟨ys,ey,e3⟩:=Option.bind_eq_some_iff.mp e3
  split at e3
  ·rename_i hl
   cases e3
   cases r with
   |lst h1 h2=>
    rw[iO ey]at h2
    rw[jE h2]at h1
    exact⟨x,_,ys,rfl,rfl,.inl h1,by omega,q _ _ ⟨F,A',fr2.push ⟨rfl,_,rfl,.str _⟩⟩⟩
  ·cases e3
 ·obtain⟨ys,ey,e3⟩:=Option.bind_eq_some_iff.mp e3
  split at e3
  ·rename_i hl
   cases e3
   cases r with
   |tup h1 h2=>
    rw[iO ey]at h2
    rw[jE h2]at h1
    exact⟨x,_,ys,rfl,rfl,.inr h1,by omega,q _ _ ⟨F,A',fr2.push ⟨rfl,_,rfl,.str _⟩⟩⟩
  ·cases e3
 ·cases e3
end
theorem gs{X:Cx}{st:Stmt}:SX X st (fun _=>none):=kz v4 fun D σ H z=>by
 obtain⟨B,E,xs,Xs,E',fl,fr,cl,e,q⟩:=z
 cases e
def jF:cy:=fun _=>none
end PL
namespace PL
open PySem L2 Nh
theorem Cf{X:Cx}:SlR X (fun x lo hi H Q=>∃z,x=.str z∧z.length≤sizeLine∧Q (.str (Txt.slice z lo hi)) H):=by
 intro pins s σ H x v vl vu lo hi sl Q I rx hs pl pu h
 obtain⟨z,rfl,hz,q⟩:=h
 obtain⟨t,rfl⟩:=rx
 cases pl with
 |none=>
  cases pu with
  |none=>exact⟨"str",_,PySem.F.slot_str_getitem.lookup,typeIs_str _ _ _,wpAny_getItem_str_slice (l:=none) (u:=none) (st:=none) hs rfl (post_val_or_str ⟨Nat.le_trans (Txt.slice_le z _ _) hz,fun t' k=>⟨.str _,H,I.tok _,⟨_,rfl⟩,q⟩⟩)⟩
  |int j uj=>exact⟨"str",_,PySem.F.slot_str_getitem.lookup,typeIs_str _ _ _,wpAny_getItem_str_slice (l:=none) (u:=some (j,uj)) (st:=none) hs rfl (post_val_or_str ⟨Nat.le_trans (Txt.slice_le z _ _) hz,fun t' k=>⟨.str _,H,I.tok _,⟨_,rfl⟩,q⟩⟩)⟩
 |int i ui=>
  cases pu with
  |none=>exact⟨"str",_,PySem.F.slot_str_getitem.lookup,typeIs_str _ _ _,wpAny_getItem_str_slice (l:=some (i,ui)) (u:=none) (st:=none) hs rfl (post_val_or_str ⟨Nat.le_trans (Txt.slice_le z _ _) hz,fun t' k=>⟨.str _,H,I.tok _,⟨_,rfl⟩,q⟩⟩)⟩
  |int j uj=>exact⟨"str",_,PySem.F.slot_str_getitem.lookup,typeIs_str _ _ _,wpAny_getItem_str_slice (l:=some (i,ui)) (u:=some (j,uj)) (st:=none) hs rfl (post_val_or_str ⟨Nat.le_trans (Txt.slice_le z _ _) hz,fun t' k=>⟨.str _,H,I.tok _,⟨_,rfl⟩,q⟩⟩)⟩
def cJ(m2:Bool)(f:cX)(lo hi:B7):cX:=fun E=>(f E).bind fun a=>if m2&&a.1.isBr then none else (lo a.2).bind fun b=>(hi b.2).bind fun c=>match look c.2 a.1 with
 |some (.list ds)=>if !hot c.2 a.1||bg (zu ds b.1 c.1)then some (.ow (zu ds b.1 c.1),c.2)else none
 |some (.str z)=>if z.length≤1000000 then some (.sh (.str (Txt.slice z b.1 c.1)),c.2)else none
 |_=>none
theorem eR{X:Cx}{e:Expr}{lo hi:Option Expr}{m1 m2 m3:Bool}{f:cX}{g h:B7}{pos p2:Pos}(he:EX X e m1 f)(hl:OX X lo m2 g)(hh:OX X hi m3 h):EX X (.Subscript e (.Slice lo hi none p2) pos) (m1||(m2||m3)) (cJ (m2||m3) f g h):=by
 refine bY (wn (SlR.or zb Cf) he hl hh) fun σ H Q z=>?_
 obtain⟨B,E,xs,Xs,res,E',fr,cl,e,q⟩:=z
 obtain⟨⟨s,E1⟩,e1,e⟩:=Option.bind_eq_some_iff.mp e
 by_cases hb:((m2||m3)&&s.isBr)=true
 ·rw[if_pos hb]at e;cases e
 rw[if_neg hb]at e
 have n1:(m2||m3)=true→s.isBr=false:=fun z=>by
  cases hs:s.isBr with
  |false=>rfl
  |true=>exact absurd (by rw[z,hs];rfl) hb
 obtain⟨⟨l,E2⟩,e2,e⟩:=Option.bind_eq_some_iff.mp e
 obtain⟨⟨u,E3⟩,e3,e⟩:=Option.bind_eq_some_iff.mp e
 refine⟨B,E,xs,Xs,s,E1,fr,fun z=>cl (by simp[z]),e1,fun v1 H1 fr1=>?_⟩
 refine⟨B,E1,v1::xs,s::Xs,l,E2,fr1,fun z=>Calm.cons (cl (by simp[z])) (n1 (by simp[z])),e2,fun H2 fr2=>?_⟩
 refine⟨B,E2,v1::xs,s::Xs,u,E3,fr2,fun z=>Calm.cons (cl (by simp[z])) (n1 (by simp[z])),e3,fun H3 ⟨F,A,fr3⟩=>?_⟩
 simp only at e
 split at e
 ·rename_i ds ld
  split at e
  ·rename_i hc
   cases e
   obtain⟨v,ev,r,f0⟩:=fr3.look (k:=0) rfl ld
   cases ev
   obtain⟨A',fr4⟩:=fr3.pop
   cases hh:hot E' s with
   |false=>
    obtain⟨a,vs,rfl,h1,h2⟩:=f0 hh
    exact .inl ⟨a,vs,rfl,h1,fun p hp=>q _ _ ⟨F,_,fr4.newl (h2.cut l u) hp⟩⟩
   |true=>
    rw[hh]at hc
    cases r with
    |lst h1 h2=>exact .inl ⟨_,_,rfl,h1,fun p hp=>q _ _ ⟨F,_,fr4.newl (fr3.coldA (h2.cut l u) (by simpa using hc)) hp⟩⟩
  ·cases e
 ·rename_i z ld
  split at e
  ·rename_i hc
   cases e
   have r:=(fr3.look0 ld).1
   cases r
   obtain⟨A',fr4⟩:=fr3.pop
   exact .inr ⟨_,rfl,hO hc,q _ _ ⟨F,A',fr4.push ⟨rfl,_,rfl,.str _⟩⟩⟩
  ·cases e
 ·cases e
def mK(i:Nat)(f:cX):cX:=fun E=>match E[i]? with
 |some (.ow _)=>(f E).bind fun a=>match a.1,a.2[i]? with
  |.ow es,some (.ow ds)=>if ds.length+es.length≤1000000 then some (.sh .none,a.2.set i (.ow (ds++es)))else none
  |_,_=>none
 |_=>none
section
variable {X:Cx} {e:Expr} {m1:Bool} {f:cX} {x:Str} {p apos cpos:Pos}
theorem vh (i:Nat) (he:EX X e m1 f) (hN:X.N[i]? =some x:=by rfl) (hv:AG X.env.scope x:=by first |exact Or.inl rfl |exact Or.inr (Or.inl rfl) |exact Or.inr (Or.inr rfl)) (hd:(x == ("__debug__":Str))=false:=by decide) (hcd:(x == ("__classdict__":Str))=false:=by decide)
  (hs:starEach [e] X.env=[(false,eval e X.env)]:=by rfl) (hbase:attributeBase (.Name x p) "extend" X.env (eval (.Name x p) X.env)=eval (.Name x p) X.env:=by rfl)
  (hfew:((backTo cpos (starEach [e] X.env)).all (fun x=> !x.1)&&(backToKw cpos (keywordEach [] X.env)).all (fun x=>x.1.isSome)
   &&decide (([e]:List Expr).length+([]:List Keyword).length+(if ([]:List Keyword).isEmpty then 0 else 1) < 30))=true:=by rfl) (hline:(apos.endLine == cpos.line)=true:=by rfl):
  EX X (.Call (.Attribute (.Name x p) "extend" apos) [e] [] cpos) true (mK i f):=by
 refine bY (tU PySem.F.plainAttrs_list PySem.F.slot_list_extend PySem.F.type_list_extend uY (lL hN hv hd hcd) (c_ he fi hs) hbase hfew hline hs rfl) fun σ H Q z=>?_
 obtain⟨B,E,xs,Xs,res,E',⟨F,A,fr⟩,cl,e,q⟩:=z
 unfold mK at e
 split at e
 ·rename_i ds0 ei
  obtain⟨⟨s,E1⟩,e1,e⟩:=Option.bind_eq_some_iff.mp e
  simp only at e
  split at e
  ·rename_i s1 es ds ei2
   split at e
   ·rename_i hc
    cases e
    obtain⟨o,A1,eo,l,vs,rfl,rfl,hl0,_⟩:=fr.var ei
    refine⟨_,eo,.inl ⟨rfl,_,SqL.of hl0⟩,B,E,xs,Xs,_,E1,⟨F,A,fr⟩,fun _=>cl rfl,e1,fun v H1 ⟨F1,A1,fr1⟩=>?_⟩
    obtain⟨v',A3,ev,l2,us,el,rfl,hl2,ru⟩:=fr1.ext (k:=0) rfl
    cases ev;cases el
    obtain⟨A4,fr3⟩:=fr1.pop
    obtain⟨l',vs',eo',hl',r',put⟩:=fr3.mut ei2 (cl rfl)
    rw[eo]at eo'
    cases eo'
    have n1:=r'.len
    have n2:=ru.len
    have fr4:=put (vs'++us) (ds++es) (r'.append ru)
    exact⟨l,l2,vs',us,rfl,rfl,hl',hl2,hO (by omega),q _ _ ⟨_,_,fr4.push ⟨rfl,_,rfl,.non⟩⟩⟩
   ·cases e
  ·cases e
 ·cases e
end
structure Bn (mg:Str→Option Value):Prop where
 len:mg "len"=none
 range:mg "range"=none
 abs:mg "abs"=none
 min:mg "min"=none
 max:mg "max"=none
 reversed:mg "reversed"=none
 enumerate:mg "enumerate"=none
 isinstance:mg "isinstance"=none
 list:mg "list"=none
 tuple:mg "tuple"=none
 str:mg "str"=none
 int:mg "int"=none
 bool:mg "bool"=none
 sorted:mg "sorted"=none
 zip:mg "zip"=none
 sum:mg "sum"=none
 any:mg "any"=none
 all:mg "all"=none
 set:mg "set"=none
 dict:mg "dict"=none
theorem DZ{K:PySem.W.Frag}{h:Heap}{mg:Str→Option Value}(X:K.In h)(G:h.Ns mainGlobals mg)
  (z1:PySem.W.nsIn K mainGlobals "len"=some none) (z2:PySem.W.nsIn K mainGlobals "range"=some none) (z3:PySem.W.nsIn K mainGlobals "abs"=some none) (z4:PySem.W.nsIn K mainGlobals "min"=some none) (z5:PySem.W.nsIn K mainGlobals "max"=some none) (z6:PySem.W.nsIn K mainGlobals "reversed"=some none) (z7:PySem.W.nsIn K mainGlobals "enumerate"=some none) (z8:PySem.W.nsIn K mainGlobals "isinstance"=some none) (z9:PySem.W.nsIn K mainGlobals "list"=some none) (z10:PySem.W.nsIn K mainGlobals "tuple"=some none) (z11:PySem.W.nsIn K mainGlobals "str"=some none) (z12:PySem.W.nsIn K mainGlobals "int"=some none) (z13:PySem.W.nsIn K mainGlobals "bool"=some none) (z14:PySem.W.nsIn K mainGlobals "sorted"=some none) (z15:PySem.W.nsIn K mainGlobals "zip"=some none) (z16:PySem.W.nsIn K mainGlobals "sum"=some none) (z17:PySem.W.nsIn K mainGlobals "any"=some none) (z18:PySem.W.nsIn K mainGlobals "all"=some none) (z19:PySem.W.nsIn K mainGlobals "set"=some none) (z20:PySem.W.nsIn K mainGlobals "dict"=some none):Bn mg:=
 ⟨PySem.W.mg_none_of X G z1,PySem.W.mg_none_of X G z2,PySem.W.mg_none_of X G z3,PySem.W.mg_none_of X G z4,PySem.W.mg_none_of X G z5,PySem.W.mg_none_of X G z6,PySem.W.mg_none_of X G z7,PySem.W.mg_none_of X G z8,PySem.W.mg_none_of X G z9,PySem.W.mg_none_of X G z10,PySem.W.mg_none_of X G z11,PySem.W.mg_none_of X G z12,PySem.W.mg_none_of X G z13,PySem.W.mg_none_of X G z14,PySem.W.mg_none_of X G z15,PySem.W.mg_none_of X G z16,PySem.W.mg_none_of X G z17,PySem.W.mg_none_of X G z18,PySem.W.mg_none_of X G z19,PySem.W.mg_none_of X G z20⟩
end PL
namespace PL
open PySem L2 Nh
abbrev GQ:=List Sl→Option (List Sl×Bool)
end PL
namespace PL
open PySem L2 Nh
def sK:Pt→Sl
 |.fl d=>.sh d
 |.ol ds=>.ow ds
section
variable {K:PySem.W.Frag} {F H:Hp}
theorem PtsOk.append:∀{us:List V} {ts:List Pt} {A:List Addr} {us':List V} {ts':List Pt} {A':List Addr},PtsOk K F H us ts A→PtsOk K F H us' ts' A'→PtsOk K F H (us++us') (ts++ts') (A++A')
 |[],[],A,_,_,_,h,h'=>by rw[show A=[]from h];exact h'
 |v::vs,.fl d::ps,A,_,_,_,h,h'=>⟨h.1,PtsOk.append h.2 h'⟩
 |v::vs,.ol ds::ps,A,_,_,_,h,h'=>by
  obtain⟨l,us,A1,rfl,rfl,hl,hr,q⟩:=h
  exact⟨l,us,_,rfl,rfl,hl,hr,q.append h'⟩
 |[],_::_,_,_,_,_,h,_=>False.elim h
 |_::_,[],_,_,_,_,h,_=>False.elim h
theorem PtsOk.rev:∀{us:List V} {ts:List Pt} {A:List Addr},PtsOk K F H us ts A→PtsOk K F H us.reverse ts.reverse A.reverse
 |[],[],A,h=>by rw[show A=[]from h];exact rfl
 |v::vs,.fl d::ps,A,h=>by
  rw[List.reverse_cons,List.reverse_cons,←List.append_nil A.reverse]
  exact(PtsOk.rev h.2).append (us':=[v]) (ts':=[.fl d]) (A':=[]) ⟨h.1,rfl⟩
 |v::vs,.ol ds::ps,A,h=>by
  obtain⟨l,us,A1,rfl,rfl,hl,hr,q⟩:=h
  rw[List.reverse_cons,List.reverse_cons,List.reverse_cons]
  exact q.rev.append (us':=[.ref l]) (ts':=[.ol ds]) (A':=[l]) ⟨l,us,[],rfl,rfl,hl,hr,rfl⟩
 |[],_::_,_,h=>False.elim h
 |_::_,[],_,h=>False.elim h
theorem PtsOk.len:∀{us:List V} {ts:List Pt} {A:List Addr},PtsOk K F H us ts A→us.length=ts.length
 |[],[],A,_=>rfl
 |v::vs,.fl d::ps,A,h=>congrArg (· +1) h.2.len
 |v::vs,.ol ds::ps,A,h=>by
  obtain⟨l,us,A1,rfl,rfl,hl,hr,q⟩:=h
  exact congrArg (· +1) q.len
 |[],_::_,_,h=>False.elim h
 |_::_,[],_,h=>False.elim h
end
section
variable {K:PySem.W.Frag} {B F:Hp} {A:List Addr} {σ:lK} {H:Hp} {E:List Sl} {xs:List V} {Xs:List Sl}
theorem xb:∀{us:List V} {ts:List Pt} {os:List (Option V)} {ss:List Sl} {A:List Addr},us.length=ts.length→SAll (SlOk K F H σ) (us.map some++os) (ts.map sK++ss) A→∃A1 A2,A=A1++A2∧PtsOk K F H us ts A1∧SAll (SlOk K F H σ) os ss A2
 |[],[],os,ss,A,_,h=>⟨[],A,rfl,rfl,h⟩
 |u::us,t::ts,os,ss,A,hl,h=>by
  have h':SAll (SlOk K F H σ) (some u::(us.map some++os)) (sK t::(ts.map sK++ss)) A:=h
  cases h' with
  |cons q r=>
   obtain⟨A1,A2,rfl,hp,hs⟩:=xb (by simpa using hl) r
   cases t with
   |fl d=>
    obtain⟨rfl,w,ew,rw'⟩:=q
    cases ew
    exact⟨A1,A2,rfl,⟨rw',hp⟩,hs⟩
   |ol ds=>
    obtain⟨l,vs,el,rfl,hl',r'⟩:=q
    cases el
    exact⟨l::A1,A2,rfl,⟨l,vs,A1,rfl,rfl,hl',r',hp⟩,hs⟩
 |[],_::_,_,_,_,e,_=>by cases e
 |_::_,[],_,_,_,e,_=>by cases e
theorem FrF.newx{p:Addr}{vs:List V}{ps:List Pt}(hl:vs.length=ps.length)(h:FrF K B F A σ H E (vs.reverse++xs) (ps.reverse.map sK++Xs))(hp:H p=none):Frm K B σ (upd H p (.tup vs)) E (.ref p::xs) (.tx ps::Xs):=by
 have nA:=h.newA hp
 have sl:=h.sl
 rw[List.map_append,List.append_assoc,List.append_assoc]at sl
 obtain⟨A1,A2,rfl,hpt,hs⟩:=xb (by simpa using hl) sl
 have g:Same H (upd H p (.tup vs)):=hM hp _
 have gF:Same F (upd F p (.tup vs)):=hM (h.fh.free hp) _
 have hr:=hpt.rev
 rw[List.reverse_reverse,List.reverse_reverse]at hr
 have n1:∀b∈A1,b≠p:=fun b hb z=>nA (by rw[←z];exact List.mem_append_left _ hb)
 have n2:∀b∈A2,b≠p:=fun b hb z=>nA (by rw[←z];exact List.mem_append_right _ hb)
 refine⟨upd F p (.tup vs),A1.reverse++A2,h.bf.trans gF,fun b o e=>?_,fun b o e=>?_,.cons ⟨p,vs,rfl,upd_same,hr.stay gF fun b hb=>aC (n1 b (List.mem_reverse.mp hb))⟩ (hs.mono fun o s C _ hC q=>q.stay gF (fun b hb=>aC (n2 b (hC b hb))) fun _=>g),?_,fun a ha=>?_,?_,h.pl⟩
 ·by_cases hb:b=p
  ·subst hb;rw[upd_same]at e ⊢;exact e
  ·rw[aC hb]at e ⊢;exact h.fh _ _ e
 ·obtain⟨e1,e2⟩:=Option.filter_eq_some_iff.mp e
  by_cases hb:b=p
  ·subst hb;rw[upd_same]at e1 ⊢;exact e1
  ·rw[aC hb]at e1 ⊢;exact h.tf b o (gc e1 e2)
 ·exact(List.Perm.append_right _ (List.reverse_perm A1)).nodup_iff.mpr h.nd
 ·have ne:a≠p:=(List.mem_append.mp ha).elim (fun z=>n1 a (List.mem_reverse.mp z)) (n2 a)
  rw[aC ne]
  exact h.fr a ((List.mem_append.mp ha).elim (fun z=>List.mem_append_left _ (List.mem_reverse.mp z)) (fun z=>List.mem_append_right _ z))
 ·have:=h.len
  simp only[List.length_append,List.length_reverse,List.length_map]at this
  simp only[List.length_cons]
  omega
end
def takeP(E:List Sl):Sl→Option (Pt×List Sl)
 |.sh d=>some (.fl d,E)
 |.ow ds=>some (.ol ds,E)
 |.br d=>if aJ d then some (.fl d,E)else none
 |.al i=>match E[i]? with
  |some (.ow ds)=>some (.ol ds,E.set i .no)
  |some (.sh d)=>some (.fl d,E)
  |_=>none
 |_=>none
abbrev Cg:=List Sl→Option (List Pt×List Sl)
def GH(K:PySem.W.Frag)(m:Bool)(f:Cg):TA:=fun σ H Q=>∃B E xs Xs ps E',Frm K B σ H E xs Xs∧(m=true→Calm Xs)∧f E=some (ps,E')∧∀vs H',vs.length=ps.length→Frm K B σ H' E' (vs.reverse++xs) (ps.reverse.map sK++Xs)→Q vs H'
def MX(X:Cx)(es:List Expr)(m:Bool)(f:Cg):Prop:=PA X es (GH X.K m f)
def hV:Cg:=fun E=>some ([],E)
def de(f:cX)(g:Cg):Cg:=fun E=>(f E).bind fun a=>(takeP a.2 a.1).bind fun b=>(g b.2).map fun c=>(b.1::c.1,c.2)
def ef(f:Cg):cX:=fun E=>(f E).bind fun a=>if a.1.length≤1000000 then some (.tx a.1,a.2)else none
section
variable {X:Cx} {e:Expr} {es:List Expr} {m1 m2:Bool} {f:cX} {g:Cg} {pos:Pos} {K:PySem.W.Frag}
theorem FrF.takeP{B F:Hp}{A:List Addr}{σ:lK}{H:Hp}{E E':List Sl}{xs:List V}{Xs:List Sl}{v:V}{s:Sl}{p:Pt}(h:FrF K B F A σ H E (v::xs) (s::Xs))(q:PL.takeP E s=some (p,E')):Frm K B σ H E' (v::xs) (sK p::Xs):=by
 cases s with
 |sh d=>cases q;exact⟨F,A,h⟩
 |ow ds=>cases q;exact⟨F,A,h⟩
 |br d=>
  simp only[PL.takeP]at q
  split at q
  ·rename_i hf
   cases q
   have r:=(h.look0 (d:=d) rfl).1
   obtain⟨A',h'⟩:=h.pop
   exact⟨F,A',h'.push ⟨rfl,v,rfl,h.cold r hf⟩⟩
  ·cases q
 |al i=>
  simp only[PL.takeP]at q
  split at q
  ·rename_i ds ei
   cases q
   exact h.move ei
  ·rename_i d ei
   cases q
   obtain⟨v',A1,ev,rfl,w,ew,hw⟩:=h.ext (k:=0) rfl
   cases ev;cases ew
   obtain⟨o,A2,eo,rfl,w,ew,r⟩:=h.var ei
   rw[hw]at eo
   cases eo
   cases ew
   obtain⟨A',h'⟩:=h.pop
   exact⟨F,A',h'.push ⟨rfl,_,rfl,r⟩⟩
  ·cases q
 |no=>cases q
 |od kvs=>cases q
 |tx ps=>cases q
theorem kC:MX X [] false hV:=by
 refine lR fi fun σ H Q z=>?_
 obtain⟨B,E,xs,Xs,res,E',fr,cl,e,q⟩:=z
 cases e
 exact q [] H rfl fr
theorem dS(ha:EX X e m1 f)(hr:MX X es m2 g)(hs:starEach (e::es) X.env=(false,eval e X.env)::starEach es X.env:=by rfl):MX X (e::es) (m1||m2) (de f g):=by
 refine lR (c_ ha hr hs) fun σ H Q z=>?_
 obtain⟨B,E,xs,Xs,res,E',fr,cl,e,q⟩:=z
 obtain⟨⟨s,E1⟩,e1,e⟩:=Option.bind_eq_some_iff.mp e
 obtain⟨⟨p,E2⟩,e2,e⟩:=Option.bind_eq_some_iff.mp e
 obtain⟨⟨rs,E3⟩,e3,e⟩:=Option.map_eq_some_iff.mp e
 cases e
 refine⟨B,E,xs,Xs,s,E1,fr,fun z=>cl (by simp[z]),e1,fun v1 H1 ⟨F,A,fr1⟩=>?_⟩
 refine⟨B,E2,v1::xs,sK p::Xs,rs,E3,fr1.takeP e2,fun z=>Calm.cons (cl (by simp[z])) (by cases p <;> rfl),e3,fun vs H2 hl fr2=>?_⟩
 exact q (v1::vs) H2 (by simp[hl]) (by simpa using fr2)
theorem i5{x1}(h:MX X es m1 g):EX X (.Tuple es x1 pos) m1 (ef g):=by
 refine bY (wj h) fun σ H Q z=>?_
 obtain⟨B,E,xs,Xs,res,E',fr,cl,e,q⟩:=z
 obtain⟨⟨ps,E1⟩,e1,e⟩:=Option.bind_eq_some_iff.mp e
 simp only at e
 split at e
 ·rename_i hl
  cases e
  refine⟨B,E,xs,Xs,ps,_,fr,cl,e1,fun vs H1 hv ⟨F,A,fr1⟩=>?_⟩
  exact⟨hO (by omega),fun p hp=>q _ _ (fr1.newx hv hp)⟩
 ·cases e
end
def ke:Pt→Bool
 |.fl _=>true
 |_=>false
def ek(f:cX):cX:=fun E=>(f E).bind fun a=>match a.1 with
 |.tx ps=>if ps.all ke then some (.sh (.tuple (ps.map Pt.val)),a.2)else some a
 |_=>some a
theorem i6{X:Cx}{e:Expr}{m:Bool}{f:cX}(h:EX X e m f):EX X e m (ek f):=by
 refine bY h fun σ H Q z=>?_
 obtain⟨B,E,xs,Xs,res,E',fr,cl,e,q⟩:=z
 obtain⟨⟨s,E1⟩,e1,e⟩:=Option.bind_eq_some_iff.mp e
 refine⟨B,E,xs,Xs,s,E1,fr,cl,e1,fun v H1 fr1=>?_⟩
 simp only at e
 split at e
 ·split at e
  ·cases e
   obtain⟨F,A,fr1⟩:=fr1
   obtain⟨F2,A2,fr2⟩:=fr1.frz0 (d:=.tuple _) rfl
   exact q _ _ ⟨F2,A2,fr2⟩
  ·cases e
   exact q _ _ fr1
 ·cases e
  exact q _ _ fr1
end PL
namespace PL
open PySem PySem.Spec L2 Nh PyProof.Rows
def GJ(i:Int):Prop:= -1000000≤i∧i≤1000000
instance (i:Int):Decidable (GJ i):=inferInstanceAs (Decidable (_∧_))
end PL
namespace PL
open PySem L2 Nh
theorem jG{P:Program}{w:World}{K:PySem.W.Frag}{mg:Str→Option Value}{base:Heap}{x:Str}{st:Stmt}{N ps:List Str}{k:Nat}(D:Def K mg x st ps)(S:FnScope N ps (au st)):Own P w K mg base (k+1) x ps (bQ K fun _=>none):=by
 refine D.own S (fun vs H Q E h=>?_) (fun f cdv A outer s H vs Q E hr h=>?_)
 ·obtain⟨ds,r,e,_⟩:=h
  cases e
 ·obtain⟨ds,r,e,_⟩:=h
  cases e
end PL
namespace PL
open PySem L2 Nh
def lg:List PyData→Option (List Bool)
 |[]=>some []
 |.bool b::ds=>(lg ds).map (b:: ·)
 |_=>none
theorem qW{K:PySem.W.Frag}{H:Hp}:∀{vs:List V} {ds:List PyData} {bs:List Bool},RpA K H vs ds→lg ds=some bs→vs=bs.map V.bl
 |_,_,bs,.nil,e=>by cases e;rfl
 |_,_,bs,.cons (d:=d) h t,e=>by
  cases d <;> simp[lg]at e
  obtain⟨cs,e,rfl⟩:=e
  cases h
  rw[qW t e]
  rfl
section
variable {X:Cx} {e:Expr} {es:List Expr} {m1:Bool} {g:m8} {p pos:Pos}
def Ch(K:PySem.W.Frag):List V→Hp→VK→Prop:=fun xs H Q=>∃(p:Addr) (ns:List Int),xs=[.ref p]∧SqL K H p (ns.map V.int)∧Q (.int ns.sum) H
theorem iL:∀{ns:List Int} {us:List Value},Vals (ns.map V.int) us→us.length=ns.length∧∀(i:Nat) (v:Value),us[i]? =some v→∃t,v=Value.int (ns.getD i 0) t
 |[],_,.nil=>⟨rfl,fun i v h=>by simp at h⟩
 |n::ns,_,.cons h t=>by
  obtain⟨tk,rfl⟩:=h
  obtain⟨h1,h2⟩:=iL t
  refine⟨by simp[h1],fun i v h=>?_⟩
  cases i with
  |zero=>simp at h;subst h;exact⟨tk,rfl⟩
  |succ i=>simpa using h2 i v (by simpa using h)
theorem mr(ns:List Int):∀k,k≤ns.length→preSum (fun i=>ns.getD i 0) k=(ns.take k).sum
 | 0,_=>by simp[preSum]
 |k+1,h=>by
  have hk:k < ns.length:=by omega
  rw[preSum,mr ns k (by omega),List.take_add_one,List.getElem?_eq_getElem hk,List.sum_append]
  simp[List.getD_eq_getElem?_getD,hk]
theorem vi(hc:X.calm=true):CallR X (.builtin "sum") (Ch X.K):=by
 intro pins s σ H xs us Q I r h
 obtain⟨a,ns,rfl,hq,q⟩:=h
 cases r with
 |cons r rr=>
  cases rr
  cases r
  obtain⟨its,rv,pl,hz⟩:=I.list hq
  obtain⟨hl,hv⟩:=iL rv
  obtain⟨o,n,eo,_⟩:=id pl
  have hlt:a < s.heap.objs.size:=Heap.lt_size eo
  refine call_sum_walkG (wpAny_pyIter_list pl.isList ?_)
  refine⟨s.heap.objs.size,_,_,_,_,_,fun i=>ns.getD i 0,rfl,Walks.list (A:=X.A.in1) (I.ok.hd hc) s.heap.objs.size a (Nat.ne_of_lt hlt) its.toArray,?_,?_,?_,?_⟩
  ·exact⟨⟨_,Heap.get?_push_size _ rfl,rfl,rfl⟩,pl.isList.at fun o e=>Heap.get?_push_of_some _ e⟩
  ·intro b hb
   have hsz:∀o,(s.heap.push o).objs.size=s.heap.objs.size+1:=fun o=>by simp[Heap.push]
   show b < (s.heap.push _).objs.size
   rw[hsz]
   rcases List.mem_cons.mp hb with rfl |hb
   ·exact Nat.lt_succ_self _
   ·have:b=a:=by simpa using hb
    subst this
    exact Nat.lt_succ_of_lt hlt
  ·intro i v h
   exact hv i v (by simpa using h)
  ·intro h' tk t' hk
   refine⟨.int _,H,I.kept (t':=tk) fun b o e=>hk b o (fun z=>?_) (Heap.get?_push_of_some _ e),⟨t',rfl⟩,?_⟩
   ·have:b=s.heap.objs.size:=by simpa using z
    exact Nat.lt_irrefl _ (this▸Heap.lt_size e)
   ·rw[show its.toArray.size=ns.length by simpa using hl,mr ns _ (Nat.le_refl _),List.take_length]
    exact q
end
end PL
namespace PL
open PySem L2 Nh
def ug:PyData→PyData→Option PyData
 |.str a,.int k=>if a.length≤1000∧ -1000≤k∧k≤1000 then some (.str (Txt.mul a k))else none
 |_,_=>none
def xc:P2:=bz ug
def AY:R2:=fun x y H Q=>∃a k,x=.str a∧y=.int k∧a.length≤1000∧ -1000≤k∧k≤1000∧Q (.str (Txt.mul a k)) H
theorem xf{a:Str}{k:Int}(h1:a.length≤1000)(h2:k≤1000):(Txt.mul a k).length≤sizeLine:=by
 have e:=PyProof.Rows.len_mul a k
 rw[sizeLine_eq]
 by_cases n:k < 0
 ·simp only[n,decide_true,if_true,Int.mul_zero]at e
  omega
 ·simp only[n,decide_false,Bool.false_eq_true,if_false]at e
  have:(a.length:Int)*k≤1000*1000:=Int.mul_le_mul (by omega) h2 (by omega) (by omega)
  omega
theorem zB{X:Cx}:OpR X (binaryOp .Mult) AY:=by
 intro pins s σ H x y v u Q I rx ry h
 obtain⟨a,k,rfl,rfl,h1,h2,h3,q⟩:=h
 obtain⟨t,rfl⟩:=rx
 obtain⟨u,rfl⟩:=ry
 obtain⟨o1,o2,o3⟩:=PyProof.Rows.mulOk_of (x:=a) (n:=k) 1000 1000 h1 h3 (by omega) (by decide) (by decide)
 refine P.mul_str o1 o2 o3 ?_
 have hz:=xf h1 h3
 unfold Txt.mul at hz q
 by_cases c1:k < 1
 ·rw[if_pos c1]at hz q ⊢
  exact⟨hz,.str _,H,I.tok _,⟨_,rfl⟩,q⟩
 ·rw[if_neg c1]at hz q ⊢
  by_cases c2:(k == 1||a.length == 0)=true
  ·rw[if_pos c2]at hz q ⊢
   exact⟨.str _,H,I,⟨_,rfl⟩,q⟩
  ·rw[if_neg c2]at hz q ⊢
   exact⟨hz,.str _,H,I.tok _,⟨_,rfl⟩,q⟩
section
variable {X:Cx} {K:PySem.W.Frag} {a b:Expr} {m1 m2:Bool} {f g:cX} {pos:Pos}
theorem xg:nh K AY ug:=fun d1 d2 d v1 v2 H Q e r1 r2=>by
 unfold ug at e
 split at e
 ·split at e
  ·rename_i hc
   cases e;cases r1;cases r2
   exact⟨_,rfl,fun q=>⟨_,_,rfl,rfl,hc.1,hc.2.1,hc.2.2,q⟩⟩
  ·cases e
 ·cases e
theorem zC(ha:EX X a m1 f)(hb:EX X b m2 g):EX X (.BinOp a .Mult b pos) (m1||m2) (ag xc m2 f g):=oW zB (fX xg) ha hb
end
end PL
namespace PL
open PySem L2 Nh
theorem lh {X:Cx} {x:Str} {i:Int} {t:Tok} {pos:Pos} (hg:Gl X x) (hm:X.mg x=some (.int i t)) (hd:(x == ("__debug__":Str))=false:=by decide):EX X (.Name x pos) false (pC (.int i)):=by
 refine bY (tM (v:=.int i) hg hm ⟨t,rfl⟩ hd) fun σ H Q z=>?_
 obtain⟨B,E,xs,Xs,res,E',⟨F,A,fr⟩,cl,e,q⟩:=z
 cases e
 exact q _ _ ⟨F,A,fr.push ⟨rfl,_,rfl,.int _⟩⟩
end PL
namespace Nh
open PySem L2
theorem NailsOk.stp{r:List Pc}{p:Pc}(h:NailsOk r)(hp:p.1 < 128):NailsOk (NH.stp r p):=by
 cases r with
 |nil=>
  show NailsOk (if p.2=0 then []else [p])
  split
  ·exact h
  ·intro q hq;rw[List.mem_singleton.mp hq];exact hp
 |cons x r=>
  rw[NH.kT]
  intro q hq
  rcases List.mem_append.mp hq with h1 |h1
  ·unfold NH.AM at h1
   split at h1
   ·split at h1
    ·cases h1
    ·rw[List.mem_singleton.mp h1];exact hp
   ·split at h1
    ·rw[List.mem_singleton.mp h1];exact h x (List.mem_cons_self ..)
    ·rcases List.mem_cons.mp h1 with h2 |h2
     ·rw[h2];exact hp
     ·rw[List.mem_singleton.mp h2];exact h x (List.mem_cons_self ..)
  ·exact h q (List.mem_cons_of_mem _ h1)
theorem NailsOk.foldl:∀(c:List Pc) {r:List Pc},NailsOk r→NailsOk c→NailsOk (c.foldl NH.stp r)
 |[],_,h,_=>h
 |p::c,_,h,hc=>NailsOk.foldl c (h.stp (hc p (List.mem_cons_self ..))) fun q hq=>hc q (List.mem_cons_of_mem _ hq)
theorem NailsOk.take{c:List Pc}(h:NailsOk c)(i:Nat):NailsOk (c.take i):=fun p hp=>h p (List.mem_of_mem_take hp)
theorem NailsOk.drop{c:List Pc}(h:NailsOk c)(i:Nat):NailsOk (c.drop i):=fun p hp=>h p (List.mem_of_mem_drop hp)
theorem NailsOk.reverse{c:List Pc}(h:NailsOk c):NailsOk c.reverse:=fun p hp=>h p (List.mem_reverse.mp hp)
theorem NailsOk.append{c d:List Pc}(h:NailsOk c)(h':NailsOk d):NailsOk (c++d):=fun p hp=>(List.mem_append.mp hp).elim (h p) (h' p)
theorem NailsOk.contr{c:List Pc}(h:NailsOk c):NailsOk (NH.contr c):=fun p hp=>by
 obtain⟨q,hq,e⟩:=List.mem_map.mp hp
 subst e
 exact h q (List.mem_reverse.mp hq)
end Nh
namespace Nh
open PySem L2 PL
theorem NailsOk.rep{c:List Pc}(h:NailsOk c)(k:Nat):NailsOk (List.replicate k c).flatten:=fun p hp=>by
 obtain⟨l,hl,hpl⟩:=List.mem_flatten.mp hp
 rw[(List.mem_replicate.mp hl).2]at hpl
 exact h p hpl
def l4(i:Int):Nat:=[97,98,99,122].getD i.toNat 97
theorem AZ:∀j,j < 26→(Str.ofString "abcdefghijklmnopqrstuvwxyz").cps.toList[j]? =some (97+j):=by decide+kernel
theorem zD{i j:Int}(h1: -(2 ^ 64) < j)(h2:j < 2 ^ 64):dA i j=true:=by
 simp only[dA,Bool.or_eq_true,decide_eq_true_eq]
 exact .inl (.inr ⟨h1,h2⟩)
theorem gG{i j:Int}(h1: -(2 ^ 64) < i)(h2:i < 2 ^ 64):dA i j=true:=by
 simp only[dA,Bool.or_eq_true,decide_eq_true_eq]
 exact .inl (.inl ⟨h1,h2⟩)
theorem aQ(i j:Int):sx (.int i) (.int j)=some (decide (i=j)):=rfl
theorem bL(i j:Str):sx (.str i) (.str j)=some (decide (i=j)):=rfl
theorem pT(a b:Nat):((⟨#[a]⟩:Str)=⟨#[b]⟩)=(a=b):=propext ⟨fun h=>by
 injection h with h
 simpa using congrArg Array.toList h,fun h=>by rw[h]⟩
end Nh
namespace L2
open PySem PySem.Spec PyProof.Rows
def uh(K:PySem.W.Frag)(h:Heap):Prop:=∀b q,mR K b=some q→h.get? b=some (PySem.W.tabObj #[])∧(∃c,PySem.W.CodeHd h c b)∧K.lookup b=none
def dP(K:PySem.W.Frag)(a:Addr)(so:Option HO):Hp:=fun b=>match mR K b with
 |some q=>some (.tbl q)
 |none=>if b=a then so else none
theorem sL{K:PySem.W.Frag}{a b:Addr}{so:Option HO}{q:Str}(e:mR K b=some q):dP K a so b=some (.tbl q):=by unfold dP;rw[e]
theorem vj{K:PySem.W.Frag}{a:Addr}{so:Option HO}(e:mR K a=none):dP K a so a=so:=by unfold dP;rw[e];exact if_pos rfl
theorem gu{K:PySem.W.Frag}{a b:Addr}{so:Option HO}{u:HO}(e:dP K a so b=some u):(∃q,mR K b=some q∧u=.tbl q)∨(b=a∧so=some u):=by
 unfold dP at e
 split at e
 ·rename_i q h;cases e;exact .inl ⟨q,h,rfl⟩
 ·by_cases hb:b=a
  ·rw[if_pos hb]at e;exact .inr ⟨hb,e⟩
  ·rw[if_neg hb]at e;cases e
section
variable {P:Program} {w:World} {K:PySem.W.Frag} {mg mb:Str→Option Value} {CX:uW} {k:Nat} {fa a:Addr} {fd:FuncData} {x:Str} {sp:Sp} {s₁:Shared} {vs:List Value} {ns:List Int}
theorem zE (KX:K.In s₁.heap) (hns:s₁.heap.Ns mainGlobals mg) (hb:s₁.heap.Ns builtinsNs mb) (hbb:∀x:Str,x≠"__name__"→mb x=bootBuiltins x) (hlim:s₁.heap.NoLimit) (hg:s₁.gens=#[]) (hbm:∃bm ob,mg "__builtins__"=some (.ref bm)∧bm≠builtinsNs∧s₁.heap.get? bm=some ob∧ob.cls=.type "module"∧ob.dict=some builtinsNs∧ob.data=.plain) (hT:uh K s₁.heap)
  (ha:s₁.heap.get? a=some {cls:=.type "list",data:=.seq vs.toArray}) (hi:IntsAre vs ns) (hl:ns.length≤sizeLine) (hr:Room k callerA)
  (F:∀base:Heap,K.In base→base.Ns mainGlobals mg→FnOk P w K mg base CX k fa fd [x] sp) (hbind:∀(s:Shared) (u:Value),BindsTo s fd ⟨[u],[]⟩ [(x,u)])
  (hsp:∀H:Hp,SqL K H a (ns.map V.int)→sp [.ref a] H (fun v _=>v=.bl true) fun _ _ _=>False)
  (hCX:∀H e s',CX [] H s₁ (fun _ _ _=>False) e s'→False):
  codeAny (model P w) callerA (.call (.ref fa) ⟨[.ref a],[]⟩) (fun r s'=>r=.ok (.ret (.bool true))∧OldK s₁.heap s'.heap∧s'.os=s₁.os∧AllBare s'.gens) s₁:=by
 have rv:=iL hi
 have lenV:=hi.length
 have tabA:mR K a=none:=by
  cases q:mR K a with
  |none=>rfl
  |some z=>
   have e:=(hT a z q).1
   rw[ha]at e
   cases e
 have main:∀so:Option HO,(so=none∨(so=some (.frz {cls:=.type "list",data:=.seq vs.toArray} (.lst (ns.map V.int)))∧K.lookup a=none))→SqL K (dP K a so) a (ns.map V.int)→
   codeAny (model P w) callerA (.call (.ref fa) ⟨[.ref a],[]⟩) (fun r s'=>r=.ok (.ret (.bool true))∧OldK s₁.heap s'.heap∧s'.os=s₁.os∧AllBare s'.gens) s₁:=by
  intro so hso hS
  have hok:HOk P w (dP K a so) s₁.heap:=fun b u e=>by
   rcases gu e with⟨q,e1,rfl⟩ |⟨rfl,e1⟩
   ·exact ObjOk.tbl0 (hT b q e1).1
   ·rcases hso with z |⟨z,_⟩
    ·rw[z]at e1;cases e1
    ·rw[z]at e1;cases e1
     exact⟨ha,by rw[List.length_map];exact hl,vs,_,rv,ha⟩
  have free:∀{b:Addr} {o:Obj} {es:Array DictEntry} {ep:Nat},s₁.heap.get? b=some o→o.data=.dict es ep→dP K a so b=none:=fun {b o es ep} e d=>by
   cases q:dP K a so b with
   |none=>rfl
   |some u=>
    rcases gu q with⟨z,e1,_⟩ |⟨rfl,_⟩
    ·rw[(hT b z e1).1]at e;cases e;cases d
    ·rw[ha]at e;cases e;cases d
  have nsK:∀{b:Addr} {m:Str→Option Value},s₁.heap.Ns b m→(qx s₁.heap (dP K a so)).Ns b m:=fun {b m} ⟨o,es,ep,e,d,r⟩=>⟨o,es,ep,mQ e (free e d),d,r⟩
  have kin:K.In (qx s₁.heap (dP K a so)):=fun b o e=>mQ (KX b o e) (by
   cases q:dP K a so b with
   |none=>rfl
   |some u=>
    rcases gu q with⟨z,e1,_⟩ |⟨rfl,e1⟩
    ·rw[(hT b z e1).2.2]at e;cases e
    ·rcases hso with z |⟨_,z⟩
     ·rw[z]at e1;cases e1
     ·rw[z]at e;cases e)
  have bmK:∃bm ob,mg "__builtins__"=some (.ref bm)∧bm≠builtinsNs∧(qx s₁.heap (dP K a so)).get? bm=some ob∧ob.cls=.type "module"∧ob.dict=some builtinsNs∧ob.data=.plain:=by
   obtain⟨bm,ob,c1,c2,c3,c4,c5⟩:=hbm
   refine⟨bm,ob,c1,c2,mQ c3 ?_,c4,c5⟩
   cases q:dP K a so bm with
   |none=>rfl
   |some u=>
    rcases gu q with⟨z,e1,_⟩ |⟨rfl,_⟩
    ·rw[(hT bm z e1).1]at c3;cases c3;cases c4
    ·rw[ha]at c3
     cases c3
     injection c4 with c6
     exact absurd c6 (by decide)
  have e0:Env0 P w K mg (qx s₁.heap (dP K a so)) callerA [] s₁ (dP K a so):=
   ⟨rfl,⟨kin,nsK hns,⟨mb,nsK hb,hbb⟩,let ⟨mc,h1,h2⟩:=hlim;⟨mc,nsK h1,h2⟩,bmK⟩,fun b o e=>yI e,Nat.le_of_eq (uM _ _),trivial,fun b hb=>absurd (show b∈([]:List Addr)from hb) (by simp),hok,.of_eq hg,fun b q e=>sL e⟩
  refine codeAny_mono ((F _ kin (nsK hns)).run callerA [] s₁ _ ⟨[.ref a],[]⟩ [.ref a] [.ref a] _ _ hr e0 (hbind s₁ (.ref a)) (.cons rfl .nil) (hsp _ hS)) fun r s' h=>?_
  cases r with
  |error e=>exact(hCX _ e s' h).elim
  |ok fl=>
   cases fl with
   |next=>exact False.elim h
   |brk=>exact False.elim h
   |cont=>exact False.elim h
   |ret u=>
    obtain⟨v,H',os,bare,un,hok',r',q⟩:=h
    have q':v=.bl true:=q
    subst q'
    obtain rfl:u=Value.bool true:=r'
    have nofs:∀b,b∉kP ([]:List Env):=fun b z=>absurd (show b∈([]:List Addr)from z) (by simp)
    have step:∀b o,s₁.heap.get? b=some o→asItWas s₁.heap s'.heap b o∧∃o',s'.heap.get? b=some o':=fun b o e=>by
     cases q:dP K a so b with
     |none=>exact⟨.inl (un.keep b o e q (nofs b) (by simp)),_,un.keep b o e q (nofs b) (by simp)⟩
     |some u=>
      rcases gu q with⟨z,e1,rfl⟩ |⟨rfl,e1⟩
      ·obtain⟨t1,⟨c,t2⟩,_⟩:=hT b z e1
       obtain⟨ps,p1,_⟩:=hok' b _ (un.tbls b z q)
       rw[t1]at e
       cases e
       exact⟨.inr (.inl ⟨(t2.tab t1).isCodeTable,rfl,#[],ps,rfl,by simpa using p1⟩),_,p1⟩
      ·rcases hso with z |⟨z,_⟩
       ·rw[z]at e1;cases e1
       ·rw[z]at e1;cases e1
        have z2:=un.frzs b _ _ q
        obtain⟨e2,_⟩:=hok' b _ z2
        rw[ha]at e;cases e
        exact⟨.inl e2,_,e2⟩
    exact⟨rfl,⟨fun b o e=>(step b o e).1,fun b o e=>(step b o e).2⟩,os,bare⟩
 cases hk:K.lookup a with
 |some o=>
  have e:=KX a o hk
  rw[ha]at e
  cases e
  exact main none (.inl rfl) (.inr ⟨_,vs.toArray,_,hk,rfl,rfl,rfl,by rw[List.size_toArray,lenV];exact hl,by simpa using rv⟩)
 |none=>exact main _ (.inr ⟨rfl,hk⟩) (.inl (.inr ⟨_,vj tabA⟩))
end
theorem xh{l:PySem.W.OpenLaw}{n k:Nat}{q:Program}{loose:List Str}{XP:(Str→Option Value)→Heap→Prop}{YP:World→Heap→Prop}{d:DefRec}{K:Params→PySem.W.Frag}{CX:World→uW}{sp:World→Sp}{x:Str}
  (hn:l.most=some n) (hn2:n≤sizeLine) (hdf:d.params.defaults=[]) (hr:Room k callerA)
  (hY:∀(w:World) (h:Heap),YP w h→(K w.params).In h∧uh (K w.params) h)
  (F:∀(w:World) (mg:Str→Option Value) (fa:Addr) (h:Heap),(K w.params).In h→h.Ns mainGlobals mg→mg d.name=some (.ref fa)→
   ∃fd:FuncData,(∀(s:Shared) (u:Value),BindsTo s fd ⟨[u],[]⟩ [(x,u)])∧
    ∀base:Heap,(K w.params).In base→base.Ns mainGlobals mg→FnOk l.prog w (K w.params) mg base (CX w) k fa fd [x] (sp w))
  (hsp:∀(w:World) (H:Hp) (a:Addr) (ns:List Int),ns.length≤n→SqL (K w.params) H a (ns.map V.int)→sp w [.ref a] H (fun v _=>v=.bl true) fun _ _ _=>False)
  (hCX:∀(w:World) (H:Hp) (s:Shared) (e:Value) (s':Shared),CX w [] H s (fun _ _ _=>False) e s'→False):
  PySem.W.WalkO q loose XP YP l.row.toRowW d [] (fun f vs=>PySem.call f vs):=by
 refine Att.qG hn hdf fun w s₀ s₁ mg mb fa o pm cd doc a vs ns G Y ho hd hcd hmg hobj hints hlen hg=>?_
 obtain⟨KX,KT⟩:=hY w _ Y
 obtain⟨fd,hb,hF⟩:=F w mg fa _ KX G.T.g hmg
 exact zE KX G.T.g G.T.b G.T.builtins G.T.nolimit hg G.T.bmain KT hobj hints (Nat.le_trans hlen hn2) hr hF hb (fun H hS=>hsp w H a ns hlen hS) fun H e s'=>hCX w H s₁ e s'
end L2
namespace PL
open PySem L2 Nh PyProof.Rows
structure ClsOk (K:PySem.W.Frag) (mg:Str→Option Value) (cn:Str) (C:Addr):Prop where
 ns:PySem.W.nsIn K mainGlobals cn=some (some (.ref C))
 mg:mg cn=some (.ref C)
 cl:Cls K C
structure OwnM (P:Program) (w:World) (K:PySem.W.Frag) (mg:Str→Option Value) (base:Heap) (k:Nat) (C:Addr) (m:Str) (ps:List Str) (sp:Sp):Prop where
 ex:∃(f:Addr) (fd:FuncData),FnOk P w K mg base jA k f fd ps sp∧Binds K fd ps []∧Meth K C m f
def DispM(P:Program)(w:World)(K:PySem.W.Frag)(mg:Str→Option Value)(base:Heap)(k:Nat)(m:Str)(c:List PyData→Option Sl):Prop:=
 ∀(H:Hp) (v:V) (d:PyData) (r:Sl),c [d]=some r→Rp K H v d→∃(p C dx:Addr) (fs:List (Str×V)),v=.ref p∧H p=some (.ins C dx fs)∧fs.lookup m=none∧Cls K C∧∃c':List PyData→Option Sl,c' [d]=some r∧OwnM P w K mg base k C m ["self"] (bQ K c')
theorem pU{K:PySem.W.Frag}{H:Hp}{v:V}{cn:Str}{kvs:List (PyData×PyData)}(r:Rp K H v (fj cn kvs)):∃(p C dx:Addr) (fs:List (Str×V)),v=.ref p∧PySem.W.nsIn K mainGlobals cn=some (some (.ref C))∧H p=some (.ins C dx fs)∧(∀m∈mZ,fs.lookup m=none)∧RpN K H fs kvs:=by
 generalize e:fj cn kvs=d at r
 cases r with
 |obj c h n r=>cases e;exact⟨_,_,_,_,rfl,c,h,n,r⟩
 |dct h1 h2=>
  cases h2 with
  |nil=>cases e
  | @cons k x us d kvs a b=>cases k <;> cases e
 |_=>cases e
def iP(f:Str):List (PyData×PyData)→Option PyData
 |[]=>none
 |(.str g,d)::r=>if g=f then some d else iP f r
 |_::r=>iP f r
theorem RpN.look{K:PySem.W.Frag}{H:Hp}{f:Str}{d:PyData}{fs:List (Str×V)}:∀{kvs:List (PyData×PyData)},RpN K H fs kvs→iP f kvs=some d→∃v,fs.lookup f=some v∧Rp K H v d
 |_,.nil,e=>by cases e
 |_,.cons l h r,e=>by
  unfold iP at e
  split at e
  ·rename_i z
   cases e;subst z
   exact⟨_,l,h⟩
  ·exact r.look e
def fT(cs:List Str)(f:Str)(g:cX):cX:=fun E=>(g E).bind fun a=>(look a.2 a.1).bind fun d=>match d with
 |.dict ((.none,.tuple [.str cn])::kvs)=>if cs.contains cn then (iP f kvs).bind fun d'=>if !hot a.2 a.1||aJ d' then some (.sh d',a.2)else none else none
 |_=>none
def fW(c:List PyData→Option Sl)(g:cX):cX:=fun E=>(g E).bind fun a=>(look a.2 a.1).bind fun d=>(c [d]).map fun r=>(r,a.2)
def jH(cn:Str)(c:List PyData→Option (List (PyData×PyData)))(g:m8):cX:=fun E=>(g E).bind fun a=>(ax a.2 a.1).bind fun ds=>(c ds).map fun kvs=>(.sh (fj cn kvs),a.2)
def nY(K:PySem.W.Frag)(C:Addr)(c:List PyData→Option (List (PyData×PyData))):Sp:=fun vs H Q _=>∃x dx vs' ds kvs,vs=.ref x::vs'∧H x=some (.ins C dx [])∧c ds=some kvs∧(∃H0,H0 x=none∧Same H0 H∧RpA K H0 vs' ds)∧
 ∀fs H',(∀b o,b≠x→H b=some o→H' b=some o)→H' x=some (.ins C dx fs)→(∀m∈mZ,fs.lookup m=none)→RpN K (tups H') fs kvs→Q .non H'
structure MkOk (P:Program) (w:World) (K:PySem.W.Frag) (mg:Str→Option Value) (base:Heap) (k:Nat) (cn:Str) (ps:List Str) (c:List PyData→Option (List (PyData×PyData))):Prop where
 ex:∃(C f:Addr) (fd:FuncData),ClsOk K mg cn C∧Mk K C f∧FnOk P w K mg base jA k f fd ps (nY K C c)∧Binds K fd ps []
section
variable {X:Cx} {o e:Expr} {es:List Expr} {f m cn x:Str} {p pos apos:Pos} {m1:Bool} {g:cX} {ga:m8}
theorem eB{cs:List Str}(hc:∀cn∈cs,∀C,PySem.W.nsIn X.K mainGlobals cn=some (some (.ref C))→Cls X.K C∧NoAttr X.K C f)(he:EX X o m1 g)(hb:attributeBase o f X.env (eval o X.env)=eval o X.env:=by rfl):EX X (.Attribute o f pos) m1 (fT cs f g):=by
 refine bY (BM he hb) fun σ H Q z=>?_
 obtain⟨B,E,xs,Xs,res,E',fr,cl,e,q⟩:=z
 obtain⟨⟨s,E1⟩,e1,e⟩:=Option.bind_eq_some_iff.mp e
 obtain⟨d,e2,e⟩:=Option.bind_eq_some_iff.mp e
 refine⟨B,E,xs,Xs,s,E1,fr,cl,e1,fun v H1 ⟨F,A,fr1⟩=>?_⟩
 split at e
 rotate_left
 ·cases e
 rename_i cn kvs
 split at e
 rotate_left
 ·cases e
 rename_i hcn
 obtain⟨d',e3,e⟩:=Option.bind_eq_some_iff.mp e
 split at e
 rotate_left
 ·cases e
 rename_i hh
 cases e
 obtain⟨r,rf⟩:=fr1.look0 e2
 obtain⟨p,C,dx,fs,rfl,ns,hp,_,rn⟩:=pU r
 obtain⟨c1,c2⟩:=hc cn (by simpa using hcn) C ns
 obtain⟨v',l,rv⟩:=rn.look e3
 refine⟨p,C,dx,fs,v',rfl,hp,c1,c2,l,q _ _ ?_⟩
 obtain⟨A',fr2⟩:=fr1.pop
 have rF:Rp X.K F v' d':=by
  rcases Bool.or_eq_true_iff.mp hh with z |z
  ·have rr:Rp X.K F (.ref p) (fj cn kvs):=rf (by simpa using z)
   obtain⟨p2,C2,dx2,fs2,ep,ns2,hp2,_,rn2⟩:=pU rr
   cases ep
   have:=fr1.fh _ _ hp2
   rw[hp]at this
   cases this
   obtain⟨v2,l2,rv2⟩:=rn2.look e3
   rw[l]at l2
   cases l2
   exact rv2
  ·exact fr1.cold rv z
 exact⟨F,A',fr2.push ⟨rfl,_,rfl,rF⟩⟩
theorem fG{k:Nat}{c:List PyData→Option Sl}{pl:Sem Bool}(D:DispM X.prog X.w X.K X.mg X.base k m c)(hr:Room k X.A)(he:EX X o m1 g)
  (ht:eval (.Call (.Attribute o m apos) [] [] pos) X.env=(do
   let ov ←eval o X.env
   standAt apos.atName
   let (f,first) ←holding [ov] (getMethod ov m pl)
   callWith pos f first (backTo pos (starEach [] X.env)) (backToKw pos (keywordEach [] X.env))):=by rfl):EX X (.Call (.Attribute o m apos) [] [] pos) m1 (fW c g):=by
 intro pins s σ H Q I z
 obtain⟨B,E,xs,Xs,res,E',fr,cl,e,q⟩:=z
 obtain⟨⟨s1,E1⟩,e1,e⟩:=Option.bind_eq_some_iff.mp e
 obtain⟨d,e2,e⟩:=Option.bind_eq_some_iff.mp e
 obtain⟨r,e3,e⟩:=Option.map_eq_some_iff.mp e
 cases e
 refine PySem.W.methodCall_KW (pl:=pl) (dF (he pins s σ H (fun v H1=>Frm X.K B σ H1 E1 (v::xs) (s1::Xs)) I ⟨B,E,xs,Xs,s1,E1,fr,cl,e1,fun v H1 f=>f⟩) fun u t1 ⟨v,H1,I1,rv,F,A,fr1⟩=>?_) ht
 have rp:=(fr1.look0 e2).1
 obtain⟨p,C,dx,fs,rfl,hp,l,c1,c',e3',f0,fd,Fk,b,mt⟩:=D H1 v d res e3 rp
 obtain rfl:u=Value.ref p:=rv
 obtain⟨A',fr2⟩:=fr1.pop
 refine mW I1 hp c1 mt l ?_
 exact PySem.W.callWith_K0 (first:=[.ref p]) I1.kIn mt.kp (sj (us:=[.ref p]) (vs:=[.ref p]) Fk hr b .nil tV I1 (.cons rfl .nil) ⟨[d],res,e3',.cons rp .nil,fun v H' gg q'=>q v H' (fr2.told gg q')⟩)
theorem li {k:Nat} {ps:List Str} {c:List PyData→Option (List (PyData×PyData))} (M:MkOk X.prog X.w X.K X.mg X.base k cn ps c) (hr:Room (k+1) X.A) (hg:Gl X cn) (ha:AX X (e::es) m1 ga) (hdb:(cn == ("__debug__":Str))=false:=by decide) (he:starEach (e::es) X.env=(false,eval e X.env)::starEach es X.env:=by rfl) (hpl:(backTo pos (starEach es X.env)).any (·.1)=false:=by rfl):
  EX X (.Call (.Name cn p) (e::es) [] pos) m1 (jH cn c ga):=by
 obtain⟨C,f,fd,ck,mk,Fk,b⟩:=M.ex
 refine bY (yZ mk Fk hr hg ck.mg b .nil tV ha hdb he hpl) fun σ H Q z=>?_
 obtain⟨B,E,xs,Xs,res,E',fr,cl,e,q⟩:=z
 obtain⟨⟨rs,E1⟩,e1,e⟩:=Option.bind_eq_some_iff.mp e
 obtain⟨ds,e2,e⟩:=Option.bind_eq_some_iff.mp e
 obtain⟨kvs,e3,e⟩:=Option.map_eq_some_iff.mp e
 cases e
 refine⟨B,E,xs,Xs,rs,E1,fr,cl,e1,fun vs H1 hl ⟨F,A,fr1⟩=>fun x dx nx ndx ne=>?_⟩
 obtain⟨r1,A',fr2⟩:=fr1.looks hl e2
 have g0:Same H1 (upd (upd H1 dx (.own x)) x (.ins C dx [])):=fun b o z=>by
  rw[aC (bc z nx),aC (bc z ndx)]
  exact z
 refine⟨x,dx,vs++[],ds,kvs,rfl,upd_same,e3,⟨H1,nx,g0,by rw[List.append_nil];exact r1⟩,fun fs H' k1 k2 k3 k4=>⟨rfl,?_⟩⟩
 have g1:Same H1 H':=fun b o z=>k1 b o (bc z nx) (g0 b o z)
 exact q _ _ (fr2.told g1 (show oY X.K H1 H' (.ref x) (.sh (fj cn kvs))from .obj ck.ns (gc k2 rfl) k3 k4))
end
theorem yF{P:Program}{w:World}{K:PySem.W.Frag}{mg:Str→Option Value}{base:Heap}{x qn:Str}{st:Stmt}{N ps:List Str}{k a n:Nat}{g:cy}{f0:Addr}{fd:FuncData}(D:Fun K x qn st f0 fd)(S:FnScope N ps (au st))(hpa:ps.length=a)(hNn:N.length=n)(hps:a≤n)
  (hbody:∀(cdv:Value) (A:Around) (outer:List Env) (s:Shared) (H:Hp) (E:XK),Room k (A.deeper (PyProof.Rows.envOfC qn (au st) s.heap.objs.size f0 cdv))→
   rS (iW jA P w K mg base N qn (au st) f0 cdv A outer s H E).nox (cB st) g):FnOk P w K mg base jA (k+1) f0 fd ps (bQ K (bP a n g)):=by
 subst hpa hNn
 refine D.ok S (fun vs H Q E h=>?_) (fun cdv A outer s H vs Q E hr h=>?_)
 ·obtain⟨ds,r,e,rp,_⟩:=h
  unfold bP at e
  split at e
  ·rename_i hl
   rw[rp.len];exact hl
  ·cases e
 obtain⟨ds,r,e,rp,q⟩:=h
 unfold bP at e
 split at e
 ·rename_i hl
  refine⟨_,hbody cdv A outer s H E hr,?_⟩
  obtain⟨⟨E',fl⟩,e1,e⟩:=Option.bind_eq_some_iff.mp e
  refine⟨H,av N.length ds,[],[],E',fl,⟨H,[],k7 rp (by omega)⟩,rfl,e1,?_⟩
  cases fl with
  |nx=>
   cases e
   rintro σ' H' ⟨F',A',fr'⟩
   exact q _ _ (fr'.bf.trans fr'.fh) .non
  |bk=>cases e
  |ct=>cases e
  |rt r'=>
   rintro σ' v H' ⟨F',A',fr'⟩
   obtain⟨s1,s2⟩:=fr'.resultO e
   exact q v H' s1 s2
 ·cases e
end PL
namespace PL
open PySem L2 Nh PyProof.Rows
theorem vk{K:PySem.W.Frag}{a l:Addr}{xs:List V}{g:TG}{tt:TT}{te:TE}{Q:VK}{σi:L2.St}{H1:Hp}(Pv:Nat→L2.St→Hp→Prop)(h0:Pv 0 σi (upd H1 l (.lst [])))(hl:∀i σ H,i≤xs.length→Pv i σ H→SqL K H a xs)
  (hs:∀i x σ H,xs[i]? =some x→Pv i σ H→g x σ H fun σ3 H3=>tt σ3 H3 fun b H4=>if b=true then te σ3 H4 fun y H5=>∃ys,H5 l=some (.lst ys)∧ys.length < sizeLine∧Pv (i+1) σ3 (upd H5 l (.lst (ys++[y])))else Pv (i+1) σ3 H4)
  (hd:∀σ H,Pv xs.length σ H→Q (.ref l) H):∃W:Nat→Nat→L2.St→Hp→Prop,(∃m,W 0 m σi (upd H1 l (.lst [])))∧
 ∀i m σ' H',W i m σ' H'→((C9 K a).stop i H'∧Q (.ref l) H')∨((C9 K a).go i H'∧∃N:L2.St→Hp→Prop,(∀σ' H',N σ' H'→∃m',m' < m∧W (i+1) m' σ' H')∧∀x H2,(C9 K a).yld i H' x H2→g x σ' H2 fun σ3 H3=>tt σ3 H3 fun b H4=>
  if b=true then te σ3 H4 fun y H5=>∃ys,H5 l=some (.lst ys)∧ys.length < sizeLine∧N σ3 (upd H5 l (.lst (ys++[y])))else N σ3 H4):=by
 refine⟨fun i m σ H=>m=xs.length - i∧i≤xs.length∧Pv i σ H,⟨xs.length,by simp,Nat.zero_le _,h0⟩,?_⟩
 rintro i m σ H ⟨rfl,hi,p⟩
 have q:=hl i σ H hi p
 by_cases hlt:i < xs.length
 ·refine .inr ⟨⟨xs,xs[i],q,by simp[hlt]⟩,Pv (i+1),fun σ' H' p'=>⟨xs.length - (i+1),by omega,rfl,hlt,p'⟩,fun x H' y=>?_⟩
  obtain⟨e,y⟩:=y
  subst e
  exact hs i x σ _ (y xs q) p
 ·have e:i=xs.length:=by omega
  subst e
  exact .inl ⟨⟨xs,q,Nat.le_refl _⟩,hd σ H p⟩
def kD(K:PySem.W.Frag)(c:List PyData→Option Sl)(ta:TE):TE:=fun σ H Q=>ta σ H fun v H1=>∃d r,c [d]=some r∧Rp K H1 v d∧∀v' H',Same H1 H'→oY K H1 H' v' r→Q v' H'
theorem lj{X:Cx}{o:Expr}{m:Str}{pos apos:Pos}{ta:TE}{k:Nat}{c:List PyData→Option Sl}{pl:Sem Bool}(D:DispM X.prog X.w X.K X.mg X.base k m c)(hr:Room k X.A)(he:PE X o ta)
  (ht:eval (.Call (.Attribute o m apos) [] [] pos) X.env=(do
   let ov ←eval o X.env
   standAt apos.atName
   let (f,first) ←holding [ov] (getMethod ov m pl)
   callWith pos f first (backTo pos (starEach [] X.env)) (backToKw pos (keywordEach [] X.env))):=by rfl):PE X (.Call (.Attribute o m apos) [] [] pos) (kD X.K c ta):=by
 intro pins s σ H Q I z
 refine PySem.W.methodCall_KW (pl:=pl) (dF (he pins s σ H _ I z) fun u t1 ⟨v,H1,I1,rv,d,r,e3,rp,q⟩=>?_) ht
 obtain⟨p,C,dx,fs,rfl,hp,l,c1,c',e3',f0,fd,Fk,b,mt⟩:=D H1 v d r e3 rp
 obtain rfl:u=Value.ref p:=rv
 refine mW I1 hp c1 mt l ?_
 exact PySem.W.callWith_K0 (first:=[.ref p]) I1.kIn mt.kp (sj (us:=[.ref p]) (vs:=[.ref p]) Fk hr b .nil tV I1 (.cons rfl .nil) ⟨[d],r,e3',.cons rp .nil,q⟩)
def i7:List PyData→Option (List (PyData×PyData))
 |[.str n,.int t]=>some [(.str "nail",.str n),(.str "turns",.int t),(.str "size",.int 1)]
 |_=>none
def yG(c:List PyData→Option Sl):List PyData→Option (List Int)
 |[]=>some []
 |d::r=>match c [d]with
  |some (.sh (.int z))=>(yG c r).map (z:: ·)
  |_=>none
def fH(c:List PyData→Option Sl):List PyData→Option (List (PyData×PyData))
 |[.list ds]=>(yG c ds).bind fun zs=>if bg ds&&decide (ds.length≤1000000)then some [(.str "kept",.tuple ds),(.str "size",.int zs.sum)]else none
 |_=>none
def kf(t:List (Str×(List PyData→Option Sl))):List PyData→Option Sl
 |[.dict ((.none,.tuple [.str cn])::kvs)]=>(t.lookup cn).bind fun c=>c [fj cn kvs]
 |_=>none
theorem zF {P:Program} {w:World} {K:PySem.W.Frag} {mg:Str→Option Value} {base:Heap} {k:Nat} {m:Str} {t:List (Str×(List PyData→Option Sl))} (hm:m∈mZ) (h:∀cn c,t.lookup cn=some c→∃C,ClsOk K mg cn C∧OwnM P w K mg base k C m ["self"] (bQ K c)):DispM P w K mg base k m (kf t):=by
 intro H v d r e rp
 unfold kf at e
 split at e
 ·rename_i ds cn kvs ed
  cases ed
  obtain⟨c,e1,e2⟩:=Option.bind_eq_some_iff.mp e
  obtain⟨C,ck,ow⟩:=h cn c e1
  obtain⟨p,C',dx,fs,rfl,ns,hp,nm,_⟩:=pU rp
  rw[ck.ns]at ns
  cases ns
  exact⟨p,C,dx,fs,rfl,hp,nm m hm,ck.cl,c,e2,ow⟩
 ·cases e
theorem OwnM.mono{P:Program}{w:World}{K:PySem.W.Frag}{mg:Str→Option Value}{base:Heap}{j k:Nat}{C:Addr}{m:Str}{ps:List Str}{sp:Sp}(h:OwnM P w K mg base j C m ps sp)(l:j≤k):OwnM P w K mg base k C m ps sp:=by
 obtain⟨f,fd,F,b,mt⟩:=h.ex
 exact⟨f,fd,F.mono l,b,mt⟩
theorem DispM.mono{P:Program}{w:World}{K:PySem.W.Frag}{mg:Str→Option Value}{base:Heap}{j k:Nat}{m:Str}{c:List PyData→Option Sl}(h:DispM P w K mg base j m c)(l:j≤k):DispM P w K mg base k m c:=fun H v d r e rp=>by
 obtain⟨p,C,dx,fs,e1,e2,e3,e4,c',e5,ow⟩:=h H v d r e rp
 exact⟨p,C,dx,fs,e1,e2,e3,e4,c',e5,ow.mono l⟩
def zG(K:PySem.W.Frag):TS:=pB (lQ K (fc 0) (fc 1) "nail") (pB (lQ K (fc 0) (fc 2) "turns") (lQ K (fc 0) (tC (.int 1)) "size"))
theorem zH{a b c:Str}{x y z:V}(h:∀m∈mZ,m≠a∧m≠b∧m≠c):∀m∈mZ,(dg c z (dg b y (dg a x []))).lookup m=none:=fun m hm=>by
 obtain⟨h1,h2,h3⟩:=h m hm
 rw[aU,if_neg h3,aU,if_neg h2,aU,if_neg h1]
 rfl
theorem fI(f:Str)(x:V)(fs:List (Str×V)):(dg f x fs).length≤fs.length+1:=by have:=jx f x fs;omega
theorem pf {K:PySem.W.Frag} {C:Addr} {H:Hp} {vs:List V} {Q:VK} {E:XK} {D:Ends} {N:List Str} (cl:Cls K C) (n1:NoAttr K C "nail") (n2:NoAttr K C "turns") (n3:NoAttr K C "size") (h:nY K C i7 vs H Q E) (hD:∀σ H',Q .non H'→D.nx σ H') (hN:N.length=3:=by rfl):vs.length=3∧zG K D (L2.dz N vs) H:=by
 obtain⟨x,dx,vs',ds,kvs,rfl,hx,e,⟨H0,x0,s0,r0⟩,k⟩:=h
 unfold i7 at e
 split at e
 rotate_left
 ·cases e
 rename_i n t
 cases e
 obtain⟨v1,v2,rfl,r1,r2⟩:=r0.two
 cases r1;cases r2
 refine⟨rfl,?_⟩
 have hst:L2.dz N [.ref x,.str n,.int t]=[some (.ref x),some (.str n),some (.int t)]:=by unfold L2.dz;rw[hN];rfl
 rw[hst]
 refine⟨_,rfl,_,rfl,x,C,dx,_,rfl,hx,cl,n1,by show 0 < 1000;decide,?_⟩
 refine⟨_,rfl,_,rfl,x,C,dx,_,rfl,upd_same,cl,n2,by have:=fI "nail" (.str n) [];simp only[List.length_nil]at this;omega,?_⟩
 refine⟨_,rfl,x,C,dx,_,rfl,upd_same,cl,n3,by have:=fI "nail" (.str n) [];have:=fI "turns" (.int t) (dg "nail" (.str n) []);simp only[List.length_nil]at *;omega,?_⟩
 refine hD _ _ (k _ _ (fun b o hb hbo=>?_) upd_same (zH (by decide+kernel)) ?_)
 ·rw[aC hb,aC hb,aC hb];exact hbo
 ·refine .cons (x:=.str n) ?_ (.str n) (.cons (x:=.int t) ?_ (.int t) (.cons (x:=.int 1) ?_ (.int 1) .nil))
  ·rw[aU,if_neg (by decide+kernel),aU,if_neg (by decide+kernel),aU,if_pos rfl]
  ·rw[aU,if_neg (by decide+kernel),aU,if_pos rfl]
  ·rw[aU,if_pos rfl]
def Ci(K:PySem.W.Frag):List V→Hp→VK→Prop:=fun xs H Q=>∃p ys,xs=[.ref p]∧(SqL K H p ys∨SqT K H p ys)∧∀l,H l=none→Q (.ref l) (upd H l (.lst ys))
def Cj(K:PySem.W.Frag):List V→Hp→VK→Prop:=fun xs H Q=>∃p ys,xs=[.ref p]∧((SqL K H p ys∧∀l,H l=none→Q (.ref l) (upd H l (.tup ys)))∨(SqT K H p ys∧Q (.ref p) H))
def zI(K:PySem.W.Frag)(c:List PyData→Option Sl):TS:=pB (lQ K (fc 0) (BO (Ci K) (qD (fc 1) wg)) "parts") (pB (lQ K (fc 0) (BO (Cj K) (qD (fc 1) wg)) "kept")
 (lQ K (fc 0) (BO (Ch K) (qD (tY [none] (AH K (fc 1)) (qy 0) wv (kD K c (fc 0))) wg)) "size"))
theorem uk{c:List PyData→Option Sl}:∀{ds:List PyData} {zs:List Int},yG c ds=some zs→zs.length=ds.length∧∀(i:Nat) (d:PyData),ds[i]? =some d→∃z,zs[i]? =some z∧c [d]=some (.sh (.int z))
 |[],zs,e=>by cases e;exact⟨rfl,fun i d h=>by simp at h⟩
 |d::r,zs,e=>by
  unfold yG at e
  split at e
  ·rename_i z hc
   obtain⟨zs',e1,rfl⟩:=Option.map_eq_some_iff.mp e
   obtain⟨h1,h2⟩:=uk e1
   refine⟨by simp[h1],fun i d' h=>?_⟩
   cases i with
   |zero=>simp at h;subst h;exact⟨z,rfl,hc⟩
   |succ i=>simpa using h2 i d' (by simpa using h)
  ·cases e
theorem ph {K:PySem.W.Frag} {C:Addr} {c:List PyData→Option Sl} {H:Hp} {vs:List V} {Q:VK} {E:XK} {D:Ends} {N:List Str} (cl:Cls K C) (n1:NoAttr K C "parts") (n2:NoAttr K C "kept") (n3:NoAttr K C "size") (h:nY K C (fH c) vs H Q E) (hD:∀σ H',Q .non H'→D.nx σ H') (hN:N.length=2:=by rfl):vs.length=2∧zI K c D (L2.dz N vs) H:=by
 obtain⟨x,dx,vs',ds,kvs,rfl,hx,e,⟨H0,x0,s0,r0⟩,k⟩:=h
 unfold fH at e
 split at e
 rotate_left
 ·cases e
 rename_i ds
 obtain⟨zs,ez,e⟩:=Option.bind_eq_some_iff.mp e
 split at e
 rotate_left
 ·cases e
 rename_i hf
 cases e
 obtain⟨hf,hlen⟩:=Bool.and_eq_true_iff.mp hf
 have hlen:ds.length≤1000000:=by simpa using hlen
 cases r0 with
 | @cons v _ _ _ r1 r2=>
 cases r2
 cases r1 with
 | @lst a ws _ hq hr=>
 obtain⟨zl,zg⟩:=uk ez
 have wl:=hr.len
 refine⟨rfl,?_⟩
 have hst:L2.dz N [.ref x,.ref a]=[some (.ref x),some (.ref a)]:=by unfold L2.dz;rw[hN];rfl
 rw[hst]
 refine⟨_,rfl,a,ws,rfl,.inl (s0.seq hq),fun l hl=>?_⟩
 have xl:x≠l:=fun z=>by rw[z,hl]at hx;cases hx
 refine⟨_,rfl,x,C,dx,_,rfl,by rw[aC xl];exact hx,cl,n1,by show 0 < 1000;decide,?_⟩
 have g2:Same H0 (upd (upd H l (.lst ws)) x (.ins C dx (dg "parts" (.ref l) []))):=fun b o z=>by
  rw[aC (bc z x0),aC (bc (s0 _ _ z) hl)];exact s0 _ _ z
 refine⟨_,rfl,a,ws,rfl,.inl ⟨g2.seq hq,fun t ht=>?_⟩⟩
 have xt:x≠t:=fun z=>by rw[←z,upd_same]at ht;cases ht
 have tl:t≠l:=fun z=>by rw[z,aC xl.symm,upd_same]at ht;cases ht
 have tH:H t=none:=by rw[aC xt.symm,aC tl]at ht;exact ht
 refine⟨_,rfl,x,C,dx,_,rfl,by rw[aC xt];exact upd_same,cl,n2,by have:=fI "parts" (.ref l) [];simp only[List.length_nil]at this;omega,?_⟩
 generalize hH4:upd (upd (upd (upd H l (.lst ws)) x (.ins C dx (dg "parts" (.ref l) []))) t (.tup ws)) x (.ins C dx (dg "kept" (.ref t) (dg "parts" (.ref l) [])))=H4
 have x4:H4 x=some (.ins C dx (dg "kept" (.ref t) (dg "parts" (.ref l) []))):=by rw[←hH4,upd_same]
 have t4:H4 t=some (.tup ws):=by rw[←hH4,aC xt.symm,upd_same]
 have b4:∀b o,b≠x→H b=some o→H4 b=some o:=fun b o hb z=>by
  rw[←hH4,aC hb,aC (bc z tH),aC hb,aC (bc z hl)];exact z
 have g4:Same H0 H4:=fun b o z=>b4 b o (bc z x0) (s0 _ _ z)
 refine⟨_,rfl,a,rfl,⟨ws,g4.seq hq⟩,fun lc hlc=>?_⟩
 refine vk (K:=K) (a:=a) (xs:=ws) (g:=qy 0) (tt:=wv) (te:=kD K c (fc 0)) (σi:=[none]) (Q:=fun y H5=>Ch K [y] H5 fun z H6=>fc 0 [some (.ref x),some (.ref a)] H6 fun u H7=>∃a' C' dx' fs',u=.ref a'∧H7 a'=some (.ins C' dx' fs')∧Cls K C'∧NoAttr K C' "size"∧fs'.length < 1000∧D.nx [some (.ref x),some (.ref a)] (upd H7 a' (.ins C' dx' (dg "size" z fs')))) (fun i σ H'=>(∃y,σ=[y])∧Same H4 H'∧H' lc=some (.lst ((zs.take i).map V.int))) ⟨⟨_,rfl⟩,hM hlc _,by rw[upd_same];rfl⟩ (fun i σ H' _ ⟨_,s4,_⟩=>(g4.trans s4).seq hq) (fun i y σ H' hy ⟨⟨y0,es⟩,s4,hl4⟩=>?_) fun σ H' ⟨⟨y0,es⟩,s4,hl4⟩=>?_
 ·subst es
  refine u9 ?_
  obtain⟨d,ed,rd⟩:=hr.getV hy
  obtain⟨z,ez',ec⟩:=zg i d ed
  refine⟨y,rfl,d,_,ec,rd.same (g4.trans s4),fun v' H5 s5 rv=>?_⟩
  have rv:Rp K (tups H5) v' (.int z):=rv
  cases rv
  have hi:i < ws.length:=(List.getElem?_eq_some_iff.mp hy).1
  refine⟨_,s5 _ _ hl4,m_ (by rw[List.length_map,List.length_take];omega),⟨_,rfl⟩,fun b o e=>?_,?_⟩
  ·rw[aC (bc e hlc)];exact s5 _ _ (s4 _ _ e)
  ·rw[upd_same,List.take_add_one,ez'];simp
 ·subst es
  have tk:zs.take ws.length=zs:=List.take_of_length_le (by omega)
  rw[tk]at hl4
  refine⟨lc,zs,rfl,SqL.of hl4,_,rfl,x,C,dx,_,rfl,s4 _ _ x4,cl,n3,by have:=fI "parts" (.ref l) [];have:=fI "kept" (.ref t) (dg "parts" (.ref l) []);simp only[List.length_nil]at *;omega,?_⟩
  refine hD _ _ (k _ _ (fun b o hb hbo=>?_) upd_same (zH (by decide+kernel)) ?_)
  ·rw[aC hb];exact s4 _ _ (b4 b o hb hbo)
  ·have t6:(upd H' x (.ins C dx (dg "size" (.int zs.sum) (dg "kept" (.ref t) (dg "parts" (.ref l) []))))) t=some (.tup ws):=by rw[aC xt.symm];exact s4 _ _ t4
   have g6:Same H0 (upd H' x (.ins C dx (dg "size" (.int zs.sum) (dg "kept" (.ref t) (dg "parts" (.ref l) []))))):=fun b o z=>by rw[aC (bc z x0)];exact s4 _ _ (g4 _ _ z)
   refine .cons (x:=.ref t) ?_ (.tup (.inl (.inl (gc t6 rfl))) ((hr.same g6).cold hf)) (.cons (x:=.int zs.sum) ?_ (.int _) .nil)
   ·rw[aU,if_neg (by decide+kernel),aU,if_pos rfl]
   ·rw[aU,if_pos rfl]
end PL
namespace PL
open PySem L2 Nh
open PySem.W (nsIn codeIn keepIn fnOf findIn isFn)
structure CF (K:PySem.W.Frag) (cn:Str) (C:Addr):Prop where
 ns:nsIn K mainGlobals cn=some (some (.ref C))
 pg:PySem.W.plainGet K C Str.empty=true
 hd:PySem.W.hasDictIn K C=true
 po:PySem.W.plainOver K C=true
 sa:findIn K (.ref C) "__setattr__"=some (some (.builtin "object.__setattr__"))
 mi:PySem.W.makesIn K C=true
 kc:keepIn K (.ref C)=true
theorem CF.ok{K:PySem.W.Frag}{h:Heap}{mg:Str→Option Value}{cn:Str}{C:Addr}(c:CF K cn C)(X:K.In h)(G:h.Ns mainGlobals mg):ClsOk K mg cn C:=⟨c.ns,PySem.W.mg_of X G c.ns,c.pg,c.hd,c.po,c.sa⟩
def HM(K:PySem.W.Frag)(C:Addr)(m qn:Str)(st:Stmt):Prop:=∃(f:Addr) (oc:Value) (od an:Option Addr) (sl:Array (Option Value)) (kV dc pm cd ct:Value),findIn K (.ref C) m=some (some (.ref f))∧isFn K (.ref f)=true∧K.lookup f=some ⟨oc,od,.func (fnOf m qn (dR st) (cB st) (au st) .none kV dc pm an cd ct),sl⟩∧codeIn K cd qn=true∧keepIn K (.ref f)=true
theorem ul{K:PySem.W.Frag}{C:Addr}{m qn:Str}{st:Stmt}{f:Addr}{oc:Value}{od an:Option Addr}{sl:Array (Option Value)}{kV dc pm cd ct:Value}(a:findIn K (.ref C) m=some (some (.ref f)))(i:isFn K (.ref f)=true)(l:K.lookup f=some ⟨oc,od,.func (fnOf m qn (dR st) (cB st) (au st) .none kV dc pm an cd ct),sl⟩)(c:codeIn K cd qn=true)(k:keepIn K (.ref f)=true):HM K C m qn st:=⟨f,oc,od,an,sl,kV,dc,pm,cd,ct,a,i,l,c,k⟩
section
variable {P:Program} {w:World} {K:PySem.W.Frag} {mg:Str→Option Value} {base:Heap} {k:Nat} {C:Addr} {cn m qn:Str} {st:Stmt} {ps:List Str} {sp:Sp}
theorem HM.own(h:HM K C m qn st)(F:∀f fd,Fun K m qn st f fd→FnOk P w K mg base jA k f fd ps sp)(b:∀(kV doc pm:Value) (an:Option Addr) (cdv ct:Value) (us:List Value),us.length=ps.length→bindArgs (fnOf m qn (dR st) (cB st) (au st) .none kV doc pm an cdv ct) ⟨us,[]⟩=pure (ps.zip us)):OwnM P w K mg base k C m ps sp:=by
 obtain⟨f,oc,od,an,sl,kV,dc,pm,cd,ct,a,i,l,c,kp⟩:=h
 have D:=mY (st:=st) l c kp
 exact⟨f,_,F _ _ D,D.binds b,a,i,kp⟩
theorem HM.mkOk {c:List PyData→Option (List (PyData×PyData))} (h:HM K C "__init__" qn st) (cf:CF K cn C) (ck:ClsOk K mg cn C) (F:∀f fd,Fun K "__init__" qn st f fd→FnOk P w K mg base jA k f fd ps (nY K C c)) (b:∀(kV doc pm:Value) (an:Option Addr) (cdv ct:Value) (us:List Value),us.length=ps.length→bindArgs (fnOf "__init__" qn (dR st) (cB st) (au st) .none kV doc pm an cdv ct) ⟨us,[]⟩=pure (ps.zip us)):MkOk P w K mg base k cn ps c:=by
 obtain⟨f,oc,od,an,sl,kV,dc,pm,cd,ct,a,i,l,c,kp⟩:=h
 have D:=mY (st:=st) l c kp
 exact⟨C,f,_,ck,⟨cf.mi,a,i,cf.kc⟩,F _ _ D,D.binds b⟩
end
theorem A8{P:Program}{w:World}{K:PySem.W.Frag}{mg:Str→Option Value}{base:Heap}{k:Nat}{m:Str}:DispM P w K mg base k m (fun _=>none):=fun _ _ _ _ e=>nomatch e
end PL
namespace PL
open PySem L2 Nh PyProof.Rows
def vV(c:List PyData→Option Sl)(d:PyData):Option Int:=match c [d]with
 |some (.sh (.int z))=>some z
 |_=>none
theorem sM{c:List PyData→Option Sl}{d:PyData}{z:Int}(h:vV c d=some z):c [d]=some (.sh (.int z)):=by
 unfold vV at h
 split at h
 ·rename_i y e;cases h;exact e
 ·cases h
def cm(k:Int):Int:=if k < 0 then -k else k
def e_(c:List PyData→Option Sl):List PyData→Option (List (PyData×PyData))
 |[d,.int k]=>(vV c d).bind fun z=>if aJ d&&dA z (cm k)then some [(.str "body",d),(.str "number",.int k),(.str "size",.int (z*cm k))]else none
 |_=>none
def fJ(c:List PyData→Option Sl):List PyData→Option (List (PyData×PyData))
 |[d,e]=>(vV c d).bind fun z=>(vV c e).bind fun y=>if aJ d&&aJ e then some [(.str "one",d),(.str "other",e),(.str "size",.int (2*(z+y)))]else none
 |_=>none
def FK:List V→Hp→VK→Prop:=fun xs H Q=>∃i,xs=[.int i]∧Q (.int (if i < 0 then -i else i)) H
def zJ(K:PySem.W.Frag)(c:List PyData→Option Sl):TS:=pB (lQ K (fc 0) (fc 1) "body") (pB (lQ K (fc 0) (fc 2) "number") (lQ K (fc 0) (AI (ub K) (kD K c (fc 1)) (BO FK (qD (fc 2) wg))) "size"))
def Ck(K:PySem.W.Frag)(c:List PyData→Option Sl):TS:=pB (lQ K (fc 0) (fc 1) "one") (pB (lQ K (fc 0) (fc 2) "other") (lQ K (fc 0) (AI (ub K) (tC (.int 2)) (AI (yQ fun i j=>.int (i+j)) (kD K c (fc 1)) (kD K c (fc 2)))) "size"))
theorem kg(f:Str)(x:V):(dg f x []).length < 1000:=by have:=fI f x [];simp only[List.length_nil]at this;omega
theorem l8(f g:Str)(x y:V):(dg g y (dg f x [])).length < 1000:=by have:=fI f x [];have:=fI g y (dg f x []);simp only[List.length_nil]at *;omega
theorem pi {K:PySem.W.Frag} {C:Addr} {c:List PyData→Option Sl} {H:Hp} {vs:List V} {Q:VK} {E:XK} {D:Ends} {N:List Str} (cl:Cls K C) (n1:NoAttr K C "body") (n2:NoAttr K C "number") (n3:NoAttr K C "size") (h:nY K C (e_ c) vs H Q E) (hD:∀σ H',Q .non H'→D.nx σ H') (hN:N.length=3:=by rfl):vs.length=3∧zJ K c D (L2.dz N vs) H:=by
 obtain⟨x,dx,vs',ds,kvs,rfl,hx,e,⟨H0,x0,s0,r0⟩,k⟩:=h
 unfold e_ at e
 split at e
 rotate_left
 ·cases e
 rename_i d n
 obtain⟨z,ez,e⟩:=Option.bind_eq_some_iff.mp e
 split at e
 rotate_left
 ·cases e
 rename_i hf
 cases e
 obtain⟨hf,hm⟩:=Bool.and_eq_true_iff.mp hf
 have ez:=sM ez
 obtain⟨v1,v2,rfl,r1,r2⟩:=r0.two
 cases r2
 refine⟨rfl,?_⟩
 have hst:L2.dz N [.ref x,v1,.int n]=[some (.ref x),some v1,some (.int n)]:=by unfold L2.dz;rw[hN];rfl
 rw[hst]
 have gg:∀fs,Same H0 (upd H x (.ins C dx fs)):=fun fs b o y=>by rw[aC (bc y x0)];exact s0 _ _ y
 refine⟨_,rfl,_,rfl,x,C,dx,_,rfl,hx,cl,n1,by show 0 < 1000;decide,?_⟩
 refine⟨_,rfl,_,rfl,x,C,dx,_,rfl,upd_same,cl,n2,kg _ _,?_⟩
 rw[tL]
 refine⟨v1,rfl,d,_,ez,r1.same (gg _),fun v' H' s' rv=>?_⟩
 have rv:Rp K (tups H') v' (.int z):=rv
 cases rv
 refine⟨_,rfl,n,rfl,.inl ⟨z,cm n,rfl,rfl,hm,_,rfl,x,C,dx,_,rfl,s' _ _ upd_same,cl,n3,l8 _ _ _ _,?_⟩⟩
 have g6:Same H0 (upd H' x (.ins C dx (dg "size" (.int (z*cm n)) (dg "number" (.int n) (dg "body" v1 []))))):=fun b o y=>by rw[aC (bc y x0)];exact s' _ _ (gg _ b o y)
 refine hD _ _ (k _ _ (fun b o hb hbo=>?_) upd_same (zH (by decide+kernel)) ?_)
 ·rw[aC hb];exact s' _ _ (by rw[aC hb];exact hbo)
 ·refine .cons (x:=v1) ?_ ((r1.same g6).cold hf) (.cons (x:=.int n) ?_ (.int n) (.cons (x:=.int (z*cm n)) ?_ (.int _) .nil))
  ·rw[aU,if_neg (by decide+kernel),aU,if_neg (by decide+kernel),aU,if_pos rfl]
  ·rw[aU,if_neg (by decide+kernel),aU,if_pos rfl]
  ·rw[aU,if_pos rfl]
theorem qX {K:PySem.W.Frag} {C:Addr} {c:List PyData→Option Sl} {H:Hp} {vs:List V} {Q:VK} {E:XK} {D:Ends} {N:List Str} (cl:Cls K C) (n1:NoAttr K C "one") (n2:NoAttr K C "other") (n3:NoAttr K C "size") (h:nY K C (fJ c) vs H Q E) (hD:∀σ H',Q .non H'→D.nx σ H') (hN:N.length=3:=by rfl):vs.length=3∧Ck K c D (L2.dz N vs) H:=by
 obtain⟨x,dx,vs',ds,kvs,rfl,hx,e,⟨H0,x0,s0,r0⟩,k⟩:=h
 unfold fJ at e
 split at e
 rotate_left
 ·cases e
 rename_i d d2
 obtain⟨z,ez,e⟩:=Option.bind_eq_some_iff.mp e
 obtain⟨y,ey,e⟩:=Option.bind_eq_some_iff.mp e
 split at e
 rotate_left
 ·cases e
 rename_i hf
 cases e
 obtain⟨hf,hf2⟩:=Bool.and_eq_true_iff.mp hf
 have ez:=sM ez
 have ey:=sM ey
 obtain⟨v1,v2,rfl,r1,r2⟩:=r0.two
 refine⟨rfl,?_⟩
 have hst:L2.dz N [.ref x,v1,v2]=[some (.ref x),some v1,some v2]:=by unfold L2.dz;rw[hN];rfl
 rw[hst]
 have gg:∀fs,Same H0 (upd H x (.ins C dx fs)):=fun fs b o y=>by rw[aC (bc y x0)];exact s0 _ _ y
 refine⟨_,rfl,_,rfl,x,C,dx,_,rfl,hx,cl,n1,by show 0 < 1000;decide,?_⟩
 refine⟨_,rfl,_,rfl,x,C,dx,_,rfl,upd_same,cl,n2,kg _ _,?_⟩
 rw[tL]
 refine⟨v1,rfl,d,_,ez,r1.same (gg _),fun v' H' s' rv=>?_⟩
 have rv:Rp K (tups H') v' (.int z):=rv
 cases rv
 have g1:Same H0 H':=(gg _).trans s'
 refine⟨v2,rfl,d2,_,ey,r2.same g1,fun v' H2 s2 rv=>?_⟩
 have rv:Rp K (tups H2) v' (.int y):=rv
 cases rv
 refine⟨z,y,rfl,rfl,.inl ⟨2,z+y,rfl,rfl,(by show dA 2 (z+y)=true;unfold dA;rw[decide_eq_true (show(-(2 ^ 64):Int) < 2∧(2:Int) < 2 ^ 64 by decide)];rfl),_,rfl,x,C,dx,_,rfl,s2 _ _ (s' _ _ upd_same),cl,n3,l8 _ _ _ _,?_⟩⟩
 have g6:Same H0 (upd H2 x (.ins C dx (dg "size" (.int (2*(z+y))) (dg "other" v2 (dg "one" v1 []))))):=fun b o q=>by rw[aC (bc q x0)];exact s2 _ _ (g1 b o q)
 refine hD _ _ (k _ _ (fun b o hb hbo=>?_) upd_same (zH (by decide+kernel)) ?_)
 ·rw[aC hb];exact s2 _ _ (s' _ _ (by rw[aC hb];exact hbo))
 ·refine .cons (x:=v1) ?_ ((r1.same g6).cold hf) (.cons (x:=v2) ?_ ((r2.same g6).cold hf2) (.cons (x:=.int (2*(z+y))) ?_ (.int _) .nil))
  ·rw[aU,if_neg (by decide+kernel),aU,if_neg (by decide+kernel),aU,if_pos rfl]
  ·rw[aU,if_neg (by decide+kernel),aU,if_pos rfl]
  ·rw[aU,if_pos rfl]
end PL
namespace PL
open PySem L2 Nh
theorem qY{α:Type}{cn:Str}{c:α}:∀{t:List (Str×α)},t.lookup cn=some c→(cn,c)∈t
 |[],h=>by cases h
 |(x,a)::t,h=>by
  rw[List.lookup_cons]at h
  split at h
  ·rename_i z
   cases h
   rw[beq_iff_eq.mp z]
   exact List.mem_cons_self ..
  ·exact List.mem_cons_of_mem _ (qY h)
inductive Disp (P:Program) (w:World) (K:PySem.W.Frag) (mg:Str→Option Value) (base:Heap) (k:Nat) (m:Str):List (Str×(List PyData→Option Sl))→Prop
 |nil:Disp P w K mg base k m []
 |cons {x:Str} {C:Addr} {a:List PyData→Option Sl} {t:List (Str×(List PyData→Option Sl))}:ClsOk K mg x C→OwnM P w K mg base k C m ["self"] (bQ K a)→Disp P w K mg base k m t→Disp P w K mg base k m ((x,a)::t)
theorem Disp.at{P:Program}{w:World}{K:PySem.W.Frag}{mg:Str→Option Value}{base:Heap}{k:Nat}{m:Str}{cn:Str}{c:List PyData→Option Sl}:∀{t:List (Str×(List PyData→Option Sl))},Disp P w K mg base k m t→(cn,c)∈t→∃C,ClsOk K mg cn C∧OwnM P w K mg base k C m ["self"] (bQ K c)
 |_,.nil,h=>nomatch h
 |_,.cons ck ow r,h=>by
  rcases List.mem_cons.mp h with e |e
  ·cases e;exact⟨_,ck,ow⟩
  ·exact r.at e
theorem Disp.ok{P:Program}{w:World}{K:PySem.W.Frag}{mg:Str→Option Value}{base:Heap}{k:Nat}{m:Str}{t:List (Str×(List PyData→Option Sl))}(h:Disp P w K mg base k m t)(hm:m∈mZ):DispM P w K mg base k m (kf t):=zF hm fun _ _ e=>h.at (qY e)
inductive Frees (K:PySem.W.Frag) (mg:Str→Option Value) (f:Str):List Str→Prop
 |nil:Frees K mg f []
 |cons {x:Str} {C:Addr} {t:List Str}:ClsOk K mg x C→NoAttr K C f→Frees K mg f t→Frees K mg f (x::t)
theorem Frees.ok{K:PySem.W.Frag}{mg:Str→Option Value}{f:Str}:∀{cs:List Str},Frees K mg f cs→∀cn∈cs,∀C,PySem.W.nsIn K mainGlobals cn=some (some (.ref C))→Cls K C∧NoAttr K C f
 |_,.nil,_,h,_,_=>nomatch h
 |_,.cons ck n r,cn,h,C,ns=>by
  rcases List.mem_cons.mp h with e |e
  ·subst e
   rw[ck.ns]at ns
   cases ns
   exact⟨ck.cl,n⟩
  ·exact r.ok cn e C ns
end PL
namespace PL
open PySem PySem.Spec PyProof.Rows L2 Nh PySem.W PySem.Calls Builtin Builtin.ObjectAttr Builtin.Getset_descriptor
structure ExCls (K:Frag) (C:Addr):Prop where
 cls:∃cd,clsIn K C=some cd
 ga:findIn K (.ref C) "__getattribute__"=some (some (.builtin "BaseException.__getattribute__"))
 gt:findIn K (.ref C) "__getattr__"=some none
 ca:findIn K (.ref C) "__class__"=some (some (.builtin "object.__class__"))
 mb:mroIn K C (.type "BaseException")=some true
 mo:mroIn K C (.type "object")=some true
section
variable {K:Frag} {a C:Addr} {M:Model} {h:Heap}
theorem l9(p:gD a C h):Looks M h (typeOf (.ref a)) (.ref C):=by
 obtain⟨o,h1,h2⟩:=p
 exact h2▸(Looks.ld h1).andThen .now
theorem zK{prog:Program}{w:World}{A:Around}{R:Result→Shared→Prop}{s:Shared}{tp:Value}(Z:ExCls K C)(X:K.In s.heap)(I:gD a C s.heap)(h:R (.ok (.ret (.ref C))) s):
  codeAny (model prog w) A (.call (.builtin "getset_descriptor.__get__") ⟨[.builtin "object.__class__",.ref a,tp],[]⟩) R s:=by
 obtain⟨hh,g,dr,t,os⟩:=s
 have L0:=l9 (M:=model prog w) I
 have L1:=looks_mroIn (M:=model prog w) X Z.mo
 refine codeAny_call_builtin KF.slot_gs.plain KF.entry_gs (KF.slot_gs.check _ _ _ _ _ _ _ _ KF.type_class (KF.args_gs _ _ _) ?_)
 unfold Builtin.«getset_descriptor.__get__» descrGet
 rw[dga_obj]
 refine wpAny_bind (wpAny_pure ?_)
 unfold descrGetter descrCheckInstance descrNameAndClass isInstance
 simp only[KF.owner_class]
 repeat lk
 refine⟨Code.quiet_builtin _ (by decide+kernel),codeAny_builtin KF.entry_class ?_⟩
 unfold Builtin.«object.__class__» shownTypeOf
 repeat lk
 exact h
theorem vm{prog:Program}{w:World}{A:Around}{E:Value→Shared→Prop}{Q:Fin→Shared→Prop}{s:Shared}{tk:Tok}(Z:ExCls K C)(X:K.In s.heap)(I:gD a C s.heap)(h:Q (.done (.ret (.ref C))) s):
  wpAny (model prog w) A (Builtin.«object.__getattribute__» ⟨[.ref a,.str "__class__" tk],[]⟩) Q E s:=by
 obtain⟨hh,g,dr,t,os⟩:=s
 have L0:=l9 (M:=model prog w) I
 have L1:=looks_findIn (M:=model prog w) X Z.ca
 have hT5:(⟨hh,g,dr,t,os⟩:Shared).TypeIs (.builtin "object.__class__") "getset_descriptor":=F.typeOf_object_class
 have f5:=F.typeOf_object_class
 have f6:=F.slot_gs_get.lookup
 have f7:=F.slot_gs_set.lookup
 repeat (any_goals (first |assumption |with_reducible refine L0.at ?_ |with_reducible refine L1.at ?_ |wp_step))
 refine zK Z X I ?_
 repeat (any_goals (first |assumption |wp_step))
theorem vn{A:Around}{E:Value→Shared→Prop}{nameV:Value}{Q:Unit→Shared→Prop}{s:Shared}(Z:ExCls K C)(X:K.In s.heap)(I:gD a C s.heap)(hq:Q () s):wpAny M A (checkBuiltinCall "BaseException.__getattribute__" ⟨[.ref a,nameV],[]⟩) Q E s:=by
 obtain⟨hh,g,dr,t,os⟩:=s
 have L0:=l9 (M:=M) I
 have L1:=looks_mroIn (M:=M) X Z.mb
 have hk:builtinKind "BaseException.__getattribute__"=some .slot:=by decide+kernel
 have hsplit:splitId "BaseException.__getattribute__"=some ("BaseException","__getattribute__"):=by decide+kernel
 have ha:=F.args_bexc_ga (.ref a) nameV
 simp only[checkBuiltinCall,hk,hsplit]
 refine wpAny_bind ?_
 unfold isInstance
 repeat (first |with_reducible refine L0.at ?_ |with_reducible refine L1.at ?_ |wp_step)
 exact hq
theorem Cl{prog:Program}{w:World}{A:Around}{E:Value→Shared→Prop}{Q:Value→Shared→Prop}{s:Shared}{tk:Tok}{fill expr:Bool}(Z:ExCls K C)(X:K.In s.heap)(I:gD a C s.heap)(hq:Q (.ref C) s):
  wpAny (model prog w) A (getAttrBy (.ref a) (.str "__class__" tk) fill expr) Q E s:=by
 obtain⟨hh,g,dr,t,os⟩:=s
 have L0:=l9 (M:=model prog w) I
 have L1:=looks_findIn (M:=model prog w) X Z.ga
 have L2:=looks_findIn (M:=model prog w) X Z.gt
 have f3:=F.attr_ValueError.ga.bind (.ref a)
 have hx0:(expr&&onTheHeap (Value.builtin "BaseException.__getattribute__"))=false:=by cases expr <;> rfl
 have hx2:(Value.builtin "BaseException.__getattribute__" == Value.builtin "object.__getattribute__")=false:=by decide+kernel
 have hx1:(onTheHeap (Value.ref C)&&Value.builtin "BaseException.__getattribute__" == Value.builtin "object.__getattribute__")=false:=by rw[hx2];rfl
 repeat (any_goals (first |assumption |with_reducible refine L0.at ?_ |with_reducible refine L1.at ?_ |with_reducible refine L2.at ?_ |wp_step))
 refine codeAny_call_builtin F.attr_ValueError.ga.plain F.entry_bexc_ga (vn Z X I (vm Z X I ?_))
 repeat (any_goals (first |assumption |wp_step))
theorem xi{prog:Program}{w:World}{A:Around}{E:Value→Shared→Prop}{Q:Option Value→Shared→Prop}{s:Shared}(Z:ExCls K C)(X:K.In s.heap)(I:gD a C s.heap)(hq:Q (some (.ref C)) {s with toks:=s.toks+1}):
  wpAny (model prog w) A (getAttr? (.ref a) "__class__") Q E s:=by
 obtain⟨hh,g,dr,t,os⟩:=s
 unfold getAttr?
 repeat (any_goals (first |assumption |with_reducible apply Cl (s:=⟨hh,g,dr,t+1,os⟩) Z X I |wp_step))
theorem xj(Z:ExCls K C):KitX K (.ref a) (.ref C) (gD a C) where
 ty:=fun _ _ _ I=>l9 I
 it:=fun _ _ X _=>by
  obtain⟨cdD,hcD⟩:=Z.cls
  unfold clsIn at hcD
  split at hcD
  ·rename_i c' d' cd' sl' ho
   intro A' Q' E' s' k q
   unfold isType loadHead
   exact wpAny_bind (wpAny_loadPart (k _ _ (X _ _ ho)) (wpAny_pure q))
  ·cases hcD
 ne:=fun h tp dd its n sl X htp=>by
  obtain⟨cdD,hcD⟩:=Z.cls
  refine Bool.eq_false_iff.mpr fun q=>?_
  have e:C=tp:=Value.ref.inj (beq_iff_eq.mp q)
  subst e
  unfold clsIn at hcD
  split at hcD
  ·rename_i c' d' cd' sl' ho
   have z:=(X _ _ ho).symm.trans htp
   cases z
  ·cases hcD
 ca:=fun X I k=>xi Z X I k
end
end PL
namespace PL
open PySem PySem.Spec PyProof.Rows L2 Nh
def Ctx0(e:Addr)(h:Heap):Prop:=∃o vs,h.get? e=some o∧o.data=.fields vs∧vs[2]? =some .none
def K2(f:Obj→Obj):Prop:=∀o vs,o.data=.fields vs→∃ws,(f o).data=.fields ws∧ws[2]? =vs[2]?
def Tm{α:Type}:Sem α→Prop
 |.pure _=>True
 |.raise _=>True
 |.unsupported _=>True
 |.rule _ k=>Tm (k ())
 |.at _ k=>Tm (k ())
 |.load _ _ k=>∀o,Tm (k o)
 |.update _ _ f k=>K2 f∧Tm (k ())
 |.loadIfAlive _ k=>∀o,Tm (k o)
 |.point _ k=>Tm (k ())
 |.alloc _ k=>∀a,Tm (k a)
 |.fresh k=>∀t,Tm (k t)
 |.handled _ k=>∀x,Tm (k x)
 |.stack k=>∀x,Tm (k x)
 |_=>False
theorem Tm.bind{α β:Type}{k:α→Sem β}(hk:∀a,Tm (k a)):∀{t:Sem α},Tm t→Tm (t >>= k)
 |.pure a,_=>hk a
 |.raise _,_=>trivial
 |.unsupported _,_=>trivial
 |.rule _ f,h=>Tm.bind hk (t:=f ()) h
 |.at _ f,h=>Tm.bind hk (t:=f ()) h
 |.load _ _ f,h=>fun o=>Tm.bind hk (t:=f o) (h o)
 |.update _ _ g f,h=>⟨h.1,Tm.bind hk (t:=f ()) h.2⟩
 |.loadIfAlive _ f,h=>fun o=>Tm.bind hk (t:=f o) (h o)
 |.point _ f,h=>Tm.bind hk (t:=f ()) h
 |.alloc _ f,h=>fun a=>Tm.bind hk (t:=f a) (h a)
 |.fresh f,h=>fun a=>Tm.bind hk (t:=f a) (h a)
 |.handled _ f,h=>fun a=>Tm.bind hk (t:=f a) (h a)
 |.stack f,h=>fun a=>Tm.bind hk (t:=f a) (h a)
 |.finish _,h=>h.elim
 |.register _ _,h=>h.elim
 |.ask _,h=>h.elim
 |.choose _ _ _,h=>h.elim
 |.os _ _ _,h=>h.elim
 |.call _ _ _ _ _,h=>h.elim
 |.newGen _ _,h=>h.elim
 |.genState _ _,h=>h.elim
 |.resume _ _ _ _,h=>h.elim
 |.yield _ _ _ _,h=>h.elim
 |.fork _ _,h=>h.elim
 |.thread _,h=>h.elim
 |.await _ _ _ _ _,h=>h.elim
theorem Ctx0.upd{e a:Addr}{h:Heap}{f:Obj→Obj}(x:Ctx0 e h)(k:K2 f):Ctx0 e (h.update a f):=by
 obtain⟨o,vs,ho,hd,h2⟩:=x
 by_cases q:a=e
 ·subst q
  obtain⟨ws,hw,e2⟩:=k o vs hd
  exact⟨_,ws,Heap.get?_update_self f ho (Obj.isFreed_of_fields hw),hw,e2.trans h2⟩
 ·exact⟨o,vs,(Heap.get?_update_other _ _ q).trans ho,hd,h2⟩
theorem jI{α:Type}{M:Model}{Γ:PySem.Ctx}{Q:α→Pos→Shared→Prop}{E:Value→Pos→Shared→Prop}{e:Addr}:∀{t:Sem α} {p:Pos} {s:Shared},Tm t→Ctx0 e s.heap→Sem.wp M Γ t Q E p s→Sem.wp M Γ t (fun a p s'=>Q a p s'∧Ctx0 e s'.heap) (fun x p s'=>E x p s'∧Ctx0 e s'.heap) p s
 |.pure a,p,s,_,c,h=>by rw[Sem.wp]at h ⊢;exact⟨h,c⟩
 |.raise _,p,s,_,c,h=>by rw[Sem.wp]at h ⊢;exact⟨h,c⟩
 |.unsupported _,p,s,_,c,h=>by rw[Sem.wp]at h;exact h.elim
 |.rule _ f,p,s,t,c,h=>by rw[Sem.wp]at h ⊢;exact jI (t:=f ()) t c h
 |.at _ f,p,s,t,c,h=>by rw[Sem.wp]at h ⊢;exact jI (t:=f ()) t c h
 |.load _ _ f,p,s,t,c,h=>by rw[Sem.wp]at h ⊢;obtain⟨o,ho,h⟩:=h;exact⟨o,ho,jI (t:=f o) (t o) c h⟩
 |.update _ _ g f,p,s,t,c,h=>by rw[Sem.wp]at h ⊢;exact⟨h.1,jI (t:=f ()) t.2 (c.upd t.1) h.2⟩
 |.loadIfAlive _ f,p,s,t,c,h=>by rw[Sem.wp]at h ⊢;exact jI (t:=f _) (t _) c h
 |.point _ f,p,s,t,c,h=>by rw[Sem.wp]at h ⊢;exact jI (t:=f ()) t c h
 |.alloc _ f,p,s,t,c,h=>by rw[Sem.wp]at h ⊢;exact jI (t:=f _) (t _) (let ⟨o,vs,ho,r⟩:=c;⟨o,vs,Heap.get?_push_of_some _ ho,r⟩) h
 |.fresh f,p,s,t,c,h=>by rw[Sem.wp]at h ⊢;exact jI (t:=f _) (t _) c h
 |.handled _ f,p,s,t,c,h=>by rw[Sem.wp]at h ⊢;exact jI (t:=f _) (t _) c h
 |.stack f,p,s,t,c,h=>by rw[Sem.wp]at h ⊢;exact jI (t:=f _) (t _) c h
 |.finish _,_,_,h,_,_=>h.elim
 |.register _ _,_,_,h,_,_=>h.elim
 |.ask _,_,_,h,_,_=>h.elim
 |.choose _ _ _,_,_,h,_,_=>h.elim
 |.os _ _ _,_,_,h,_,_=>h.elim
 |.call _ _ _ _ _,_,_,h,_,_=>h.elim
 |.newGen _ _,_,_,h,_,_=>h.elim
 |.genState _ _,_,_,h,_,_=>h.elim
 |.resume _ _ _ _,_,_,h,_,_=>h.elim
 |.yield _ _ _ _,_,_,h,_,_=>h.elim
 |.fork _ _,_,_,h,_,_=>h.elim
 |.thread _,_,_,h,_,_=>h.elim
 |.await _ _ _ _ _,_,_,h,_,_=>h.elim
theorem xk{α:Type}{M:Model}{A:Around}{Q:α→Shared→Prop}{E:Value→Shared→Prop}{e:Addr}{t:Sem α}{s:Shared}(T:Tm t)(c:Ctx0 e s.heap)(h:wpAny M A t Q E s):wpAny M A t (fun a s'=>Q a s'∧Ctx0 e s'.heap) (fun x s'=>E x s'∧Ctx0 e s'.heap) s:=fun Γ p hΓ=>jI T c (h Γ p hΓ)
theorem vo(v:Value):Tm (fieldsOf v):=by
 unfold fieldsOf
 split
 ·refine Tm.bind (fun o=>?_) (fun o=>trivial)
  split <;> trivial
 ·trivial
theorem ln(v:Value)(i:Nat):Tm (field v i):=by
 unfold field
 refine Tm.bind (fun vs=>?_) (vo v)
 split <;> trivial
theorem xm{i:Nat}{x:Value}(h:i≠2):K2 (Obj.mapFields (·.setIfInBounds i x)):=fun o vs hd=>⟨_,Obj.data_mapFields hd _,by rw[Array.getElem?_setIfInBounds_ne h]⟩
theorem sN(v:Value){i:Nat}(x:Value)(h:i≠2):Tm (setField v i x):=by
 unfold setField
 split
 ·unfold updateField
  refine Tm.bind (fun o=>?_) (fun o=>trivial)
  split
  ·split
   ·exact⟨xm h,trivial⟩
   ·trivial
  ·trivial
 ·trivial
theorem vp(env:Env)(outer:List Env):Tm (behindIsImport env outer):=by
 unfold behindIsImport
 split
 ·trivial
 ·split
  ·trivial
  ·refine Tm.bind (fun a=>?_) (ln _ _)
   trivial
theorem xn:Tm underTheClaimsCaller:=by
 unfold underTheClaimsCaller
 refine Tm.bind (fun a=>?_) (fun a=>?_)
 ·trivial
 ·trivial
theorem zL(env:Env)(b:Bool)(outer:List Env):Tm (keptBack env b outer):=by
 cases outer with
 |nil=>
  show Tm (if _ then _ else _)
  by_cases h:(env.scope.isGenerator||env.scope.isCoroutine)=true
  ·rw[if_pos h];trivial
  ·rw[if_neg h]
   refine Tm.bind (fun a=>?_) xn
   trivial
 |cons c r=>trivial
theorem qZ:∀l:List Env,Tm (readyFrames l)
 |[]=>trivial
 |env::outer=>by
  unfold readyFrames
  split
  ·refine Tm.bind (fun o=>?_) (fun o=>?_)
   ·split
    ·trivial
    ·refine Tm.bind (fun _=>?_) (vp _ _)
     refine Tm.bind (fun _=>?_) (zL _ _ _)
     refine Tm.bind (fun _=>qZ outer) ?_
     exact⟨fun o vs hd=>⟨vs,hd,rfl⟩,trivial⟩
   ·trivial
  ·trivial
theorem sO(env:Env):Tm (PySem.frameOf env):=by
 unfold PySem.frameOf
 refine Tm.bind (fun l=>?_) ?_
 ·refine Tm.bind (fun o=>?_) ?_
  ·split <;> trivial
  ·generalize List.dropWhile _ _=l
   cases l with
   |nil=>trivial
   |cons e r=>
    refine Tm.bind (fun _=>?_) (qZ _)
    trivial
 ·refine Tm.bind (fun a=>?_) (fun a=>?_)
  ·trivial
  ·trivial
theorem xo(f:Addr)(b:Bool):Tm (entryPlaceOf f b):=by
 unfold entryPlaceOf
 refine Tm.bind (fun l=>?_) (fun _=>?_)
 ·split <;> trivial
 ·trivial
theorem Cp(ty:String)(vs:List Value):Tm (newFields ty vs):=by
 show Tm (if _ then _ else _)
 split
 ·trivial
 ·refine Tm.bind (fun _=>?_) (fun _=>?_)
  ·trivial
  ·trivial
theorem pV(e:Value)(env:Env):Tm (noteFrame e env):=by
 have last:∀(hd:Value) (f:Addr),Tm (do setField e 1 (←EntryCells.newEntry hd (←PySem.frameOf env) .none (rawInt f) .none (←entryPlaceOf f (hd !=.none)))):=fun hd f=>by
  refine Tm.bind (fun fr=>?_) (sO _)
  refine Tm.bind (fun pl=>?_) (xo _ _)
  refine Tm.bind (fun en=>?_) (Cp _ _)
  exact sN _ _ (by decide)
 unfold noteFrame
 split
 ·refine Tm.bind (fun hd=>?_) (ln _ _)
  split
  ·refine Tm.bind (fun w=>?_) (ln _ _)
   split
   ·trivial
   ·refine Tm.bind (fun _=>last _ _) (sN _ _ (by decide))
  ·exact last _ _
 ·trivial
theorem l_(e:Value):Tm (setFlight e none):=by
 unfold setFlight
 refine Tm.bind (fun tb=>?_) (ln _ _)
 split
 ·exact sN _ _ (by decide)
 ·trivial
theorem nv(env:Env)(e:Value):Tm (leaving env e):=by
 unfold leaving
 exact Tm.bind (fun _=>l_ e) (pV e env)
def FlyC(base:Heap)(l:List Env)(e:Addr)(cls a0:Value)(h:Heap):Prop:=base.StaysIn h∧base.get? e=none∧h.FunFrames base l∧h.TracedW base e cls a0∧Ctx0 e h
def HeldC(base:Heap)(l:List Env)(e:Addr)(cls a0:Value)(L:Addr)(h:Heap):Prop:=base.StaysIn h∧base.get? e=none∧h.FunFrames base l∧h.TracedAtW base e cls a0 (rawInt L)∧Ctx0 e h
section
variable {M:Model} {A:Around} {E:Value→Shared→Prop} {s:Shared} {base:Heap} {env:Env} {outer l:List Env} {L e:Addr} {cls a0:Value} {Q:Unit→Shared→Prop} {h:Heap}
theorem FlyC.to(x:FlyC base l e cls a0 h):Heap.FlyingW base l e cls a0 h:=⟨x.1,x.2.1,x.2.2.1,x.2.2.2.1⟩
theorem FlyC.of(x:Heap.FlyingW base l e cls a0 h)(c:Ctx0 e h):FlyC base l e cls a0 h:=⟨x.1,x.2.1,x.2.2.1,x.2.2.2,c⟩
theorem HeldC.to(x:HeldC base l e cls a0 L h):Heap.HeldW base l e cls a0 L h:=⟨x.1,x.2.1,x.2.2.1,x.2.2.2.1⟩
theorem HeldC.of(x:Heap.HeldW base l e cls a0 L h)(c:Ctx0 e h):HeldC base l e cls a0 L h:=⟨x.1,x.2.1,x.2.2.1,x.2.2.2,c⟩
theorem FlyC.there(x:FlyC base l e cls a0 h):∃ob,h.get? e=some ob∧ob.cls=cls:=x.to.there
theorem FlyC.first(x:FlyC base l e cls a0 h):∃oe vs,h.get? e=some oe∧oe.cls=cls∧oe.data=.fields vs∧vs[0]? =some a0:=x.to.first
theorem HeldC.there(x:HeldC base l e cls a0 L h):∃ob,h.get? e=some ob∧ob.cls=cls:=x.to.there
theorem pj{t:Sem Unit}{P:Heap→Prop}(T:Tm t)(c:Ctx0 e s.heap)(k:∀{Q:Unit→Shared→Prop},(∀h',P h'→Q () {s with heap:=h'})→wpAny M A t Q E s)(hQ:∀h',P h'→Ctx0 e h'→Q () {s with heap:=h'}):wpAny M A t Q E s:=
 wpAny_mono (xk T c (k (Q:=fun _ s'=>∃h',P h'∧s'={s with heap:=h'}) fun h' p=>⟨h',p,rfl⟩)) (fun _ s' ⟨⟨h',p,z⟩,c'⟩=>by subst z;exact hQ h' p c') fun _ _ z=>z.1
theorem sP(hfr:A.frames=some (env::outer))(hf:env.frame=some L)(hfl:FlyC base (env::outer) e cls a0 s.heap)(hQ:∀h',FlyC base outer e cls a0 h'→s.heap.UpToSlots h'→Q () {s with heap:=h'}):wpAny M A (leaving env (.ref e)) Q E s:=
 pj (P:=fun h'=>Heap.FlyingW base outer e cls a0 h'∧s.heap.UpToSlots h') (nv _ _) hfl.2.2.2.2 (fun k=>wpAny_leaves_onW hfr hf hfl.to fun h' a b=>k h' ⟨a,b⟩) fun h' p c=>hQ h' (.of p.1 c) p.2
theorem pk(hfr:A.frames=some (env::outer))(hf:env.frame=some L)(hfl:FlyC base (env::outer) e cls a0 s.heap)(hQ:∀h',HeldC base (env::outer) e cls a0 L h'→s.heap.UpToSlots h'→Q () {s with heap:=h'}):wpAny M A (noteFrame (.ref e) env) Q E s:=
 pj (P:=fun h'=>Heap.HeldW base (env::outer) e cls a0 L h'∧s.heap.UpToSlots h') (pV _ _) hfl.2.2.2.2 (fun k=>wpAny_looks_onW hfr hf hfl.to fun h' a b=>k h' ⟨a,b⟩) fun h' p c=>hQ h' (.of p.1 c) p.2
theorem xp(hh:HeldC base l e cls a0 L s.heap)(hQ:∀h',FlyC base l e cls a0 h'→s.heap.UpToSlots h'→Q () {s with heap:=h'}):wpAny M A (setFlight (.ref e) none) Q E s:=
 pj (P:=fun h'=>Heap.FlyingW base l e cls a0 h'∧s.heap.UpToSlots h') (l_ _) hh.2.2.2.2 (fun k=>wpAny_landsW hh.to fun h' a b=>k h' ⟨a,b⟩) fun h' p c=>hQ h' (.of p.1 c) p.2
theorem pW(hh:FlyC base l e cls a0 s.heap)(hQ:∀h',FlyC base l e cls a0 h'→s.heap.UpToSlots h'→Q () {s with heap:=h'}):wpAny M A (setFlight (.ref e) none) Q E s:=
 pj (P:=fun h'=>Heap.FlyingW base l e cls a0 h'∧s.heap.UpToSlots h') (l_ _) hh.2.2.2.2 (fun k=>lands_againW hh.to fun h' a b=>k h' ⟨a,b⟩) fun h' p c=>hQ h' (.of p.1 c) p.2
theorem q9{args:List Value}{h':Heap}(hx:Heap.MadeExcOf h h' e cls args):Ctx0 e h':=let ⟨_,he,_⟩:=hx.there;⟨_,_,he,rfl,rfl⟩
theorem pX{args:List Value}(hfr:A.frames=some (env::outer))(hf:env.frame=some L)(hkb:base.StaysIn h)(hl:h.FunFrames base (env::outer))(hx:Heap.MadeExcOf h s.heap e cls args)
  (hQ:∀h' t,FlyC base outer e cls (.ref t) h'→h'.TupAt t args→base.get? t=none→s.heap.UpToSlots h'→Q () {s with heap:=h'}):wpAny M A (leaving env (.ref e)) Q E s:=
 pj (P:=fun h'=>∃t,Heap.FlyingW base outer e cls (.ref t) h'∧h'.TupAt t args∧base.get? t=none∧s.heap.UpToSlots h') (nv _ _) (q9 hx) (fun k=>wpAny_leaves_madeW hfr hf hkb hl hx fun h' t a b c d=>k h' ⟨t,a,b,c,d⟩) fun h' ⟨t,a,b,c,d⟩ z=>hQ h' t (.of a z) b c d
end
end PL
namespace PL
open PySem PySem.Spec PyProof.Rows L2 Nh
structure UnB (fs:List Addr) (H H':Hp) (h B h':Heap):Prop where
 keep:∀b o,h.get? b=some o→H b=none→b∉fs→B.get? b=some o
 slot:∀b o,h.get? b=some o→H b=none→b∈fs→∃sl,h'.get? b=some {o with slots:=sl}
 free:∀b o,h.get? b=some o→H b=none→H' b=none
 there:∀b o,h.get? b=some o→b∉fs→∃o',B.get? b=some o'
 tups:∀b xs,H b=some (.tup xs)→H' b=some (.tup xs)
 frzs:∀b o u,H b=some (.frz o u)→H' b=some (.frz o u)
 tbls:∀b ps,H b=some (.tbl ps)→H' b=some (.tbl ps)
theorem UnB.un{fs:List Addr}{H H':Hp}{h B h':Heap}(u:UnB fs H H' h B h')(st:B.StaysIn h')(hf:∀b∈fs,H b=none):Un fs [] H H' h h':=
 ⟨fun b o e n hb _=>st b o (u.keep b o e n hb),fun b o e n hb _=>u.slot b o e n hb,fun b o e n _=>u.free b o e n,fun b o e _=>by
  by_cases hb:b∈fs
  ·obtain⟨sl,z⟩:=u.slot b o e (hf b hb) hb
   exact⟨_,z⟩
  ·obtain⟨o',z⟩:=u.there b o e hb
   exact⟨o',st b o' z⟩,u.tups,u.frzs,u.tbls⟩
theorem UnB.on{l:List Env}{H H':Hp}{h B h' h2:Heap}(u:UnB (kP l) H H' h B h')(ff:h'.FunFrames B l)(k:h'.UpToSlots h2):UnB (kP l) H H' h B h2:=
 ⟨u.keep,fun b o e n hb=>by
  obtain⟨sl,z⟩:=u.slot b o e n hb
  obtain⟨_,o',ho',hd⟩:=ff.mem hb
  rw[z]at ho'
  cases ho'
  obtain⟨sl2,z2⟩:=k b _ z hd
  exact⟨sl2,z2⟩,u.free,u.there,u.tups,u.frzs,u.tbls⟩
theorem UnB.out{X:Cx}{pins:List (Addr×Obj)}{σ:L2.St}{H H':Hp}{s:Shared}{B h':Heap}(I:Inv X pins σ H s)(hx:X.ex=[])(u:UnB (kP X.stack) H H' s.heap B h'):UnB X.fs X.H₀ H' X.s₀.heap B h':=by
 have nx:∀b:Addr,b∉X.ex:=fun b z=>by rw[hx]at z;cases z
 have ne:∀b o,X.s₀.heap.get? b=some o→b≠X.env.locals:=fun b o e=>Nat.ne_of_lt (Nat.lt_of_lt_of_le (Heap.lt_size e) I.ok.above)
 have nf:∀b o,X.s₀.heap.get? b=some o→b∉X.fs→b∉kP X.stack:=fun b o e hb z=>(List.mem_cons.mp (I.stkSub b z)).elim (ne b o e) hb
 refine⟨fun b o e n hb=>u.keep b o (I.base.keep b o e n hb (nx b)) (I.base.free b o e n (nx b)) (nf b o e hb),fun b o e n hb=>?_,fun b o e n=>?_,fun b o e hb=>?_,fun b xs e=>u.tups b xs (I.base.tups b xs e),fun b o v e=>u.frzs b o v (I.base.frzs b o v e),fun b ps e=>u.tbls b ps (I.base.tbls b ps e)⟩
 ·obtain⟨sl,z⟩:=I.base.slot b o e n hb (nx b)
  have hb':b∈kP X.stack:=by
   rcases I.ok.stk with q |⟨q,hf⟩
   ·rw[q];exact hb
   ·rw[q];unfold kP;rw[List.filterMap_cons,hf];exact List.mem_cons_of_mem _ hb
  obtain⟨sl2,z2⟩:=u.slot b _ z (I.base.free b o e n (nx b)) hb'
  exact⟨sl2,z2⟩
 ·obtain⟨o',z⟩:=I.base.there b o e (nx b)
  exact u.free b o' z (I.base.free b o e n (nx b))
 ·obtain⟨o',z⟩:=I.base.there b o e (nx b)
  exact u.there b o' z (nf b o e hb)
theorem q_{P:Program}{w:World}{H:Hp}{h:Heap}{a:Addr}{o:HO}(x:ObjOk P w H h a o):∃u,h.get? a=some u:=by
 cases o with
 |lst xs=>obtain⟨_,_,_,_,e⟩:=x;exact⟨_,e⟩
 |tup xs=>obtain⟨_,_,_,o,e,_⟩:=x;exact⟨_,e⟩
 |dK kvs=>obtain⟨_,_,_,_,o,_,_,e,_⟩:=x;exact⟨_,e⟩
 |dT kvs=>obtain⟨_,_,_,_,o,_,_,e,_⟩:=x;exact⟨_,e⟩
 |set S n=>obtain⟨o,_,_,_,e,_⟩:=x;exact⟨_,e⟩
 |ins C dx fs=>obtain⟨_,_,_,e,_⟩:=x;exact⟨_,e⟩
 |own y=>obtain⟨_,e⟩:=x;exact⟨_,e⟩
 |xd fs=>obtain⟨_,⟨_,_,_,e,_⟩,_⟩:=x;exact⟨_,e⟩
 |rng lo hi=>obtain⟨_,_,_,e⟩:=x;exact⟨_,e⟩
 |frz ob u=>obtain⟨e,_⟩:=x;exact⟨_,e⟩
 |tbl q=>obtain⟨_,e,_⟩:=x;exact⟨_,e⟩
 |met f y=>exact⟨_,(show h.get? a=some _ from x)⟩
 |ext φ=>obtain⟨_,⟨_,e⟩,_⟩:=x;exact⟨_,e⟩
def A9(P:Program)(w:World):uW:=fun outer H s E e s'=>∃H' ea C a0 B,e=.ref ea∧E (.ref C) none H'∧s'.os=s.os∧AllBare s'.gens∧FlyC B outer ea (.ref C) a0 s'.heap∧HOk P w H' B∧UnB (kP outer) H H' s.heap B s'.heap
def xq(X:Cx)(C:Addr)(pins:List (Addr×Obj))(σ:L2.St)(H:Hp):Prop:=∀s h' ea vs,Inv X pins σ H s→Heap.MadeExcOf s.heap h' ea (.ref C) vs→X.xe (.ref ea) {s with heap:=h'}
def vq(X:Cx)(C:Addr)(pins:List (Addr×Obj))(σ:L2.St)(H':Hp):Prop:=∀H s ea s' a0 B,Inv X pins σ H s→s'.os=s.os→AllBare s'.gens→FlyC B X.stack ea (.ref C) a0 s'.heap→HOk X.prog X.w H' B→UnB (kP X.stack) H H' s.heap B s'.heap→X.xe (.ref ea) s'
def re(X:Cx)(C:Addr)(pins:List (Addr×Obj))(σ:L2.St)(H':Hp):Prop:=∀H s ea s' a0 B,Inv X pins σ H s→s'.os=s.os→AllBare s'.gens→HeldC B X.stack ea (.ref C) a0 X.env.locals s'.heap→HOk X.prog X.w H' B→UnB (kP X.stack) H H' s.heap B s'.heap→X.xe (.ref ea) s'
theorem rh{M:Model}{A:Around}{E:Value→Shared→Prop}{s:Shared}{base:Heap}{env:Env}{outer:List Env}{L e:Addr}{cls a0:Value}{Q:Unit→Shared→Prop}(hf:env.frame=some L)(hh:HeldC base (env::outer) e cls a0 L s.heap)
  (hQ:∀h',FlyC base outer e cls a0 h'→s.heap.UpToSlots h'→Q () {s with heap:=h'}):wpAny M A (leaving env (.ref e)) Q E s:=by
 unfold leaving
 refine wpAny_bind (wpAny_noteFrame_againW hf hh.2.2.2.1 ?_)
 refine xp hh fun h' hfl k=>?_
 obtain⟨k1,k2,⟨_,_,k3⟩,k4⟩:=hfl
 exact hQ h' ⟨k1,k2,k3,k4⟩ k
section
variable {P:Program} {w:World} {K:PySem.W.Frag} {mg:Str→Option Value} {base:Heap} {N:List Str} {qual:Str} {scope:Scope} {f:Addr} {cd:Value} {A:Around} {outer:List Env} {s:Shared} {H H':Hp} {E:XK} {C:Addr} {pins:List (Addr×Obj)} {σ:L2.St}
theorem zM(hE:E (.ref C) none H'):xq (iW (A9 P w) P w K mg base N qual scope f cd A outer s H E) C pins σ H':=by
 intro s1 h' ea vs I hx
 show wpAny (model P w) _ (leaving _ (.ref ea)) _ _ _
 have st:=I.stack
 have hin:∀env∈(iW (A9 P w) P w K mg base N qual scope f cd A outer s H E).stack,∀b,env.frame=some b→b∈kP (iW (A9 P w) P w K mg base N qual scope f cd A outer s H E).stack:=fun env he b hb=>List.mem_filterMap.mpr ⟨env,he,hb⟩
 refine pX (base:=PySem.W.hideAll s1.heap (kP (iW (A9 P w) P w K mg base N qual scope f cd A outer s H E).stack)) (h:=s1.heap) I.ok.frames rfl (fun b o q=>PySem.W.of_hideAll _ q) (PySem.W.funFrames_hide st hin) hx fun h2 t x1 x2 x3 x4=>?_
 refine⟨H',ea,C,_,_,rfl,hE,I.os,I.bare,x1,fun a o e=>?_,?_⟩
 ·refine(I.hok a o e).stay (fun b u hb q=>PySem.W.hideAll_get _ q fun z=>?_) (fun _ q=>q) fun _ _ q=>q
  have n:=I.stkFree b z
  rcases hb with rfl |hb
  ·rw[n]at e;cases e
  ·rw[n]at hb;cases hb
 ·refine UnB.out I rfl ⟨fun b o e n hb=>PySem.W.hideAll_get _ e hb,fun b o e n hb=>?_,fun _ _ _ n=>n,fun b o e hb=>⟨o,PySem.W.hideAll_get _ e hb⟩,fun _ _ e=>e,fun _ _ _ e=>e,fun _ _ e=>e⟩
  obtain⟨_,o',ho',hd⟩:=st.mem hb
  rw[e]at ho'
  cases ho'
  exact x4 b o (hx.keeps b o e) hd
theorem Cq(hE:E (.ref C) none H'):vq (iW (A9 P w) P w K mg base N qual scope f cd A outer s H E) C pins σ H':=by
 intro H1 s1 ea s' a0 B I os bare fl hok u
 show wpAny (model P w) _ (leaving _ (.ref ea)) _ _ _
 refine sP I.ok.frames rfl fl fun h2 x1 x2=>?_
 exact⟨H',ea,C,a0,B,rfl,hE,os.trans I.os,bare,x1,hok,UnB.out I rfl (u.on fl.2.2.1 x2)⟩
theorem zN(hE:E (.ref C) none H'):re (iW (A9 P w) P w K mg base N qual scope f cd A outer s H E) C pins σ H':=by
 intro H1 s1 ea s' a0 B I os bare fl hok u
 show wpAny (model P w) _ (leaving _ (.ref ea)) _ _ _
 refine rh rfl fl fun h2 x1 x2=>?_
 exact⟨H',ea,C,a0,B,rfl,hE,os.trans I.os,bare,x1,hok,UnB.out I rfl (u.on fl.2.2.1 x2)⟩
end
abbrev i8:=List Sl→Option (Str×List Sl)
def yH(X:Cx)(mk al:Bool)(body:List Stmt)(r:i8):Prop:=∀pins s σ H B E n E',Inv X pins σ H s→Frm X.K B σ H E [] []→r E=some (n,E')→
 (∀pins',(al=false→pins'=pins)→∀σ' C H',PySem.W.nsIn X.K mainGlobals n=some (some (.ref C))→Frm X.K B σ' H' E' [] []→(mk=true→xq X C pins' σ' H')∧vq X C pins' σ' H'∧(al=true→re X C pins' σ' H'))→wpAny (model X.prog X.w) X.A (execs body X.env) (fun _ _=>False) X.xe s
def RX(X:Cx)(mk al:Bool)(st:Stmt)(r:i8):Prop:=∀pins s σ H B E n E',Inv X pins σ H s→Frm X.K B σ H E [] []→r E=some (n,E')→
 (∀pins',(al=false→pins'=pins)→∀σ' C H',PySem.W.nsIn X.K mainGlobals n=some (some (.ref C))→Frm X.K B σ' H' E' [] []→(mk=true→xq X C pins' σ' H')∧vq X C pins' σ' H'∧(al=true→re X C pins' σ' H'))→wpAny (model X.prog X.w) X.A (exec st X.env) (fun _ _=>False) X.xe s
def fU(g:cy)(r:i8):i8:=fun E=>match g E with
 |some (E',.nx)=>r E'
 |_=>none
def nS(t:iU)(r:i8):i8:=fun E=>match t E with
 |some (true,E')=>r E'
 |_=>none
def kE(r q:i8):i8:=fun E=>match r E with
 |some x=>some x
 |none=>q E
def jJ(n:Str):i8:=fun E=>some (n,E)
section
variable {X:Cx} {mk al:Bool} {st:Stmt} {dW a b:List Stmt} {g:cy} {r:i8} {c:Expr} {m:Bool} {t:iU} {pos:Pos}
theorem cw(h:RX X mk al st r):yH X mk al (st::dW) r:=fun pins s σ H B E n E' I fr e k=>
 wpAny_execs_cons (wpAny_mono (h pins s σ H B E n E' I fr e k) (fun _ _ z=>z.elim) fun _ _ z=>z)
theorem hZ(h1:SX X.nox st g)(h2:yH X mk al dW r):yH X mk al (st::dW) (fU g r):=fun pins s σ H B E n E' I fr e k=>by
 unfold fU at e
 split at e
 ·rename_i E1 eg
  have q:=h1 pins s σ H {nx:=fun σ' H'=>Frm X.K B σ' H' E1 [] [],bk:=fun _ _=>False,ct:=fun _ _=>False,rt:=fun _ _=>False} (I.wish _) ⟨B,E,[],[],E1,.nx,fr,rfl,eg,fun σ' H' f=>f⟩
  refine wpAny_execs_cons (wpAny_mono q (fun f s1 z=>?_) fun _ _ z=>z.elim)
  cases f with
  |next=>obtain⟨σ',H',I',fr'⟩:=z;exact h2 pins s1 σ' H' B E1 n E' I'.unwish fr' e k
  |brk=>obtain⟨_,_,_,z⟩:=z;exact z.elim
  |cont=>obtain⟨_,_,_,z⟩:=z;exact z.elim
  |ret u=>obtain⟨_,_,_,_,_,z⟩:=z;exact z.elim
 ·cases e
theorem pq(hc:TX X.nox c m t)(h:yH X mk al a r):RX X mk al (.If c a b pos) (nS t r):=fun pins s σ H B E n E' I fr e k=>by
 unfold nS at e
 split at e
 ·rename_i E1 et
  have q:=hc pins s σ H (fun bb H1=>bb=true∧Frm X.K B σ H1 E1 [] []) (I.wish _) ⟨B,E,[],[],true,E1,fr,fun _=>Calm.nil rfl,et,fun H1 f=>⟨rfl,f⟩⟩
  refine wpAny_If (wpAny_mono q (fun bb s1 z=>?_) fun _ _ z=>z.elim)
  obtain⟨H1,I1,rfl,fr1⟩:=z
  exact h pins s1 σ H1 B E1 n E' I1.unwish fr1 e k
 ·cases e
theorem ms{q:i8}(h1:yH X mk al a r)(h2:yH X mk al a q):yH X mk al a (kE r q):=fun pins s σ H B E n E' I fr e k=>by
 unfold kE at e
 split at e
 ·rename_i x ex
  cases e
  exact h1 pins s σ H B E n E' I fr ex k
 ·exact h2 pins s σ H B E n E' I fr e k
end
end PL
namespace PL
open PySem PySem.Spec PyProof.Rows L2 Nh
abbrev Gp:List Value:=[.type "ValueError",.type "Exception",.type "BaseException",.type "object"]
structure XC (K:PySem.W.Frag) (mg:Str→Option Value) (x:Str) (C:Addr):Prop where
 ns:PySem.W.nsIn K mainGlobals x=some (some (.ref C))
 mg:mg x=some (.ref C)
 ex:PySem.W.excIn K C Gp "ValueError.__new__"=true
 cls:ExCls K C
theorem Cr{K:PySem.W.Frag}{h:Heap}{mg:Str→Option Value}{x:Str}{C:Addr}{bmB:List Value}{newId:String}(X:K.In h)(m:mg x=some (.ref C))(q:PySem.W.excIn K C bmB newId=true):OwnCls x C bmB newId mg h:=by
 refine⟨m,?_⟩
 unfold PySem.W.excIn at q
 split at q
 ·rename_i dd cd sl ho
  split at q
  ·rename_i C' bm k0 k1 k2 k3 n k5 hm hs
   simp only[Bool.and_eq_true,beq_iff_eq,Bool.not_eq_true']at q
   obtain⟨⟨⟨⟨⟨rfl,rfl⟩,hdel⟩,ht⟩,hok⟩,hni⟩:=q
   obtain⟨nm,bs,mro,ns,qn,hd,sn,sub,ab,col,del⟩:=cd
   dsimp only at hm hdel hok hni
   subst hm hdel
   have hsl:sl=#[k0,k1,k2,k3,some (.builtin n),k5]:=by
    obtain⟨l⟩:=sl
    simp only at hs
    rw[hs]
   subst hsl
   exact⟨bm,ns,nm,qn,bs,hd,sn,sub,ab,col,dd,k0,k1,k2,k3,k5,_,X _ _ ho,.of_isNs (PySem.W.isNs_of_in X hok),PySem.W.nsMap_none_of_in X hok hni,PySem.W.tail_of_in X ht⟩
  ·cases q
 ·cases q
section
variable {X:Cx} {mk al:Bool} {x:Str} {C:Addr} {np p cpos pos:Pos}
theorem jK {tx:Str} {j:Nat} (hcalm:X.calm=true) (hg:Gl X x) (Z:XC X.K X.mg x C) (hd:(x == ("__debug__":Str))=false:=by decide)
  (he:starEach [.Constant (.str tx) j p] X.env=[(false,eval (.Constant (.str tx) j p) X.env)]:=by rfl):
  RX X true al (.Raise (some (.Call (.Name x np) [.Constant (.str tx) j p] [] cpos)) none pos) (jJ x):=fun pins s σ H B E n E' I fr e k=>by
 cases e
 obtain⟨tl,N,nm,q,bs,hdct,sn,sub,ab,col,dd,k0,k1,k2,k3,k5,mN,hC,hN,hni,T⟩:=(Cr I.ok.mod.kin Z.mg Z.ex).obj
 refine wpAny_Raise_call_subT (C:=C) (nm:=nm) (q:=q) (N:=N) (bs:=bs) (bm:=tl) (hdct:=hdct) (sn:=sn) (sub:=sub) (ab:=ab) (col:=col) (dd:=dd) (k0:=k0) (k1:=k1) (k2:=k2) (k3:=k3) (k5:=k5)
  PySem.F.excBase_ValueError (mN:=mN) (T.hasType PySem.F.excBase_ValueError.hasBase) (I.ok.hd hcalm) (by rw[he];rfl) hni (iq I hg Z.mg ⟨rfl,?_⟩ hd)
 have q1:=c_ (X:=X) (rW (x:=tx) (j:=j) (pos:=p)) fi he cpos pins s σ H (fun vs H1=>vs=[.str tx]∧H1=H) I ⟨rfl,rfl⟩
 rw[he]at q1 ⊢
 refine Calls.evalArgs_plain (dF q1 fun vs s2 ⟨us,H2,I2,r,eu,eH⟩=>?_)
 subst eu eH
 have fin:=(k pins (fun _=>rfl) σ C H2 Z.ns fr).1 rfl
 exact⟨rfl,by rw[←r.length];exact Nat.le_of_ble_eq_true rfl,I2.bk _ _ hC,hN.keeps I2.bk,T.keeps I2.bk,fun h' ea hm=>fin s2 h' ea vs I2 hm⟩
end
def nw(K:PySem.W.Frag)(r:List PyData→Option Str):Sp:=fun vs H _ E=>∃ds n,r ds=some n∧RpA K H vs ds∧∀C H',PySem.W.nsIn K mainGlobals n=some (some (.ref C))→Same H H'→E (.ref C) none H'
structure OwnR (P:Program) (w:World) (K:PySem.W.Frag) (mg:Str→Option Value) (base:Heap) (k:Nat) (x:Str) (ps:List Str) (sp:Sp):Prop where
 ex:∃(f:Addr) (fd:FuncData),FnOk P w K mg base (A9 P w) k f fd ps sp∧Binds K fd ps []∧mg x=some (.ref f)∧PySem.W.keepIn K (.ref f)=true
def df(r:List PyData→Option Str)(g:m8):i8:=fun E=>(g E).bind fun a=>(ax a.2 a.1).bind fun ds=>(r ds).map fun n=>(n,a.2)
section
variable {X:Cx} {k:Nat} {x:Str} {ps:List Str} {r:List PyData→Option Str} {p pos cpos:Pos} {e:Expr} {es:List Expr} {m:Bool} {g:m8}
theorem vt (D:OwnR X.prog X.w X.K X.mg X.base k x ps (nw X.K r)) (hr:Room k X.A) (hg:Gl X x) (ha:AX X.nox (e::es) m g) (hdb:(x == ("__debug__":Str))=false) (he:starEach (e::es) X.env=(false,eval e X.env)::starEach es X.env) (hpl:(backTo pos (starEach es X.env)).any (·.1)=false)
  {pins:List (Addr×Obj)} {s:Shared} {σ:L2.St} {H B:Hp} {E E':List Sl} {n:Str} (I:Inv X pins σ H s) (fr:Frm X.K B σ H E [] []) (ee:df r g E=some (n,E')) (k:∀C H',PySem.W.nsIn X.K mainGlobals n=some (some (.ref C))→Frm X.K B σ H' E' [] []→vq X C pins σ H'):
  wpAny (model X.prog X.w) X.A (eval (.Call (.Name x p) (e::es) [] pos) X.env) (fun _ _=>False) X.xe s:=by
 obtain⟨f,fd,F,b,mx,kp⟩:=D.ex
 obtain⟨⟨rs,E1⟩,e1,ee⟩:=Option.bind_eq_some_iff.mp ee
 obtain⟨ds,e2,ee⟩:=Option.bind_eq_some_iff.mp ee
 obtain⟨n',e3,ee⟩:=Option.map_eq_some_iff.mp ee
 cases ee
 refine wpAny_Call_Name_kw (iq I hg mx ?_ hdb)
 have q1:=ha pos pins s σ H (fun vs H1=>vs.length=rs.length∧Frm X.K B σ H1 E1 (vs.reverse++[]) (rs.reverse++[])) (I.wish _) ⟨B,E,[],[],rs,E1,fr,fun _=>Calm.nil rfl,e1,fun vs H1 hl f=>⟨hl,f⟩⟩
 refine PySem.W.callWith_K (h₀:=X.base) I.ok.mod.kin kp (wpAny_mono q1 (fun us s1 ⟨vs,H1,I1,rv,hl,F1,A1,fr1⟩=>⟨I1.kIn,?_⟩) fun _ _ z=>z.elim) he hpl
 have I1:=I1.unwish
 obtain⟨r1,A',fr2⟩:=fr1.looks hl e2
 have hlen:(us++[]).length=ps.length:=by
  rw[List.append_nil,←rv.length]
  exact F.len vs H1 (fun _ _=>False) (fun _ _ _=>True) ⟨ds,n,e3,r1,fun _ _ _ _=>trivial⟩
 have bd:=b s1 us I1.kIn hlen
 rw[List.append_nil]at bd
 refine wpAny_call (codeAny_mono (F.run X.A X.stack s1 H1 ⟨us,[]⟩ us vs (fun _ _=>False) (fun c _ H'=>∃C,c=.ref C∧PySem.W.nsIn X.K mainGlobals n=some (some (.ref C))∧Same H1 H') hr I1.env0 bd rv ⟨ds,n,e3,r1,fun C H' z g=>⟨C,rfl,z,g⟩⟩) fun rr s' hq=>?_)
 cases rr with
 |error er=>
  obtain⟨H',ea,C,a0,B',rfl,⟨C',eC,ns,g⟩,os,bare,fl,hok,u⟩:=hq
  cases eC
  exact k C H' ns ⟨_,_,fr2.grow g⟩ H1 s1 ea s' a0 B' I1 os bare fl hok u
 |ok fl=>
  cases fl with
  |ret u=>obtain⟨_,_,_,_,_,_,_,z⟩:=hq;exact z
  |next=>exact False.elim hq
  |brk=>exact False.elim hq
  |cont=>exact False.elim hq
end
def jL(k n:Nat)(r:i8):List PyData→Option Str:=fun ds=>if ds.length=k then (r (av n ds)).map (·.1)else none
theorem sQ{P:Program}{w:World}{K:PySem.W.Frag}{mg:Str→Option Value}{base:Heap}{x:Str}{st:Stmt}{N ps:List Str}{k a n:Nat}{r:i8}{mk al:Bool}(D:Def K mg x st ps)(S:FnScope N ps (au st))(hpa:ps.length=a)(hNn:N.length=n)(hps:a≤n)
  (hbody:∀(f:Addr) (cdv:Value) (A:Around) (outer:List Env) (s:Shared) (H:Hp) (E:XK),Room k (A.deeper (PyProof.Rows.envOfC x (au st) s.heap.objs.size f cdv))→
   yH (iW (A9 P w) P w K mg base N x (au st) f cdv A outer s H E) mk al (cB st) r):OwnR P w K mg base (k+1) x ps (nw K (jL a n r)):=by
 subst hpa hNn
 obtain⟨f,fd,F,mx,b⟩:=D.ex
 have kp:=F.kp
 obtain⟨oc,od,kV,doc,pm,an,cdv,ct,osl,rfl,lk,hcd⟩:=F.ex
 refine⟨f,_,AK lk hcd S (fun vs H Q E h=>?_) fun A outer s H vs Q E hr h=>?_,b,mx,kp⟩
 ·obtain⟨ds,n,e,rp,_⟩:=h
  unfold jL at e
  split at e
  ·rename_i hl
   rw[rp.len];exact hl
  ·cases e
 obtain⟨ds,n,e,rp,q⟩:=h
 unfold jL at e
 split at e
 ·rename_i hl
  obtain⟨⟨n',E'⟩,er,z⟩:=Option.map_eq_some_iff.mp e
  cases z
  refine⟨fun D σ H'=>σ=dz N vs∧H'=H,fun pins s1 σ H1 D I z=>?_,rfl,rfl⟩
  obtain⟨rfl,rfl⟩:=z
  refine dF (hbody f cdv A outer s H1 E hr pins s1 _ H1 H1 (av N.length ds) n' E' I ⟨H1,[],k7 rp (by omega)⟩ er fun _ _ σ' C H' ns ⟨F',A',fr'⟩=>?_) fun _ _ z=>z.elim
  have hE:=q C H' ns (fr'.bf.trans fr'.fh)
  exact⟨fun _=>zM hE,Cq hE,fun _=>zN hE⟩
 ·cases e
end PL
namespace PL
open PySem PySem.Spec PyProof.Rows L2 Nh
abbrev Gq(X:Cx)(ea:Addr):Cx:={X with A:=X.A.mark (some (.ref ea)),calm:=false,xe:=fun _ _=>False}
abbrev hX(X:Cx)(ea:Addr)(oe:Obj)(C:Addr):Cx:={X with A:=X.A.mark (some (.ref ea)),calm:=false,xe:=fun _ _=>False,H₀:=upd X.H₀ ea (.frz oe (.ext (gD ea C)))}
structure EaNew (X:Cx) (ea:Addr):Prop where
 s0:X.s₀.heap.get? ea=none
 nt:∀xs,X.H₀ ea≠some (.tup xs)
 nf:∀o u,X.H₀ ea≠some (.frz o u)
 nb:∀q,X.H₀ ea≠some (.tbl q)
section
variable {X:Cx} {pins:List (Addr×Obj)} {σ:L2.St} {H:Hp} {s:Shared} {ea:Addr}
theorem xr(I:Inv X pins σ H s):Inv (Gq X ea) pins σ H s:=
 let ok:=I.ok
 ⟨⟨ok.mod,ok.kind,ok.glob,ok.blt,ok.above,ok.inj,ok.has,ok.cab,fun z=>(nomatch z),ok.frames,ok.stk,ok.exf,ok.bs,ok.bsz,ok.noex,ok.exfs,ok.funs,ok.frf,ok.tab⟩,I.os,I.bare,I.base,I.loc,I.cell,I.free,I.freeC,I.pin,I.hok,I.len⟩
theorem zO{oe:Obj}{C:Addr}(I:Inv X pins σ H s)(n:EaNew X ea)(hH:H ea=some (.frz oe (.ext (gD ea C)))):Inv (hX X ea oe C) pins σ H s:=by
 have ok:=I.ok
 have ne:∀b o,X.s₀.heap.get? b=some o→b≠ea:=fun b o e z=>by rw[z,n.s0]at e;cases e
 have up:∀b u,(upd X.H₀ ea (.frz oe (.ext (gD ea C)))) b=u→b≠ea→X.H₀ b=u:=fun b u e z=>by rw[aC z]at e;exact e
 refine⟨⟨ok.mod,ok.kind,ok.glob,ok.blt,ok.above,ok.inj,ok.has,ok.cab,fun z=>(nomatch z),ok.frames,ok.stk,ok.exf,fun b o e=>?_,ok.bsz,ok.noex,ok.exfs,ok.funs,fun b hb=>?_,fun b q e=>?_⟩,I.os,I.bare,⟨fun b o e h=>I.base.keep b o e (up b _ h (ne b o e)),fun b o e h=>I.base.slot b o e (up b _ h (ne b o e)),fun b o e h=>I.base.free b o e (up b _ h (ne b o e)),I.base.there,fun b xs e=>?_,fun b o u e=>?_,fun b q e=>?_⟩,I.loc,I.cell,I.free,I.freeC,I.pin,I.hok,I.len⟩
 ·obtain⟨e1,e2⟩:=ok.bs b o e
  exact⟨e1,(aC (ne b o e1)).trans e2⟩
 ·obtain⟨_,o,e1,_⟩:=ok.funs.mem hb
  exact(aC (ne b o e1)).trans (ok.frf b hb)
 ·refine(aC fun z=>?_).trans (ok.tab b q e)
  subst z
  exact n.nb q (ok.tab _ q e)
 ·by_cases z:b=ea
  ·subst z
   replace e:=upd_same.symm.trans e
   cases e
  ·exact I.base.tups b xs (up b _ e z)
 ·by_cases z:b=ea
  ·subst z
   replace e:=upd_same.symm.trans e
   cases e
   exact hH
  ·exact I.base.frzs b o u (up b _ e z)
 ·by_cases z:b=ea
  ·subst z
   replace e:=upd_same.symm.trans e
   cases e
  ·exact I.base.tbls b q (up b _ e z)
theorem xu{oe:Obj}{C:Addr}(I:Inv (hX X ea oe C) pins σ H s)(ok:X.Ok)(n:EaNew X ea):Inv X pins σ H s:=by
 have ne:∀b o,X.s₀.heap.get? b=some o→b≠ea:=fun b o e z=>by rw[z,n.s0]at e;cases e
 have dn:∀b u,X.H₀ b=u→b≠ea→(hX X ea oe C).H₀ b=u:=fun b u e z=>(aC z).trans e
 exact⟨ok,I.os,I.bare,⟨fun b o e h=>I.base.keep b o e (dn b _ h (ne b o e)),fun b o e h=>I.base.slot b o e (dn b _ h (ne b o e)),fun b o e h=>I.base.free b o e (dn b _ h (ne b o e)),I.base.there,fun b xs e=>I.base.tups b xs (dn b _ e fun z=>n.nt xs (z▸e)),fun b o u e=>I.base.frzs b o u (dn b _ e fun z=>n.nf o u (z▸e)),fun b q e=>I.base.tbls b q (dn b _ e fun z=>n.nb q (z▸e))⟩,I.loc,I.cell,I.free,I.freeC,I.pin,I.hok,I.len⟩
theorem vv{a:Addr}{o:HO}(I:Inv X pins σ H s)(hn:H a=none)(h0:X.s₀.heap.get? a=none)(hL:X.env.locals≠a)(hc:∀x c,X.env.cells.lookup x=some c→c≠a)(hp:∀p∈X.pn++pins,p.1≠a)(ok:ObjOk X.prog X.w (upd H a o) s.heap a o):Inv X pins σ (upd H a o) s:=by
 have ne:∀b u,H b=some u→b≠a:=fun b u e=>bc e hn
 refine⟨I.ok,I.os,I.bare,⟨I.base.keep,I.base.slot,fun b u e n hx=>?_,I.base.there,fun b xs e=>?_,fun b u v e=>?_,fun b q e=>?_⟩,I.loc,I.cell,?_,fun x c e=>?_,fun p q=>?_,fun b u e=>?_,I.len⟩
 ·rw[aC (fun z=>by rw[z,h0]at e;cases e)];exact I.base.free b u e n hx
 ·have z:=I.base.tups b xs e
  rw[aC (ne _ _ z)];exact z
 ·have z:=I.base.frzs b u v e
  rw[aC (ne _ _ z)];exact z
 ·have z:=I.base.tbls b q e
  rw[aC (ne _ _ z)];exact z
 ·rw[aC hL];exact I.free
 ·rw[aC (hc x c e)];exact I.freeC x c e
 ·obtain⟨e1,e2,e3⟩:=I.pin p q
  exact⟨e1,by rw[aC (hp p q)];exact e2,e3⟩
 ·by_cases hb:b=a
  ·subst hb;rw[upd_same]at e;cases e;exact ok
  ·rw[aC hb]at e
   refine(I.hok b u e).stay (fun c w' _ q=>q) (fun c q=>?_) fun c xs q=>?_
   ·rw[aC (ne _ _ q)];exact q
   ·rw[aC (ne _ _ q)];exact q
theorem xv{M:Model}{A:Around}{E:Value→Shared→Prop}{i:Nat}{x:Str}{pos:Pos}{Q:Unit→Shared→Prop}(I:Inv X pins σ H s)(hN:X.N.Nodup)(hi:X.N[i]? =some x)(hk:X.env.scope.names.lookup x=some .local)
  (h:∀s',Inv X pins (σ.set i none) H s'→Q () s'):wpAny M A (do bindName X.env x .none;unbindBehindTheSuite X.env x pos) Q E s:=by
 obtain⟨m,hn,hl⟩:=id I.loc
 have hcls:(X.env.scope.kind ==.class||(X.env.scope.kind ==.module&&X.env.locals != X.env.globals))=false:=by rw[I.ok.kind];rfl
 have hiσ:i < σ.length:=by rw[I.len];exact(List.getElem?_eq_some_iff.mp hi).1
 have cne:=I.cne
 refine wpAny_nameGoes_keeps hk hn hcls fun h' v hn' hs=>?_
 obtain⟨oL,_,_,hoL,_⟩:=id hn
 refine h _ ⟨I.ok,I.os,I.bare,⟨fun b o e n hb hx=>?_,fun b o e n hb hx=>?_,I.base.free,fun b o e hx=>?_,I.base.tups,I.base.frzs,I.base.tbls⟩,⟨_,hn',fun j y v' e1 e2 e3=>?_⟩,fun y c e=>?_,I.free,I.freeC,fun p hp=>?_,fun b ob e=>?_,by simpa using I.len⟩
 ·exact(hs.2 b (Nat.ne_of_lt (Nat.lt_of_lt_of_le (Heap.lt_size e) I.ok.above))).trans (I.base.keep b o e n hb hx)
 ·obtain⟨sl,e1⟩:=I.base.slot b o e n hb hx
  exact⟨sl,(hs.2 b (Nat.ne_of_lt (Nat.lt_of_lt_of_le (Heap.lt_size e) I.ok.above))).trans e1⟩
 ·obtain⟨o',e1⟩:=I.base.there b o e hx
  exact⟨o',(hs.2 b (Nat.ne_of_lt (Nat.lt_of_lt_of_le (Heap.lt_size e) I.ok.above))).trans e1⟩
 ·by_cases hj:j=i
  ·subst hj
   rw[List.getElem?_set_self hiσ]at e2
   cases e2
  ·rw[List.getElem?_set_ne (Ne.symm hj)]at e2
   obtain⟨u',r',q⟩:=hl j y v' e1 e2 e3
   refine⟨u',r',?_⟩
   rcases q with⟨k,e⟩ |⟨k,c,e,z⟩
   ·refine .inl ⟨k,?_⟩
    have:y≠x:=fun e=>hj (mS hN e1 (e▸hi))
    simp[this,e]
   ·exact .inr ⟨k,c,e,z.sameBut hs (cne y c e)⟩
 ·obtain⟨w',z⟩:=I.cell y c e
  exact⟨w',z.sameBut hs (cne y c e)⟩
 ·obtain⟨e,n,ne,nf,d⟩:=I.pin p hp
  exact⟨(hs.2 p.1 ne).trans e,n,ne,nf,d⟩
 ·refine(I.hok b ob e).stay (fun c w' hc q=>(hs.2 c ?_).trans q) (fun _ q=>q) fun _ _ q=>q
  rintro rfl
  rcases hc with rfl |hc
  ·rw[I.free]at e;cases e
  ·rw[I.free]at hc;cases hc
end
abbrev vw(n:Str):PyData:=.dict [(.none,.str n)]
def xw(ok:List Str)(i:Nat)(r:i8)(g h:cy):cy:=fun E=>match r E with
 |none=>g E
 |some (n,E')=>if n∈ok∧i < E'.length then match h (E'.set i (.sh (vw n)))with
  |some (E2,.rt s)=>some (E2,.rt s)
  |_=>none
  else none
theorem zP{X:Cx}{body:List Stmt}{cn en:Str}{CH:Addr}{np hpos pos:Pos}{b₀:Stmt}{suite:List Stmt}{ok:List Str}{i:Nat}{r:i8}{g hs:cy}(hx:X.xe=fun _ _=>False)(hN:X.N.Nodup)(hex:X.ex=[])(hst:X.stack=X.env::X.outer)(hfr:X.env.frame=some X.env.locals)(hg:Gl X cn)(hm:X.mg cn=some (.ref CH))
  (hok:∀n∈ok,∀C,PySem.W.nsIn X.K mainGlobals n=some (some (.ref C))→PySem.W.exmOne X.K (.ref C) (.ref CH)=some true) (hb:rS X body g) (hr:∀W,yH (X.wish W) false false body r) (hh:∀ea oe C,(∃vs,oe.data=.fields vs∧vs[2]? =some .none)→rS (hX X ea oe C) (b₀::suite) hs)
  (hi:X.N[i]? =some en:=by rfl) (hk:X.env.scope.names.lookup en=some .local:=by rfl) (hdb:(cn == ("__debug__":Str))=false:=by decide):
  SX X (.Try body [.ExceptHandler (some (.Name cn np)) (some en) (b₀::suite) hpos] [] [] pos) (xw ok i r g hs):=by
 intro pins s σ H D I hw
 obtain⟨B,E,xs,Xs,E2,fl,fr,cl,e,q⟩:=hw
 subst cl
 have hxs:xs=[]:=by obtain⟨_,_,f⟩:=fr;simpa using f.len
 subst hxs
 unfold xw at e
 split at e
 ·have q:=hb pins s σ H D I ⟨B,E,[],[],E2,fl,fr,rfl,e,q⟩
  rw[hx]at q
  refine wpAny_Try_except (wpAny_mono q (fun f s1 z=>?_) fun _ _ z=>z.elim)
  cases f with
  |next=>exact wpAny_execs_nil z
  |brk=>exact z
  |cont=>exact z
  |ret u=>exact z
 ·rename_i n E' er
  split at e
  rotate_left
  ·cases e
  rename_i hc
  split at e
  rotate_left
  ·cases e
  rename_i E3 sv eh
  cases e
  refine wpAny_Try_except (wpAny_mono (hr (fun e s₁=>wpAny (model X.prog X.w) X.A (noteFrame e X.env) (fun _ s₂=>wpAny (model X.prog X.w) X.A (setFlight e none) (fun _ s₃=>wpAny (model X.prog X.w) X.A (handleBy e X.env [.ExceptHandler (some (.Name cn np)) (some en) (b₀::suite) hpos]) (SP X pins D) X.xe s₃) X.xe s₂) X.xe s₁) pins s σ H B E n E' (I.wish _) fr er fun pp hp σ' C H' ns fr'=>⟨fun z=>(nomatch z),?_,fun z=>(nomatch z)⟩) (fun _ _ z=>z.elim) fun _ _ z=>z)
  cases hp rfl
  intro H1 s1 ea s' a0 Bb I1 os bare fly hokB u
  have I1:Inv X pins σ' H1 s1:=I1.unwish
  have ff:s'.heap.FunFrames Bb X.stack:=fly.2.2.1
  have fly':FlyC Bb (X.env::X.outer) ea (.ref C) a0 s'.heap:=hst▸fly
  have invAt:∀h5,Bb.StaysIn h5→s'.heap.UpToSlots h5→Inv X pins σ' H' {s' with heap:=h5}:=fun h5 st k=>by
   have u2:UnB (kP X.stack) H1 H' s1.heap Bb h5:=u.on ff k
   exact I1.call' (s':={s' with heap:=h5}) os (u2.un st I1.stkFree) (hokB.kept fun b o e=>st b o e) bare fun b z=>(nomatch z)
  refine pk (by rw[I1.ok.frames,hst]) hfr fly' fun h4 held4 k4=>?_
  refine xp held4 fun h5 fly5 k5=>?_
  have I5:=invAt h5 fly5.1 (k4.trans k5)
  obtain⟨ob,hob,hobc⟩:=fly5.there
  have Z5:gD ea C h5:=⟨ob,hob,hobc⟩
  refine wpAny_handleBy_cons (codeAny_handlers_test (iq (X:=Gq X ea) (xr I5) hg hm ?_ hdb)) (by intro q;cases q)
  refine(PySem.W.exm_one (I5.kIn) (l9 Z5) (hok n hc.1 C ns)).here ?_
  refine codeAny_handlers_suite_as ?_
  refine pW fly5 fun h6 fly6 k6=>?_
  have I6:=invAt h6 fly6.1 ((k4.trans k5).trans k6)
  obtain⟨oe,vs,hoe,hoec,hoed,_⟩:=fly6.first
  have nB:Bb.get? ea=none:=fly6.2.1
  have old:∀b o,s1.heap.get? b=some o→b≠ea:=fun b o eb z=>by
   subst z
   by_cases hf:b∈kP X.stack
   ·obtain⟨_,o',ho',hd⟩:=(show h6.FunFrames Bb X.stack from hst▸fly6.2.2.1).mem hf
    rw[hoe]at ho'
    cases ho'
    exact hd vs hoed
   ·obtain⟨o',ho'⟩:=u.there b o eb hf
    rw[nB]at ho'
    cases ho'
  have hn6:H' ea=none:=by
   cases q:H' ea with
   |none=>rfl
   |some o=>
    obtain⟨z,e⟩:=q_ (hokB ea o q)
    rw[nB]at e
    cases e
  have hs0:X.s₀.heap.get? ea=none:=by
   cases q:X.s₀.heap.get? ea with
   |none=>rfl
   |some o=>
    obtain⟨o',z⟩:=I1.base.there ea o q (by rw[hex];exact fun z=>(nomatch z))
    exact absurd rfl (old ea o' z)
  have hnew:EaNew X ea:=⟨hs0,fun xs z=>(nomatch hn6.symm.trans (I6.base.tups ea xs z)),fun o u z=>(nomatch hn6.symm.trans (I6.base.frzs ea o u z)),fun q z=>(nomatch hn6.symm.trans (I6.base.tbls ea q z))⟩
  have hctx:∃vs,oe.data=.fields vs∧vs[2]? =some .none:=by
   obtain⟨o,ws,ho,hd,h2⟩:=fly6.2.2.2.2
   rw[hoe]at ho
   cases ho
   exact⟨ws,hd,h2⟩
  have I7:Inv X pins σ' (upd H' ea (.frz oe (.ext (gD ea C)))) {s' with heap:=h6}:=by
   refine vv I6 hn6 ?_ ?_ (fun x c e=>?_) (fun p hp=>?_) ?_
   ·cases q:X.s₀.heap.get? ea with
    |none=>rfl
    |some o=>
     obtain⟨o',z⟩:=I1.base.there ea o q (by rw[hex];exact fun z=>(nomatch z))
     exact absurd rfl (old ea o' z)
   ·obtain⟨_,⟨o,_,_,ho,_⟩,_⟩:=I1.loc
    exact old _ o ho
   ·obtain⟨v,o,ho,_⟩:=I1.cell x c e
    exact old _ o ho
   ·exact old _ _ (I1.pin p hp).1
   ·exact⟨hoe,⟨oe,hoe,hoec⟩,⟨oe,hoe⟩,fun h1 h2 ⟨o,z,c⟩ k=>⟨o,k o z,c⟩⟩
  refine mT (X:=X) I7 hN hi (.inl hk) (v:=.ref ea) rfl (fun s8 I8=>?_) (.inr hk)
  have g:Same H' (upd H' ea (.frz oe (.ext (gD ea C)))):=fun b o e=>by rw[aC (bc e hn6)];exact e
  obtain⟨F',A',fr1⟩:=fr'
  have fr2:=fr1.grow g
  have nA:ea∉A':=fun z=>by
   rcases fr1.mutA ea z with⟨_,w⟩ |⟨_,w⟩ <;> rw[hn6]at w <;> cases w
  have fr3:=fr2.push (v:=.ref ea) (s:=.sh (vw n)) ⟨rfl,_,rfl,.exc (by show(if ea∈A' then none else _)=_;rw[if_neg nA];exact upd_same) ns⟩
  obtain⟨A3,fr4⟩:=fr3.store rfl (fun _ z=>(nomatch z)) hc.2
  have q8:=hh ea oe C hctx pins s8 _ _ {nx:=fun _ _=>False,bk:=fun _ _=>False,ct:=fun _ _=>False,rt:=fun v H9=>∃σ9,Frm X.K B σ9 H9 E2 [v] [sv]} (zO I8 hnew upd_same) ⟨B,_,[],[],E2,.rt sv,⟨_,A3,fr4⟩,rfl,eh,fun σ9 v H9 f=>⟨σ9,f⟩⟩
  refine wpAny_mono q8 (fun f s9 z=>?_) fun _ _ z=>z.elim
  cases f with
  |next=>obtain⟨_,_,_,z⟩:=z;exact z.elim
  |brk=>obtain⟨_,_,_,z⟩:=z;exact z.elim
  |cont=>obtain⟨_,_,_,z⟩:=z;exact z.elim
  |ret uu=>
   obtain⟨v,σ9,H9,I9,rv,σx,fx⟩:=z
   have I9:Inv X pins σ9 H9 s9:=xu I9 I.ok hnew
   exact xv I9 hN hi hk fun s10 I10=>⟨v,_,H9,I10,rv,q _ v H9 fx⟩
end PL
namespace PL
open PySem PySem.Spec PyProof.Rows L2 Nh
def XT(K:PySem.W.Frag)(c:Value)(tab:List (Str×Bool)):Prop:=∀n b C,tab.lookup n=some b→PySem.W.nsIn K mainGlobals n=some (some (.ref C))→ExCls K C∧PySem.W.kitOne K (.ref C) c=some b
theorem eS{K:PySem.W.Frag}{c:Value}:XT K c []:=fun _ _ _ e=>nomatch e
theorem dC{K:PySem.W.Frag}{c:Value}{n:Str}{C:Addr}{b:Bool}{tab:List (Str×Bool)}(ns:PySem.W.nsIn K mainGlobals n=some (some (.ref C)))(Z:ExCls K C)(k:PySem.W.kitOne K (.ref C) c=some b)(h:XT K c tab):XT K c ((n,b)::tab):=fun n' b' C' e ns'=>by
 rw[List.lookup_cons]at e
 split at e
 ·rename_i q
  rw[beq_iff_eq]at q
  subst q
  rw[ns]at ns'
  cases ns'
  cases e
  exact⟨Z,k⟩
 ·exact h n' b' C' e ns'
def jv(tab:List (Str×Bool)):PyData→Option PyData
 |.dict [(.none,.str n)]=>(tab.lookup n).map .bool
 |_=>none
theorem Cs{K:PySem.W.Frag}{H:Hp}{v:V}{n:Str}(r:Rp K H v (.dict [(.none,.str n)])):∃a C o,v=.ref a∧H a=some (.frz o (.ext (gD a C)))∧PySem.W.nsIn K mainGlobals n=some (some (.ref C)):=by
 generalize e:PyData.dict [(PyData.none,PyData.str n)]=d at r
 cases r with
 |exc h1 h2=>cases e;exact⟨_,_,_,rfl,h1,h2⟩
 |dct h1 h2=>
  cases h2 with
  |nil=>cases e
  | @cons k x us d kvs a b=>cases k <;> cases e
 |_=>cases e
section
variable {X:Cx} {e:Expr} {m1:Bool} {f:cX} {p p2 pos:Pos}
theorem vx{c:Value}{vc:V}{tab:List (Str×Bool)}(rc:∀u,RelV vc u→u=c)(T:XT X.K c tab):CallR X (.builtin "isinstance") (fun xs H Q=>∃x d r,xs=[x,vc]∧Rp X.K H x d∧jv tab d=some r∧∀b,r=.bool b→Q (.bl b) H):=by
 intro pins s σ H xs us Q I r h
 obtain⟨x,d,r',rfl,rp,hd,q⟩:=h
 obtain⟨u,w',rfl,ru,rw'⟩:=r.two
 cases rc w' rw'
 unfold jv at hd
 split at hd
 ·rename_i n
  obtain⟨b,eb,z⟩:=Option.map_eq_some_iff.mp hd
  obtain⟨a,C,oz,rfl,ha,ns⟩:=Cs rp
  obtain⟨Z,k⟩:=T n b C eb ns
  cases(show u=Value.ref a from ru)
  exact PySem.W.kia_one (xj Z) I.kIn (show gD a C s.heap from(I.hok a _ ha).2.1) k (fun z=>nomatch z) fun tk=>⟨.bl b,H,I.tok _,rfl,q b z.symm⟩
 ·cases hd
theorem um {c:Value} {vc:V} {tab:List (Str×Bool)} (rc:∀u,RelV vc u→u=c) (T:XT X.K c tab) (hg:Gl X "isinstance") (hm:X.mg "isinstance"=none) (ha:EX X e m1 f) {x:Str} (h2:PE X (.Name x p2) (tC vc))
  (he:starEach [e,.Name x p2] X.env=(false,eval e X.env)::starEach [.Name x p2] X.env) (he2:starEach [.Name x p2] X.env=[(false,eval (.Name x p2) X.env)]) (hpl:(backTo pos (starEach [.Name x p2] X.env)).any (·.1)=false):
  EX X (.Call (.Name "isinstance" p) [e,.Name x p2] [] pos) m1 (gE (jv tab) f):=by
 refine bY (jy (vx rc T) hg hm PyProof.Rows.boot_isinstance (c_ ha (c_ h2 fi he2) he) (by decide) (by decide) he hpl) fun σ H Q z=>?_
 obtain⟨B,E,xs,Xs,res,E',fr,cl,e,q⟩:=z
 obtain⟨⟨s,E1⟩,e1,e⟩:=Option.bind_eq_some_iff.mp e
 obtain⟨d1,e2,e⟩:=Option.bind_eq_some_iff.mp e
 obtain⟨d2,e3,e⟩:=Option.map_eq_some_iff.mp e
 cases e
 refine⟨B,E,xs,Xs,s,E1,fr,cl,e1,fun v1 H1 ⟨F,A,fr1⟩=>?_⟩
 obtain⟨A',fr2⟩:=fr1.pop
 exact⟨v1,d1,d2,rfl,(fr1.look0 e2).1,e3,fun b z=>q _ _ ⟨F,A',fr2.push ⟨rfl,_,rfl,z▸ .bl b⟩⟩⟩
theorem gf {C:Addr} {tab:List (Str×Bool)} (hg:Gl X "isinstance") (hm:X.mg "isinstance"=none) (ha:EX X e m1 f) {x:Str} (hgx:Gl X x) (hmx:X.mg x=some (.ref C)) (T:XT X.K (.ref C) tab) (hdx:(x == ("__debug__":Str))=false:=by decide)
  (he:starEach [e,.Name x p2] X.env=(false,eval e X.env)::starEach [.Name x p2] X.env:=by rfl) (he2:starEach [.Name x p2] X.env=[(false,eval (.Name x p2) X.env)]:=by rfl) (hpl:(backTo pos (starEach [.Name x p2] X.env)).any (·.1)=false:=by rfl):
  EX X (.Call (.Name "isinstance" p) [e,.Name x p2] [] pos) m1 (gE (jv tab) f):=um (vc:=.ref C) (fun _ z=>z) T hg hm ha (tM (v:=.ref C) hgx hmx rfl hdx) he he2 hpl
theorem zQ {t:String} {tab:List (Str×Bool)} (hg:Gl X "isinstance") (hm:X.mg "isinstance"=none) (ha:EX X e m1 f) {x:Str} (hgx:Gl X x) (hmx:X.mg x=none) (hbx:bootBuiltins x=some (.type t)) (T:XT X.K (.type t) tab) (hnx:x≠"__name__":=by decide) (hdx:(x == ("__debug__":Str))=false:=by decide)
  (he:starEach [e,.Name x p2] X.env=(false,eval e X.env)::starEach [.Name x p2] X.env:=by rfl) (he2:starEach [.Name x p2] X.env=[(false,eval (.Name x p2) X.env)]:=by rfl) (hpl:(backTo pos (starEach [.Name x p2] X.env)).any (·.1)=false:=by rfl):
  EX X (.Call (.Name "isinstance" p) [e,.Name x p2] [] pos) m1 (gE (jv tab) f):=um (vc:=.ty t) (fun _ z=>z) T hg hm ha (tN (v:=.ty t) hgx hmx hbx rfl hnx hdx) he he2 hpl
end
structure RoomH (k:Nat) (A:Around):Prop where
 dp:A.depth+3*k+5 < recursionLimit
 un:A.units+16*k+200 < cLine
theorem RoomH.mono{j k:Nat}{A:Around}(r:RoomH k A)(h:j≤k):RoomH j A:=⟨by have:=r.dp;omega,by have:=r.un;omega⟩
theorem RoomH.deeper{k:Nat}{A:Around}(r:RoomH (k+1) A)(env:Env):RoomH k (A.deeper env):=
 ⟨by have:=r.dp;show A.depth+1+3*k+5 < _;omega,by have:=r.un;show A.units+3+16*k+200 < _;omega⟩
theorem RoomH.depth{k:Nat}{A:Around}(r:RoomH k A):A.depth < recursionLimit:=by have:=r.dp;omega
theorem RoomH.units{k:Nat}{A:Around}(r:RoomH k A):A.units+64 < cLine:=by have:=r.un;omega
theorem Room.mark{k:Nat}{A:Around}(r:Room k A)(v:Option Value):RoomH k (A.mark v):=⟨r.dp,r.un⟩
abbrev ET(P:Program)(w:World)(K:PySem.W.Frag)(mg:Str→Option Value)(base:Heap)(N:List Str)(qual:Str)(scope:Scope)(f:Addr)(cd:Value)(A:Around)(outer:List Env)(s:Shared)(H:Hp)(E:XK):Cx:={iW jA P w K mg base N qual scope f cd A outer s H E with calm:=false,xe:=fun _ _=>False}
structure FnOkH (P:Program) (w:World) (K:PySem.W.Frag) (mg:Str→Option Value) (base:Heap) (k:Nat) (f:Addr) (fd:FuncData) (ps:List Str) (sp:Sp):Prop where
 len:∀vs H Q E,sp vs H Q E→vs.length=ps.length
 run:∀(A:Around) (outer:List Env) (s:Shared) (H:Hp) (args:Args) (us:List Value) (vs:List V) (Q:VK) (E:XK),RoomH k A→Env0 P w K mg base A outer s H→BindsTo s fd args (ps.zip us)→Vals vs us→sp vs H Q E→
  codeAny (model P w) A (.call (.ref f) args) (CR jA outer P w H s Q E) s
structure OwnH (P:Program) (w:World) (K:PySem.W.Frag) (mg:Str→Option Value) (base:Heap) (k:Nat) (x:Str) (ps:List Str) (sp:Sp):Prop where
 ex:∃(f:Addr) (fd:FuncData),FnOkH P w K mg base k f fd ps sp∧Binds K fd ps []∧mg x=some (.ref f)∧PySem.W.keepIn K (.ref f)=true
theorem Ct{P:Program}{w:World}{K:PySem.W.Frag}{mg:Str→Option Value}{base:Heap}{k:Nat}{f:Addr}{name qual:Str}{params:Arguments}{body:List Stmt}{scope:Scope}{dV kV doc pm cdv ct oc:Value}{an od:Option Addr}
  {osl:Array (Option Value)} {N ps:List Str} {sp:Sp} (lk:K.lookup f=some ⟨oc,od,.func (PySem.W.fnOf name qual params body scope dV kV doc pm an cdv ct),osl⟩) (hcd:PySem.W.codeIn K cdv qual=true) (S:FnScope N ps scope)
  (len:∀vs H Q E,sp vs H Q E→vs.length=ps.length)
  (hbody:∀(A:Around) (outer:List Env) (s:Shared) (H:Hp) (vs:List V) (Q:VK) (E:XK),RoomH k (A.deeper (envOfC qual scope s.heap.objs.size f cdv))→sp vs H Q E→
   ∃t,PSs (ET P w K mg base N qual scope f cdv A outer s H E) body t∧t {nx:=fun _ H'=>Q .non H',rt:=Q} (dz N vs) H):
  FnOkH P w K mg base (k+1) f (PySem.W.fnOf name qual params body scope dV kV doc pm an cdv ct) ps sp:=by
 refine⟨len,fun A outer s H args us vs Q E hr e0 hb r hsp=>?_⟩
 have hl:=len _ _ _ _ hsp
 have KX:K.In s.heap:=e0.mod.kin.keeps fun b o e=>(e0.bs b o e).1
 have lim:s.heap.NoLimit:=e0.mod.nolimit.keeps fun b o e=>(e0.bs b o e).1
 have hkind:∀y∈ps.zip us,scope.names.lookup y.1=some .local∨(scope.names.lookup y.1=some .cell∧((cellsFrom (s.heap.objs.size+1) scope.names []).lookup y.1).isSome=true):=fun⟨n,v⟩ hy=>by
  rcases S.par n (List.of_mem_zip hy).1 with q |q
  ·exact .inl q
  ·exact .inr ⟨q,PySem.W.cellsFrom_some _ _ _ (.inl q)⟩
 refine codeAny_call_function hr.depth (KX _ _ lk) rfl S.co S.gen rfl (PySem.W.codeRec_of KX hcd) (hb _ _ _ _ ?_)
 refine wpAny_newFunctionEnv_cells S.kind hkind fun env he s1 x=>?_
 subst he
 refine⟨lim.keeps x.toInCall.keep,codeAny_func ?_⟩
 obtain⟨t,ht,hq⟩:=hbody A outer s H vs Q E (hr.deeper _) hsp
 have I0:Inv (iW jA P w K mg base N qual scope f cdv {A with handled:=none} outer s H E) [] (dz N vs) H s1:=oR S rfl ⟨e0.frames,e0.mod,e0.bs,e0.bsz,e0.funs,e0.frf,e0.hok,e0.bare,e0.tab⟩ hl r x
 have I:Inv (ET P w K mg base N qual scope f cdv A outer s H E) [] (dz N vs) H s1:=
  let ok:=I0.ok
  ⟨⟨ok.mod,ok.kind,ok.glob,ok.blt,ok.above,ok.inj,ok.has,ok.cab,fun z=>(nomatch z),Around.frames_deeper e0.frames,ok.stk,ok.exf,ok.bs,ok.bsz,ok.noex,ok.exfs,ok.funs,ok.frf,ok.tab⟩,I0.os,I0.bare,I0.base,I0.loc,I0.cell,I0.free,I0.freeC,I0.pin,I0.hok,I0.len⟩
 refine wpAny_mono (ht [] s1 (dz N vs) H _ I hq) (fun fl s' hs=>?_) fun e s' hs=>hs.elim
 have fin:∀{σ':L2.St} {H':Hp} {v:V} {u:Value},Inv (ET P w K mg base N qual scope f cdv A outer s H E) [] σ' H' s'→RelV v u→Q v H'→CE outer P w H s Q u s':=
  fun {σ' H' v u} J rv q=>⟨v,H',J.os,J.bare,J.base,J.hok,rv,q⟩
 cases fl with
 |ret u=>
  obtain⟨v,σ',H',J,rv,q⟩:=hs
  exact fin J rv q
 |next=>
  obtain⟨σ',H',J,q⟩:=hs
  exact fin (v:=V.non) (u:=Value.none) J rfl q
 |brk=>
  obtain⟨_,_,_,q⟩:=hs
  exact False.elim q
 |cont=>
  obtain⟨_,_,_,q⟩:=hs
  exact False.elim q
theorem FL{P:Program}{w:World}{K:PySem.W.Frag}{mg:Str→Option Value}{base:Heap}{x:Str}{st:Stmt}{N ps:List Str}{k a n:Nat}{g:cy}(D:Def K mg x st ps)(S:FnScope N ps (au st))(hpa:ps.length=a)(hNn:N.length=n)(hps:a≤n)
  (hbody:∀(f:Addr) (cdv:Value) (A:Around) (outer:List Env) (s:Shared) (H:Hp) (E:XK),RoomH k (A.deeper (PyProof.Rows.envOfC x (au st) s.heap.objs.size f cdv))→
   rS (ET P w K mg base N x (au st) f cdv A outer s H E) (cB st) g):OwnH P w K mg base (k+1) x ps (bQ K (bP a n g)):=by
 subst hpa hNn
 obtain⟨f,fd,F,mx,b⟩:=D.ex
 have kp:=F.kp
 obtain⟨oc,od,kV,doc,pm,an,cdv,ct,osl,rfl,lk,hcd⟩:=F.ex
 refine⟨f,_,Ct lk hcd S (fun vs H Q E h=>?_) fun A outer s H vs Q E hr h=>?_,b,mx,kp⟩
 ·obtain⟨ds,r,e,rp,_⟩:=h
  unfold bP at e
  split at e
  ·rename_i hl
   rw[rp.len];exact hl
  ·cases e
 obtain⟨ds,r,e,rp,q⟩:=h
 unfold bP at e
 split at e
 ·rename_i hl
  refine⟨_,hbody f cdv A outer s H E hr,?_⟩
  obtain⟨⟨E',fl⟩,e1,e⟩:=Option.bind_eq_some_iff.mp e
  refine⟨H,av N.length ds,[],[],E',fl,⟨H,[],k7 rp (by omega)⟩,rfl,e1,?_⟩
  cases fl with
  |nx=>
   cases e
   rintro σ' H' ⟨F',A',fr'⟩
   exact q _ _ (fr'.bf.trans fr'.fh) .non
  |bk=>cases e
  |ct=>cases e
  |rt r'=>
   rintro σ' v H' ⟨F',A',fr'⟩
   obtain⟨s1,s2⟩:=fr'.resultO e
   exact q v H' s1 s2
 ·cases e
theorem zR{X:Cx}{k:Nat}{x:Str}{ps:List Str}{c:List PyData→Option Sl}{p pos:Pos}{e:Expr}{es:List Expr}{m:Bool}{g:m8}(D:OwnH X.prog X.w X.K X.mg X.base k x ps (bQ X.K c))(hr:RoomH k X.A)(hg:Gl X x)(ha:AX X (e::es) m g)
  (hdb:(x == ("__debug__":Str))=false:=by decide) (he:starEach (e::es) X.env=(false,eval e X.env)::starEach es X.env:=by rfl) (hpl:(backTo pos (starEach es X.env)).any (·.1)=false:=by rfl):
  EX X (.Call (.Name x p) (e::es) [] pos) m (ao c g):=by
 obtain⟨f,fd,F,b,mx,kp⟩:=D.ex
 have hc:PE X (.Call (.Name x p) (e::es) [] pos) (wk (bQ X.K c) [] E0 (ra X.K m g)):=by
  intro pins s σ H Q I h
  refine wpAny_Call_Name_kw (iq I hg mx ?_ hdb)
  refine PySem.W.callWith_K (h₀:=X.base) I.ok.mod.kin kp (dF (ha pos pins s σ H _ I h) fun us s1 ⟨vs,H1,I1,r,q⟩=>⟨I1.kIn,?_⟩) he hpl
  have q:bQ X.K c (vs++[]) H1 Q E0:=q
  rw[List.append_nil]at q
  have hlen:(us++[]).length=ps.length:=by rw[List.append_nil,←r.length];exact F.len _ _ _ _ q
  have bd:=b s1 us I1.kIn hlen
  rw[List.append_nil]at bd
  refine wpAny_call (codeAny_mono (F.run X.A X.stack s1 H1 ⟨us,[]⟩ us vs Q E0 hr I1.env0 bd r q) fun rr s' hq=>?_)
  cases rr with
  |error e=>exact False.elim hq
  |ok fl=>
   cases fl with
   |ret u=>exact I1.after hq
   |next=>exact False.elim hq
   |brk=>exact False.elim hq
   |cont=>exact False.elim hq
 refine bY hc fun σ H Q z=>?_
 obtain⟨B,E,xs,Xs,res,E',fr,cl,e,q⟩:=z
 obtain⟨⟨rs,E1⟩,e1,e⟩:=Option.bind_eq_some_iff.mp e
 obtain⟨ds,e2,e⟩:=Option.bind_eq_some_iff.mp e
 obtain⟨r,e3,e⟩:=Option.map_eq_some_iff.mp e
 cases e
 refine⟨B,E,xs,Xs,rs,E1,fr,cl,e1,fun vs H1 hl ⟨F,A,fr1⟩=>?_⟩
 obtain⟨r1,A',fr2⟩:=fr1.looks hl e2
 exact⟨ds,res,e3,by rw[List.append_nil];exact r1,fun v H' g q'=>q v H' (fr2.told g q')⟩
end PL
namespace PL
open PySem PySem.Spec PyProof.Rows L2 Nh
theorem vy(x:Bool)(xs:List Bool):AL (.bl x) (xs.map .bl)=xs.contains x:=by
 induction xs with
 |nil=>rfl
 |cons y xs ih=>
  rw[List.contains_cons,←ih]
  show(wo (.bl y) (.bl x)||AL (.bl x) (xs.map .bl))=_
  congr 1
  cases x <;> cases y <;> rfl
def xx(neg:Bool):PyData→PyData→Option PyData
 |.bool x,.list ds=>(lg ds).map fun xs=>.bool (if neg then !xs.contains x else xs.contains x)
 |_,_=>none
section
variable {X:Cx} {a b:Expr} {m1 m2:Bool} {f g:cX} {pos:Pos}
theorem zS(neg:Bool):iM X.K (EQ X.K neg) (bz (xx neg)):=by
 refine fX fun d1 d2 d v1 v2 H Q e r1 r2=>?_
 unfold xx at e
 split at e
 ·obtain⟨xs,ex,rfl⟩:=Option.map_eq_some_iff.mp e
  cases r1
  cases r2 with
  |lst h1 h2=>
   have z:=qW h2 ex
   subst z
   exact⟨_,rfl,fun q=>⟨_,_,rfl,.inl h1,rfl,by simp[List.all_eq_true,iK],by rw[vy];exact q⟩⟩
 ·cases e
theorem Cu(ha:EX X a m1 f)(hb:EX X b m2 g)(hm:behindInMarks .In b=false:=by with_unfolding_all rfl):TX X (.Compare a [.In] [b] pos) (m1||m2) (a_ (ag (bz (xx false)) m2 f g)):=iY oS (zS false) ha hb hm
end
end PL
namespace PL
open PySem PySem.Spec PyProof.Rows L2 Nh
section
variable {M:Model} {A:Around} {E:Value→Shared→Prop} {s:Shared}
theorem rj{base h:Heap}{env:Env}{outer:List Env}{L e:Addr}{cls:Value}{args:List Value}{Q:Unit→Shared→Prop}
  (hfr:A.frames=some (env::outer)) (hf:env.frame=some L) (hkb:base.StaysIn h) (hl:h.FunFrames base (env::outer)) (hx:Heap.MadeExcOf h s.heap e cls args)
  (hQ:∀h' t,Heap.HeldW base (env::outer) e cls (.ref t) L h'→s.heap.UpToSlots h'→Q () {s with heap:=h'}):wpAny M A (noteFrame (.ref e) env) Q E s:=by
 obtain⟨t,he,htn,ht⟩:=hx.there
 have hen:base.get? e=none:=by
  cases hq:base.get? e with
  |none=>rfl
  |some o'=>have:=hkb e o' hq;rw[hx.new]at this;cases this
 have h1:(#[Value.ref t,.none,.none,.none,.bool false,.none]:Array Value)[1]? =some Value.none:=rfl
 unfold noteFrame
 simp only[hf]
 refine wpAny_bind (wpAny_field he rfl h1 ?_)
 rw[if_neg (show ¬((Value.none != Value.none)=true)from by decide)]
 exact wpAny_entryW (a0:=.ref t) hfr (hl.of_keeps fun b o hb _=>⟨o,hx.keeps b o hb,rfl⟩) hf he (fun b o hb=>hx.keeps b o (hkb b o hb)) hen rfl (by simp) rfl fun h' ⟨x1,x2,x3,x4⟩=>hQ h' t ⟨x1,hen,x2,x3⟩ x4
theorem sR{base h:Heap}{env:Env}{outer:List Env}{L e:Addr}{cls:Value}{args:List Value}{Q:Unit→Shared→Prop}
  (hfr:A.frames=some (env::outer)) (hf:env.frame=some L) (hkb:base.StaysIn h) (hl:h.FunFrames base (env::outer)) (hx:Heap.MadeExcOf h s.heap e cls args)
  (hQ:∀h' t,HeldC base (env::outer) e cls (.ref t) L h'→s.heap.UpToSlots h'→Q () {s with heap:=h'}):wpAny M A (noteFrame (.ref e) env) Q E s:=
 pj (P:=fun h'=>∃t,Heap.HeldW base (env::outer) e cls (.ref t) L h'∧s.heap.UpToSlots h') (pV _ _) (q9 hx) (fun k=>rj hfr hf hkb hl hx fun h' t a b=>k h' ⟨t,a,b⟩) fun h' ⟨t,a,b⟩ z=>hQ h' t (.of a z) b
theorem vz{base:Heap}{env:Env}{l:List Env}{L e:Addr}{cls a0:Value}(hf:env.frame=some L)(hh:HeldC base l e cls a0 L s.heap)
  (hE:∀h',HeldC base l e cls a0 L h'→s.heap.UpToSlots h'→E (.ref e) {s with heap:=h'}):cameBackBy M A env E (.ref e) s:=by
 obtain⟨hkb,hen,hl,⟨oe,vs,T,oT,ts,he,hcls,hd,h1,hnT,hTe,hT,hdT,h3⟩,c0⟩:=hh
 have hsz3:3 < ts.size:=(Array.getElem?_eq_some_iff.mp h3).1
 have other:∀b,b≠T→(s.heap.update T (Obj.mapFields (·.setIfInBounds 3 ((some L).elim Value.none fun f=>rawInt f)))).get? b=s.heap.get? b:=
  fun b hb=>Heap.get?_update_other _ _ (Ne.symm hb)
 have noRecord:∀b o,s.heap.get? b=some o→(∀vs,o.data≠ .fields vs)→b≠T:=fun b o hb hnf q=>by
  rw[q,hT]at hb;injection hb with hb;subst hb;exact hnf ts hdT
 unfold cameBackBy
 refine wpAny_bind (wpAny_field he hd h1 ?_)
 rw[if_neg (show ¬((Value.ref T == Value.none)=true)from by simp)]
 rw[hf]
 unfold setFlight
 refine wpAny_bind (wpAny_field he hd h1 ?_)
 rw[if_pos (show(Value.ref T != Value.none)=true from by simp)]
 refine wpAny_setField hT hdT hsz3 (hE _ ⟨fun b o hbo=>(other b fun q=>by rw[q,hnT]at hbo;cases hbo).trans (hkb b o hbo),hen,
  hl.of_keeps fun b o hb hnf=>⟨o,(other b (noRecord b o hb hnf)).trans hb,rfl⟩,?_⟩ fun b o hb hnf=>⟨o.slots,(other b (noRecord b o hb hnf)).trans hb⟩)
 exact⟨⟨oe,vs,T,_,_,(other e (Ne.symm hTe)).trans he,hcls,hd,h1,hnT,hTe,Heap.get?_update_self _ hT (Obj.isFreed_of_fields (Obj.data_mapFields hdT _)),Obj.data_mapFields hdT _,by simp[hsz3]⟩,c0.upd (xm (by decide))⟩
end
def xy(X:Cx)(mk:Bool)(n:Str)(B:Hp)(E':List Sl)(e:Value)(s':Shared):Prop:=∃pins σ C H' ea,e=.ref ea∧PySem.W.nsIn X.K mainGlobals n=some (some (.ref C))∧Frm X.K B σ H' E' [] []∧
 ((mk=true∧∃s h' vs,Inv X pins σ H' s∧Heap.MadeExcOf s.heap h' ea (.ref C) vs∧s'={s with heap:=h'})∨
  (∃H s a0 Bb,Inv X pins σ H s∧s'.os=s.os∧AllBare s'.gens∧FlyC Bb X.stack ea (.ref C) a0 s'.heap∧HOk X.prog X.w H' Bb∧UnB (kP X.stack) H H' s.heap Bb s'.heap)∨
  (∃H s a0 Bb,Inv X pins σ H s∧s'.os=s.os∧AllBare s'.gens∧HeldC Bb X.stack ea (.ref C) a0 X.env.locals s'.heap∧HOk X.prog X.w H' Bb∧UnB (kP X.stack) H H' s.heap Bb s'.heap))
theorem xz{X:Cx}{mk:Bool}{n:Str}{B:Hp}{E':List Sl}(hst:X.stack=X.env::X.outer)(hfr:X.env.frame=some X.env.locals):PassesOwn (model X.prog X.w) X.A X.env (xy X mk n B E'):=by
 intro e s' h
 obtain⟨pins,σ,C,H',ea,rfl,ns,fr,h⟩:=h
 have came:∀(s1:Shared) (H:Hp) (s:Shared) (a0:Value) (Bb:Heap),Inv X pins σ H s→s1.os=s.os→AllBare s1.gens→HeldC Bb X.stack ea (.ref C) a0 X.env.locals s1.heap→HOk X.prog X.w H' Bb→UnB (kP X.stack) H H' s.heap Bb s1.heap→cameBackBy (model X.prog X.w) X.A X.env (xy X mk n B E') (.ref ea) s1:=fun s1 H s a0 Bb I os bare hh hok u=>
  vz hfr hh fun h2 x1 x2=>⟨pins,σ,C,H',ea,rfl,ns,fr,.inr (.inr ⟨H,s,a0,Bb,I,os,bare,x1,hok,u.on hh.2.2.1 x2⟩)⟩
 show wpAny _ _ (noteFrame _ _) _ _ _
 rcases h with⟨hm,s,h',vs,I,hx,rfl⟩ |⟨H,s,a0,Bb,I,os,bare,fl,hok,u⟩ |⟨H,s,a0,Bb,I,os,bare,hh,hok,u⟩
 ·have st:=I.stack
  have hin:∀env∈X.stack,∀b,env.frame=some b→b∈kP X.stack:=fun env he b hb=>List.mem_filterMap.mpr ⟨env,he,hb⟩
  have ff:=PySem.W.funFrames_hide st hin
  refine sR (base:=PySem.W.hideAll s.heap (kP X.stack)) (h:=s.heap) (outer:=X.outer) (by rw[I.ok.frames,hst]) hfr (fun b o q=>PySem.W.of_hideAll _ q) (hst▸ff) hx fun h2 t x1 x2=>?_
  refine came {s with heap:=h2} H' s (.ref t) _ I rfl I.bare (hst▸x1) (fun a o e=>?_) ⟨fun b o e n hb=>PySem.W.hideAll_get _ e hb,fun b o e n hb=>?_,fun _ _ _ n=>n,fun b o e hb=>⟨o,PySem.W.hideAll_get _ e hb⟩,fun _ _ e=>e,fun _ _ _ e=>e,fun _ _ e=>e⟩
  ·refine(I.hok a o e).stay (fun b u hb q=>PySem.W.hideAll_get _ q fun z=>?_) (fun _ q=>q) fun _ _ q=>q
   have n:=I.stkFree b z
   rcases hb with rfl |hb
   ·rw[n]at e;cases e
   ·rw[n]at hb;cases hb
  ·obtain⟨_,o',ho',hd⟩:=st.mem hb
   rw[e]at ho'
   cases ho'
   exact x2 b o (hx.keeps b o e) hd
 ·refine pk (outer:=X.outer) (by rw[I.ok.frames,hst]) hfr (hst▸fl) fun h2 x1 x2=>?_
  exact came {s' with heap:=h2} H s a0 Bb I os bare (hst▸x1) hok (u.on fl.2.2.1 x2)
 ·exact wpAny_noteFrame_againW hfr hh.2.2.2.1 (came s' H s a0 Bb I os bare hh hok u)
end PL
namespace PL
open PySem PySem.Spec PyProof.Rows L2 Nh
def zT:cX:=fun E=>some (.sh (.dict []),E)
theorem D0{X:Cx}{pos:Pos}:EX X (.Dict [] [] pos) false zT:=by
 refine bY wM fun σ H Q z=>?_
 obtain⟨B,E,xs,Xs,res,E',⟨F,A,fr⟩,c,e,q⟩:=z
 cases e
 intro p hp
 have fr2:=fr.grow (hM hp (.dK []))
 exact q _ _ ⟨_,_,fr2.push ⟨rfl,_,rfl,.dct (.inl (by show(if p∈A then none else _)=_;rw[if_neg (fr.newA hp)];exact upd_same)) .nil⟩⟩
end PL
namespace PL
open PySem PySem.Spec PyProof.Rows L2 Nh
def RE(X:Cx)(al:Bool)(e:Expr)(r:i8):Prop:=∀pins s σ H B E n E',Inv X pins σ H s→Frm X.K B σ H E [] []→r E=some (n,E')→
 (∀pins',(al=false→pins'=pins)→∀σ' C H',PySem.W.nsIn X.K mainGlobals n=some (some (.ref C))→Frm X.K B σ' H' E' [] []→vq X C pins' σ' H'∧(al=true→re X C pins' σ' H'))→wpAny (model X.prog X.w) X.A (eval e X.env) (fun _ _=>False) X.xe s
section
variable {X:Cx} {k:Nat} {x:Str} {ps:List Str} {r:i8} {p pos cpos:Pos} {e:Expr} {es:List Expr} {m al mk:Bool}
theorem fK {q:List PyData→Option Str} {g:m8} (D:OwnR X.prog X.w X.K X.mg X.base k x ps (nw X.K q)) (hr:Room k X.A) (hg:Gl X x) (ha:AX X.nox (e::es) m g) (hdb:(x == ("__debug__":Str))=false:=by decide) (he:starEach (e::es) X.env=(false,eval e X.env)::starEach es X.env:=by rfl) (hpl:(backTo pos (starEach es X.env)).any (·.1)=false:=by rfl):
  RE X al (.Call (.Name x p) (e::es) [] pos) (df q g):=fun pins s σ H B E n E' I fr ee k=>
 vt D hr hg ha hdb he hpl I fr ee fun C H' z f=>(k pins (fun _=>rfl) σ C H' z f).1
theorem pY(h:RE X al e r):RX X mk al (.Return (some e) pos) r:=fun pins s σ H B E n E' I fr ee k=>
 wpAny_Return_some (dF (h pins s σ H B E n E' I fr ee fun pp q σ' C H' z f=>(k pp q σ' C H' z f).2) fun _ _ z=>z.elim)
theorem i9{y:Str}{pos':Pos}(h:RE X al e r)(hs:swapsWith e (some (.Name y pos')) pos.line X.env=pure false:=by rfl):RX X mk al (.Assign [.Name y pos'] e pos) r:=fun pins s σ H B E n E' I fr ee k=>
 wpAny_Assign_Name (dF (h pins s σ H B E n E' I fr ee fun pp q σ' C H' z f=>(k pp q σ' C H' z f).2) fun _ _ z=>z.elim) hs
end
end PL
namespace PL
open PySem PySem.Calls L2 Nh PyProof.Rows
def xA:List PyData→Option PyData
 |[.int n]=>if n.natAbs.log2 < 1920 then some (.str (Str.ofString (toString n)))else none
 |_=>none
def mv:List PyData→Option PyData
 |[.str x]=>if x.length≤640 then (PySem.intText? x).map PyData.int else none
 |_=>none
def qw(x:Str)(i:Int)(y:Str):Bool:=decide (x.cps.toList[i.toNat]? =y.cps.toList[0]?)
theorem vA{x y:Str}{i:Int}(hy:y.cps.toList.length=1)(hi:0≤i):(decide (fromIndex x.length i+y.length≤x.length)&&Builtin.Str.subAt x y (fromIndex x.length i))=qw x i y:=by
 have ei:fromIndex x.length i=i.toNat:=by
  unfold fromIndex
  rw[if_neg (by omega),Int.max_eq_right hi]
 obtain⟨⟨ys⟩⟩:=y
 obtain⟨⟨xs⟩⟩:=x
 have hy:ys.length=1:=hy
 obtain⟨c,rfl⟩:∃c,ys=[c]:=List.length_eq_one_iff.mp hy
 rw[ei]
 have e1:(Builtin.Str.subAt ⟨⟨xs⟩⟩ ⟨⟨[c]⟩⟩ i.toNat)=(((xs.drop i.toNat).take 1) == [c]):=by
  show((Array.mk xs).extract i.toNat (i.toNat+1) == #[c])=_
  have:(Array.mk xs).extract i.toNat (i.toNat+1)=((xs.drop i.toNat).take 1).toArray:=by
   apply Array.ext'
   simp[List.extract]
  rw[this]
  generalize (xs.drop i.toNat).take 1=l
  show(l.toArray == [c].toArray)=_
  simp
 rw[e1]
 show(decide (i.toNat+1≤xs.length)&&((xs.drop i.toNat).take 1 == [c]))=decide (xs[i.toNat]? =some c)
 by_cases h:i.toNat < xs.length
 ·have:(xs.drop i.toNat).take 1=[xs[i.toNat]]:=by
   rw[List.drop_eq_getElem_cons h];rfl
  rw[this,List.getElem?_eq_getElem h,decide_eq_true (by omega:i.toNat+1≤xs.length),Bool.true_and]
  by_cases hc:xs[i.toNat]=c
  ·rw[hc];simp
  ·rw[decide_eq_false (by simpa using hc)]
   simpa using hc
 ·rw[decide_eq_false (by omega:¬i.toNat+1≤xs.length),Bool.false_and,List.getElem?_eq_none (by omega)]
  rfl
section
variable {X:Cx} {e e2:Expr} {m1:Bool} {g:m8} {x:Str} {p pos apos cpos:Pos}
theorem vB:CallR X (.type "str") (fun xs H Q=>∃n,xs=[.int n]∧n.natAbs.log2 < 1920∧Q (.str (Str.ofString (toString n))) H):=by
 intro pins s σ H xs us Q I r h
 obtain⟨n,rfl,hn,q⟩:=h
 obtain⟨u,rfl,ru⟩:=r.one
 obtain⟨t,rfl⟩:=ru
 exact PySem.P.str_of_int hn ⟨.str _,H,I.tok _,⟨_,rfl⟩,q⟩
theorem vC:CallR X (.type "int") (fun xs H Q=>∃x n,xs=[.str x]∧x.length≤640∧PySem.intText? x=some n∧Q (.int n) H):=by
 intro pins s σ H xs us Q I r h
 obtain⟨x,n,rfl,hl,hn,q⟩:=h
 obtain⟨u,rfl,ru⟩:=r.one
 obtain⟨t,rfl⟩:=ru
 exact PySem.W.KIN.call_text hn hl ⟨.int _,H,I.tok _,⟨_,rfl⟩,q⟩
theorem zU (hg:Gl X "str") (hm:X.mg "str"=none) (ha:AX X [e] m1 g) (he:starEach [e] X.env=[(false,eval e X.env)]:=by rfl):EX X (.Call (.Name "str" p) [e] [] pos) m1 (bJ xA g):=
 bY (jZ vB hg hm PyProof.Rows.boot_str ha (by decide) (by decide) he rfl) fun _ _ _ z=>sE (fun ds d vs H Q e r=>by
  unfold xA at e
  split at e
  ·split at e
   ·rename_i hn
    cases e
    obtain⟨v,rfl,r'⟩:=r.one
    cases r'
    exact⟨_,rfl,fun q=>⟨_,rfl,hn,q⟩⟩
   ·cases e
  ·cases e) z
theorem uo (hg:Gl X "int") (hm:X.mg "int"=none) (ha:AX X [e] m1 g) (he:starEach [e] X.env=[(false,eval e X.env)]:=by rfl):EX X (.Call (.Name "int" p) [e] [] pos) m1 (bJ mv g):=
 bY (jZ vC hg hm PyProof.Rows.boot_int ha (by decide) (by decide) he rfl) fun _ _ _ z=>sE (fun ds d vs H Q e r=>by
  unfold mv at e
  split at e
  ·split at e
   ·rename_i hn
    obtain⟨n,e1,e2⟩:=Option.map_eq_some_iff.mp e
    cases e2
    obtain⟨v,rfl,r'⟩:=r.one
    cases r'
    exact⟨_,rfl,fun q=>⟨_,_,rfl,hn,e1,q⟩⟩
   ·cases e
  ·cases e) z
def zV:V→List V→Hp→VK→Prop:=fun v vs H Q=>∃x y i,v=.str x∧vs=[.str y,.int i]∧y.cps.toList.length=1∧0≤i∧Q (.bl (qw x i y)) H
theorem vD:Fv X "str.startswith" zV:=by
 intro pins s σ H x vs v us Q I rx rv h
 obtain⟨z,y,i,rfl,rfl,hy,hi,q⟩:=h
 obtain⟨t,rfl⟩:=rx
 obtain⟨u,w,rfl,ru,rw'⟩:=rv.two
 obtain⟨tu,rfl⟩:=ru
 obtain⟨tw,rfl⟩:=rw'
 refine call_gives F.slot_str_startswith (typeIs_str _ _ _) F.entry_str_startswith (F.args_str_startswith_3 _ _ _) (gives_str_startswith_from z y i t tu tw) ?_
 rw[vA hy hi]
 exact⟨.bl _,H,I,rfl,q⟩
def da(i:Nat)(g:m8):cX:=fun E=>match E[i]? with
 |some (.sh (.str x))=>(g E).bind fun a=>(ax a.2 a.1).bind fun ds=>match ds with
  |[.str y,.int n]=>if y.cps.toList.length=1∧0≤n then some (.sh (.bool (qw x n y)),a.2)else none
  |_=>none
 |_=>none
theorem iQ (i:Nat) (ha:AX X [e,e2] m1 g) (hN:X.N[i]? =some x:=by rfl) (hv:AG X.env.scope x:=by first |exact Or.inl rfl |exact Or.inr (Or.inl rfl) |exact Or.inr (Or.inr rfl)) (hd:(x == ("__debug__":Str))=false:=by decide) (hcd:(x == ("__classdict__":Str))=false:=by decide)
  (hs:starEach [e,e2] X.env=(false,eval e X.env)::starEach [e2] X.env:=by rfl) (hpl:(backTo cpos (starEach [e2] X.env)).any (·.1)=false:=by rfl) (hbase:attributeBase (.Name x p) "startswith" X.env (eval (.Name x p) X.env)=eval (.Name x p) X.env:=by rfl)
  (hfew:((backTo cpos (starEach [e,e2] X.env)).all (fun x=> !x.1)&&(backToKw cpos (keywordEach [] X.env)).all (fun x=>x.1.isSome)
   &&decide (([e,e2]:List Expr).length+([]:List Keyword).length+(if ([]:List Keyword).isEmpty then 0 else 1) < 30))=true:=by rfl) (hline:(apos.endLine == cpos.line)=true:=by rfl):
  EX X (.Call (.Attribute (.Name x p) "startswith" apos) [e,e2] [] cpos) m1 (da i g):=by
 refine bY (tU PySem.F.plainAttrs_str PySem.F.slot_str_startswith PySem.F.type_str_startswith vD (lL hN hv hd hcd) ha hbase hfew hline hs hpl) fun σ H Q z=>?_
 obtain⟨B,E,xs,Xs,res,E',⟨F,A,fr⟩,cl,e,q⟩:=z
 unfold da at e
 split at e
 ·rename_i z ei
  obtain⟨⟨rs,E1⟩,e1,e⟩:=Option.bind_eq_some_iff.mp e
  obtain⟨ds,e2,e⟩:=Option.bind_eq_some_iff.mp e
  simp only at e
  split at e
  ·rename_i y n
   split at e
   ·rename_i hc
    cases e
    obtain⟨o,A1,eo,rfl,v0,rfl,rp⟩:=fr.var ei
    cases rp
    refine⟨_,eo,rfl,B,E,xs,Xs,rs,E',⟨F,A,fr⟩,cl,e1,fun vs H1 hl ⟨F1,A1,fr1⟩=>?_⟩
    obtain⟨r1,A',fr2⟩:=fr1.looks hl e2
    obtain⟨v1,v2,rfl,ra,rb⟩:=r1.two
    cases ra;cases rb
    exact⟨z,y,n,rfl,rfl,hc.1,hc.2,q _ _ ⟨F1,A',fr2.push ⟨rfl,_,rfl,.bl _⟩⟩⟩
   ·cases e
  ·cases e
 ·cases e
end
end PL
namespace PL
open PySem L2 Nh PyProof.Rows
def db(c:iU)(b:cy)(r:i8):Nat→i8
 | 0=>fun _=>none
 |k+1=>fun E=>(c E).bind fun a=>if a.1 then (match r a.2 with
  |some x=>some x
  |none=>match b a.2 with
   |some (E2,.nx)=>db c b r k E2
   |some (E2,.ct)=>db c b r k E2
   |_=>none)else none
theorem i_(c:iU)(b:cy)(r:i8):∀{k:Nat} {E:List Sl} {x:Str×List Sl},db c b r k E=some x→db c b r (k+1) E=some x
 |k+1,E,x,h=>by
  obtain⟨a,e1,h⟩:=Option.bind_eq_some_iff.mp h
  show(c E).bind _=_
  rw[e1,Option.bind_some]
  split at h
  ·rename_i ha
   rw[if_pos ha]
   cases er:r a.2 with
   |some y=>rw[er]at h;exact h
   |none=>
    rw[er]at h
    simp only at h ⊢
    cases eb:b a.2 with
    |none=>rw[eb]at h;cases h
    |some p=>
     obtain⟨E2,fl⟩:=p
     rw[eb]at h
     cases fl with
     |nx=>exact i_ c b r h
     |ct=>exact i_ c b r h
     |bk=>cases h
     |rt _=>cases h
  ·cases h
theorem kF(c:iU)(b:cy)(r:i8){k:Nat}{E:List Sl}{x:Str×List Sl}(h:db c b r k E=some x):∀j,db c b r (k+j) E=some x
 | 0=>h
 |j+1=>i_ c b r (kF c b r h j)
def ja(c:iU)(b:cy)(r:i8):i8:=fun E=>open Classical in if h:∃k x,db c b r k E=some x then some h.choose_spec.choose else none
theorem vE{c:iU}{b:cy}{r:i8}{k:Nat}{E:List Sl}{x:Str×List Sl}(h:db c b r k E=some x):ja c b r E=some x:=by
 have ex:∃k x,db c b r k E=some x:=⟨k,x,h⟩
 unfold ja
 rw[dif_pos ex]
 have e:=ex.choose_spec.choose_spec
 have e1:=kF c b r e k
 have e2:=kF c b r h ex.choose
 rw[Nat.add_comm]at e2
 rw[e1]at e2
 exact e2
theorem xB{X:Cx}{mk:Bool}{c:Expr}{body:List Stmt}{m:Bool}{t:iU}{b:cy}{r:i8}{pos:Pos}(hst:X.stack=X.env::X.outer)(hfr:X.env.frame=some X.env.locals)(ht:∀W,TX (X.wish W) c m t)(hb:rS X.nox body b)(hr:∀W,yH (X.wish W) mk true body r):RX X mk true (.While c body [] pos) (ja t b r):=fun pins s σ H B E n E' I fr e k=>by
 obtain⟨k0,e⟩:∃k0,db t b r k0 E=some (n,E'):=by
  unfold ja at e
  split at e
  ·rename_i ex
   have e0:=ex.choose_spec.choose_spec
   rw[Option.some.inj e]at e0
   exact⟨_,e0⟩
  ·cases e
 have hbW:PSs (X.wish (xy X mk n B E')) body (rs X.K b):=fun pins s σ H D I hw=>
  wpAny_mono (hb pins s σ H D (I.unwish.wish _) hw) (fun _ _ q=>SP.unwish (X:=X) q |> fun z=>by
   rename_i f s'
   cases f with
   |next=>obtain⟨σ',H',I,q⟩:=z;exact⟨σ',H',I.wish _,q⟩
   |brk=>obtain⟨σ',H',I,q⟩:=z;exact⟨σ',H',I.wish _,q⟩
   |cont=>obtain⟨σ',H',I,q⟩:=z;exact⟨σ',H',I.wish _,q⟩
   |ret u=>obtain⟨v,σ',H',I,r,q⟩:=z;exact⟨v,σ',H',I.wish _,r,q⟩) fun _ _ z=>z.elim
 have hbody:PSs (X.wish (xy X mk n B E')) body (fun D σ H=>rs X.K b D σ H∨∃Ei,Frm X.K B σ H Ei [] []∧r Ei=some (n,E')):=fun pins s σ H D I hw=>by
  rcases hw with hw |⟨Ei,fri,er⟩
  ·exact hbW pins s σ H D I hw
  ·refine wpAny_mono (hr _ pins s σ H B Ei n E' I fri er fun pp _ σ' C H' ns fr'=>⟨fun hm=>?_,?_,fun _=>?_⟩) (fun _ _ z=>z.elim) fun _ _ z=>z
   ·exact fun s h' ea vs I hx=>⟨pp,σ',C,H',ea,rfl,ns,fr',.inl ⟨hm,s,h',vs,I.unwish,hx,rfl⟩⟩
   ·exact fun H s ea s' a0 Bb I os bare fl hok u=>⟨pp,σ',C,H',ea,rfl,ns,fr',.inr (.inl ⟨H,s,a0,Bb,I.unwish,os,bare,fl,hok,u⟩)⟩
   ·exact fun H s ea s' a0 Bb I os bare fl hok u=>⟨pp,σ',C,H',ea,rfl,ns,fr',.inr (.inr ⟨H,s,a0,Bb,I.unwish,os,bare,fl,hok,u⟩)⟩
 have q:=qz (X:=X.wish (xy X mk n B E')) (pos:=pos) (xz hst hfr) (ht _) hbody pins s σ H {nx:=fun _ _=>False,bk:=fun _ _=>False,ct:=fun _ _=>False,rt:=fun _ _=>False} (I.wish _) (by
  refine⟨fun mm σ' H'=>∃Ei,db t b r mm Ei=some (n,E')∧Frm X.K B σ' H' Ei [] [],⟨k0,E,e,fr⟩,?_⟩
  rintro mm σ' H' ⟨Ei,ei,fri⟩
  cases mm with
  |zero=>cases ei
  |succ mm=>
   obtain⟨⟨b1,E2⟩,e2,ei⟩:=Option.bind_eq_some_iff.mp ei
   refine⟨B,Ei,[],[],b1,E2,fri,fun _=>Calm.nil rfl,e2,fun H2 fr2=>?_⟩
   cases b1 with
   |false=>cases ei
   |true=>
    refine(if_pos rfl).mpr ?_
    refine⟨fun σ4 H4=>∃Ej,db t b r mm Ej=some (n,E')∧Frm X.K B σ4 H4 Ej [] [],fun σ4 H4 z=>⟨mm,Nat.lt_succ_self _,z⟩,?_⟩
    simp only[if_true]at ei
    split at ei
    ·rename_i x er
     cases ei
     exact .inr ⟨E2,fr2,er⟩
    ·split at ei
     ·rename_i E3 eb
      exact .inl ⟨B,E2,[],[],E3,.nx,fr2,rfl,eb,fun σ4 H4 fr4=>⟨E3,ei,fr4⟩⟩
     ·rename_i E3 eb
      exact .inl ⟨B,E2,[],[],E3,.ct,fr2,rfl,eb,fun σ4 H4 fr4=>⟨E3,ei,fr4⟩⟩
     ·cases ei)
 refine wpAny_mono q (fun f s1 z=>?_) fun e1 s1 z=>?_
 ·cases f with
  |next=>obtain⟨_,_,_,z⟩:=z;exact z
  |brk=>obtain⟨_,_,_,z⟩:=z;exact z
  |cont=>obtain⟨_,_,_,z⟩:=z;exact z
  |ret u=>obtain⟨_,_,_,_,_,z⟩:=z;exact z
 ·obtain⟨pp,σ',C,H',ea,rfl,ns,fr',z⟩:=z
  obtain⟨k1,k2,k3⟩:=k pp (fun h=>nomatch h) σ' C H' ns fr'
  rcases z with⟨hm,s2,h2,vs,I2,hx,rfl⟩ |⟨H2,s2,a0,Bb,I2,os,bare,fl,hok,u⟩ |⟨H2,s2,a0,Bb,I2,os,bare,fl,hok,u⟩
  ·exact k1 hm s2 h2 ea vs I2 hx
  ·exact k2 H2 s2 ea s1 a0 Bb I2 os bare fl hok u
  ·exact k3 rfl H2 s2 ea s1 a0 Bb I2 os bare fl hok u
section
variable {X:Cx} {k:Nat} {x:Str} {ps:List Str} {r:i8} {p pos cpos:Pos} {e e2:Expr} {es:List Expr} {m al mk:Bool}
def kj(f:cX)(r:i8):i8:=fun E=>(f E).bind fun a=>r a.2
theorem D1{r1 r2:i8}(h1:RE X al e r1)(h2:RE X al e r2):RE X al e (kE r1 r2):=fun pins s σ H B E n E' I fr ee k=>by
 unfold kE at ee
 split at ee
 ·rename_i x er
  cases ee
  exact h1 pins s σ H B E n E' I fr er k
 ·exact h2 pins s σ H B E n E' I fr ee k
theorem D2{f:cX}(h0:EX X.nox e m f)(h:RE X al e2 r){Q:List Value→Shared→Prop}{pins:List (Addr×Obj)}{s:Shared}{σ:L2.St}{H B:Hp}{E E':List Sl}{n:Str}(I:Inv X pins σ H s)(fr:Frm X.K B σ H E [] [])(ee:kj f r E=some (n,E'))
  (k:∀pins',(al=false→pins'=pins)→∀σ' C H',PySem.W.nsIn X.K mainGlobals n=some (some (.ref C))→Frm X.K B σ' H' E' [] []→vq X C pins' σ' H'∧(al=true→re X C pins' σ' H'))
  (he:starEach (e2::es) X.env=(false,eval e2 X.env)::starEach es X.env):wpAny (model X.prog X.w) X.A (spliced ((false,eval e X.env)::backTo pos (starEach (e2::es) X.env))) Q X.xe s:=by
 obtain⟨⟨s1,E1⟩,e1,ee⟩:=Option.bind_eq_some_iff.mp ee
 have q1:=h0 pins s σ H (fun v H1=>Frm X.K B σ H1 E1 [v] [s1]) (I.wish _) ⟨B,E,[],[],s1,E1,fr,fun _=>Calm.nil rfl,e1,fun v H1 f=>f⟩
 refine Calls.spliced_cons (wpAny_mono q1 (fun u t1 ⟨v,H1,I1,rv,F1,A1,fr1⟩=>?_) fun _ _ z=>z.elim)
 have I1:=I1.unwish
 obtain⟨A',fr2⟩:=fr1.pop
 rw[he]
 show wpAny _ _ (spliced ((false,eval e2 X.env)::backTo pos (starEach es X.env))) _ _ t1
 exact Calls.spliced_cons (wpAny_mono (h pins t1 σ H1 B E1 n E' I1 ⟨_,_,fr2⟩ ee k) (fun _ _ z=>z.elim) fun _ _ z=>z)
theorem uq {ps:List Str} {sp:Sp} {k:Nat} {f:cX} (D:Own X.prog X.w X.K X.mg X.base k x ps sp) (hg:Gl X x) (h0:EX X.nox e m f) (h:RE X al e2 r) (hdb:(x == ("__debug__":Str))=false:=by decide) (he:starEach (e::e2::es) X.env=(false,eval e X.env)::starEach (e2::es) X.env:=by rfl) (he2:starEach (e2::es) X.env=(false,eval e2 X.env)::starEach es X.env:=by rfl) (hpl:(backTo pos (starEach (e2::es) X.env)).any (·.1)=false:=by rfl):
  RE X al (.Call (.Name x p) (e::e2::es) [] pos) (kj f r):=fun pins s σ H B E n E' I fr ee k=>by
 obtain⟨f,fd,F,b,mx,kp⟩:=D
 refine wpAny_Call_Name_kw (iq I hg mx ?_ hdb)
 refine PySem.W.callWith_K (h₀:=X.base) I.ok.mod.kin kp ?_ he hpl
 rw[he]
 exact D2 h0 h I fr ee k he2
theorem zW{f:cX}{x1:Nat}(h0:EX X.nox e m f)(h:RE X al e2 r)(he:starEach (e::e2::es) X.env=(false,eval e X.env)::starEach (e2::es) X.env:=by rfl)(he2:starEach (e2::es) X.env=(false,eval e2 X.env)::starEach es X.env:=by rfl):
  RE X al (.Tuple (e::e2::es) x1 pos) (kj f r):=fun pins s σ H B E n E' I fr ee k=>by
 refine wpAny_Tuple_spliced ?_
 rw[he]
 exact D2 h0 h I fr ee k he2
end
end PL
namespace L2
open PySem PyProof.Rows
section
variable {X:Cx} {pins:List (Addr×Obj)} {σ:St} {H:Hp} {s:Shared} {d:Addr} {o:Obj} {us:List V}
theorem xC{u u':HO}(I:Inv X pins σ H s)(e:H d=some u)(hu:(∀xs,u≠ .tup xs)∧∀b,u≠ .own b)(hf:∀o v,X.H₀ d=some (.frz o v)→u'=.frz o v)(ht:∀ps,u≠ .tbl ps)(ok:ObjOk X.prog X.w (upd H d u') s.heap d u'):Inv X pins σ (upd H d u') s:=by
 have ne:∀b,H b=none→b≠d:=fun b n z=>by rw[z,e]at n;cases n
 refine⟨I.ok,I.os,I.bare,⟨I.base.keep,I.base.slot,fun b w' q n hx=>?_,I.base.there,fun b xs q=>?_,fun b w' v q=>?_,fun b ps q=>?_⟩,I.loc,I.cell,?_,fun x c q=>?_,fun p q=>?_,fun b w' q=>?_,I.len⟩
 ·have z:=I.base.free b w' q n hx
  rw[aC (ne b z)];exact z
 ·have z:=I.base.tups b xs q
  rw[aC (fun y=>by rw[y,e]at z;cases z;exact hu.1 _ rfl)];exact z
 ·by_cases hb:b=d
  ·subst hb;rw[upd_same,hf _ _ q]
  ·rw[aC hb];exact I.base.frzs b w' v q
 ·have z:=I.base.tbls b ps q
  rw[aC (fun y=>by rw[y,e]at z;cases z;exact ht _ rfl)];exact z
 ·rw[aC (ne _ I.free)];exact I.free
 ·rw[aC (ne _ (I.freeC x c q))];exact I.freeC x c q
 ·obtain⟨e1,e2,e3⟩:=I.pin p q
  exact⟨e1,by rw[aC (ne _ e2)];exact e2,e3⟩
 ·by_cases hb:b=d
  ·subst hb;rw[upd_same]at q;cases q;exact ok
  ·rw[aC hb]at q
   refine(I.hok b w' q).stay (fun c w' _ q=>q) (fun c q=>?_) fun c xs q=>?_
   ·rw[aC (fun y=>by rw[y,e]at q;cases q;exact hu.2 _ rfl)];exact q
   ·rw[aC (fun y=>by rw[y,e]at q;cases q;exact hu.1 _ rfl)];exact q
theorem rk(I:Inv X pins σ H s)(e:H d=some (.lst us)):∃o,Inv X pins σ (upd H d (.frz o (.lst us))) s:=by
 obtain⟨z,its,n,r,e1⟩:=(show ObjOk X.prog X.w H s.heap d (.lst us)from I.hok d _ e)
 refine⟨_,xC I e ⟨fun _ z=>(nomatch z),fun _ z=>(nomatch z)⟩ (fun o' v q=>?_) (fun _ z=>(nomatch z)) ⟨e1,z,its,n,r,e1⟩⟩
 have q':=I.base.frzs d _ _ q
 rw[e]at q'
 cases q'
end
end L2
namespace PL
open PySem L2 Nh PyProof.Rows
def D3(to:TE):TE:=fun σ H Q=>to σ H fun x H1=>∃d us,x=.ref d∧H1 d=some (.lst us)∧∀ob,Q (.ref d) (upd H1 d (.frz ob (.lst us)))
theorem zX{X:Cx}{o:Expr}{to:TE}(ho:PE X o to):PE X o (D3 to):=fun pins s σ H Q I h=>dF (ho pins s σ H _ I h) fun v s1 ⟨x,H1,I1,r1,d,us,ex,hd,q⟩=>by
 subst ex
 obtain⟨ob,I2⟩:=rk I1 hd
 exact⟨.ref d,_,I2,r1,q ob⟩
end PL
namespace PL
open PySem L2 Nh PyProof.Rows
abbrev h7(ds:List PyData):PyData:=.dict [(.none,.tuple []),(.none,.tuple ds)]
theorem Cv{K:PySem.W.Frag}{H:Hp}{v:V}{ds:List PyData}(r:Rp K H v (h7 ds)):∃(a:Addr) (o:Obj) (xs:List V),v=.ref a∧H a=some (.frz o (.lst xs))∧RpA K H xs ds:=by
 generalize e:h7 ds=d at r
 cases r with
 |frl h r=>cases e;exact⟨_,_,_,rfl,h,r⟩
 |dct h1 h2=>
  cases h2 with
  |nil=>cases e
  | @cons k x us d kvs a b=>cases k <;> cases e
 |_=>cases e
section
variable {K:PySem.W.Frag} {B F:Hp} {A:List Addr} {σ:lK} {H H':Hp} {E:List Sl} {xs:List V} {Xs:List Sl} {v:V} {r:Sl}
theorem FrF.frzV{i:Nat}{ds:List PyData}(h:FrF K B F A σ H E xs Xs)(e:E[i]? =some (.ow ds))(c:∀s∈Xs,s.isBr=false):
  ∃l us,σ[i]? =some (some (.ref l))∧H l=some (.lst us)∧∀ob,Frm K B σ (upd H l (.frz ob (.lst us))) (E.set i .no) (.ref l::xs) (.sh (h7 ds)::Xs):=by
 obtain⟨o,A0,A1,A2,eA,eo,hp,put⟩:=h.sl.at (k:=Xs.length+i) (s:=.ow ds) (by rw[List.getElem?_append_right (by omega)];simpa using e)
 rw[List.getElem?_append_right (by rw[List.length_map,h.len];omega),List.length_map,h.len,Nat.add_sub_cancel_left]at eo
 obtain⟨l,us,rfl,rfl,hl,rr⟩:=hp
 refine⟨l,us,eo,hl,fun ob=>?_⟩
 have hlA:l∈A:=by rw[eA];simp
 have lF:F l=none:=h.fr l hlA
 have nd:=h.nd
 rw[eA]at nd
 have nl:∀b,b∈A0∨b∈A2→b≠l:=fun b hb z=>by
  subst z
  rcases hb with hb |hb
  ·exact(List.nodup_append.mp nd).2.2 b hb b (by simp) rfl
  ·exact(List.nodup_append.mp (List.nodup_append.mp nd).2.1).2.2 b (by simp) b hb rfl
 have sF:Same F (upd F l (.frz ob (.lst us))):=fun b o q=>by
  rw[aC (fun z=>by rw[z,lF]at q;cases q)]
  exact q
 have z:=put (SlOk K (upd F l (.frz ob (.lst us))) (upd H l (.frz ob (.lst us))) σ) (some (.ref l)) .no [] rfl fun o s C hs hC q=>q.stay sF (fun b hb=>aC (nl b (hC b hb))) fun z=>by
  rcases List.mem_append.mp hs with hs |hs
  ·rw[c s hs]at z;cases z
  ·have:=h.pl s hs
   cases s <;> simp[Sl.isAl,Sl.isBr]at this z
 have e3:(Xs++E).set (Xs.length+i) .no=Xs++E.set i .no:=by
  rw[List.set_append_right _ _ (by omega),Nat.add_sub_cancel_left]
 have e2:(List.map some xs++σ).set (Xs.length+i) (some (V.ref l))=List.map some xs++σ:=by
  rw[←h.len,List.set_append_right _ _ (by rw[List.length_map];omega),List.length_map,Nat.add_sub_cancel_left]
  congr 1
  exact List.ext_getElem? fun j=>by
   by_cases hj:i=j
   ·subst hj
    rw[List.getElem?_set_self',eo];rfl
   ·rw[List.getElem?_set_ne hj]
 rw[e2,e3,List.nil_append]at z
 have fr:FrF K B (upd F l (.frz ob (.lst us))) (A0++A2) σ (upd H l (.frz ob (.lst us))) (E.set i .no) xs Xs:=by
  refine⟨fun b o q=>sF b o (h.bf b o q),fun b o q=>?_,fun b o q=>?_,z,?_,fun a ha=>?_,h.len,fun s hs=>?_⟩
  ·by_cases hb:b=l
   ·subst hb;rw[upd_same]at q ⊢;exact q
   ·rw[aC hb]at q ⊢;exact h.fh _ _ q
  ·by_cases hb:b=l
   ·subst hb
    have q':=j3 _ _ _ q
    rw[upd_same]at q' ⊢
    exact q'
   ·rw[aC hb]
    refine h.tf b o ?_
    unfold tups at q ⊢
    rw[aC hb]at q
    exact q
  ·exact List.nodup_append.mpr ⟨(List.nodup_append.mp nd).1,(List.nodup_append.mp (List.nodup_append.mp nd).2.1).2.1,fun a ha b hb=>(List.nodup_append.mp nd).2.2 a ha b (List.mem_append_right _ hb)⟩
  ·rw[aC (nl a (List.mem_append.mp ha))]
   exact h.fr a (by rw[eA];rcases List.mem_append.mp ha with q |q <;> simp[q])
  ·rcases List.mem_or_eq_of_mem_set hs with hs |hs
   ·exact h.pl s hs
   ·subst hs;rfl
 exact⟨_,_,fr.push ⟨rfl,_,rfl,.frl upd_same (rr.same sF)⟩⟩
end
def ur(i:Nat):cX:=fun E=>match E[i]? with
 |some (.ow ds)=>some (.sh (h7 ds),E.set i .no)
 |_=>none
theorem zY {X:Cx} (i:Nat) {x:Str} {p:Pos} (hN:X.N[i]? =some x:=by rfl) (hv:AG X.env.scope x:=by first |exact Or.inl rfl |exact Or.inr (Or.inl rfl) |exact Or.inr (Or.inr rfl)) (hd:(x == ("__debug__":Str))=false:=by decide) (hcd:(x == ("__classdict__":Str))=false:=by decide):EX X (.Name x p) true (ur i):=bY (zX (lL hN hv hd hcd)) fun σ H Q z=>by
 obtain⟨B,E,xs,Xs,res,E',⟨F,A,fr⟩,cl,e,q⟩:=z
 unfold ur at e
 split at e
 ·rename_i ds ei
  cases e
  obtain⟨l,us,eo,hl,k⟩:=fr.frzV ei (cl rfl)
  exact⟨_,eo,l,us,rfl,hl,fun ob=>q _ _ (k ob)⟩
 ·cases e
def xD(f:cX):mC:=fun E=>(f E).bind fun a=>match a.1 with
 |.sh (.dict [(.none,.tuple []),(.none,.tuple ds)])=>some (ds,a.2)
 |_=>none
theorem xE{X:Cx}{tg e:Expr}{m:Bool}{f:cX}(he:EX X e m f):IX X tg e m (xD f):=nj (pD he) fun σ H R z=>by
 obtain⟨B,E,xs,Xs,ds,E',fr,cl,e,q⟩:=z
 obtain⟨⟨s,E1⟩,e1,e⟩:=Option.bind_eq_some_iff.mp e
 simp only at e
 split at e
 ·cases e
  refine⟨B,E,xs,Xs,_,_,fr,cl,e1,fun v H1 ⟨F,A,fr1⟩=>?_⟩
  obtain⟨v',A1,ev,rfl,w,ew,r⟩:=fr1.ext (k:=0) rfl
  cases ev;cases ew
  obtain⟨A3,fr3⟩:=fr1.pop
  obtain⟨a,o,us,rfl,ha,ra⟩:=Cv r
  have sq:SqL X.K F a us:=.inl (.inr ⟨o,ha⟩)
  exact⟨_,rfl,⟨_,fr1.fh.seq sq⟩,q F _ _ fr1.bf ⟨F,A3,fr3.raise⟩ (o6 sq ra)⟩
 ·cases e
end PL
namespace PL
open PySem L2 Nh PyProof.Rows
structure EqC (K:PySem.W.Frag) (C:Addr):Prop where
 eq:PySem.W.findIn K (.ref C) "__eq__"=some (some (.builtin "object.__eq__"))
 so:PySem.W.subIn K (.ref C) (.type "object")=some true
 sb:PySem.W.subIn K (.type "str") (.ref C)=some false
def rl(K:PySem.W.Frag)(cs:List Str):Prop:=∀cn∈cs,∀C,PySem.W.nsIn K mainGlobals cn=some (some (.ref C))→EqC K C
def zZ(cs:List Str):PyData→PyData→Option PyData
 |.str a,.str b=>some (.bool (decide (a=b)))
 |.dict ((.none,.tuple [.str cn])::_),.str _=>if cs.contains cn then some (.bool false)else none
 |_,_=>none
abbrev Cw:P2:=bz (zZ ["Piece","Parts","Times","Back"])
theorem pZ(b:Str)(u:Tok)(l:Addr)(c:Value)(dd:Option Addr)(sl:Array (Option Value)):
  Meets (Builtin.«str.__eq__» ⟨[.str b u,.ref l],[]⟩) (fun _ R s=>s.heap.get? l=some {cls:=c,dict:=dd,data:=.plain,slots:=sl}∧R (.ok (.ret .notImplemented)) s):=
 .of_wp fun prog w A R s h=>by obtain⟨hp,g,d,tk,os⟩:=s;obtain⟨hl,h⟩:=h;wp_walk using wpAny_loadPart' hl,wpAny_load hl;exact⟨_,rfl,h⟩
theorem rm{X:Cx}{pins:List (Addr×Obj)}{s:Shared}{σ:L2.St}{H:Hp}{p C dx:Addr}{fs:List (Str×V)}{b:Str}{t:Tok}{A:Around}{E:Value→Shared→Prop}{Q:Value→Shared→Prop}(hu:A.units < cLine)(I:Inv X pins σ H s)(e:H p=some (.ins C dx fs))(z:EqC X.K C)(h:Q (.bool false) s):
  wpAny (model X.prog X.w) A (compareOp .Eq (.ref p) (.str b t)) Q E s:=by
 obtain⟨mA,O,_⟩:=kR I.hok e
 obtain⟨od,ia,_⟩:=O.look
 have hp:s.heap.get? p=some (PySem.W.instObj C dx):=by
  obtain⟨_,_,_,e2,_⟩:=(show ObjOk X.prog X.w H s.heap p (.ins C dx fs)from I.hok p _ e)
  exact e2
 have same:∀{R:Bool→Shared→Prop} {A':Around} {E':Value→Shared→Prop},R false s→wpAny (model X.prog X.w) A' (isSame (.ref p) (.str b t)) R E' s:=fun q=>wpAny_isSame_plain rfl (by rw[show((Value.ref p == Value.str b t)=false)from rfl];exact q)
 show wpAny _ _ (richCompare .Eq _ _) _ _ _
 simp only[richCompare,cmpInfo_Eq,oneThing_ref]
 refine wpAny_holding ?_
 refine wpAny_bind (wpAny_cRoomFor hu ?_)
 refine wpAny_bind (ia.type.here (wpAny_bind (wpAny_typeOf (typeIs_str s b t) ?_)))
 rw[if_pos (show(Value.ref C != Value.type "str")=true from rfl)]
 refine wpAny_bind ((PySem.W.looks_subIn I.kIn z.sb).here ?_)
 simp only[Bool.false_eq_true,if_false,Bool.not_false,if_true]
 have first:∀{R:Option Value→Shared→Prop},R none s→wpAny (model X.prog X.w) A (tryCompare (.ref p) "__eq__" (.str b t)) R E s:=fun {R} hR=>by
  unfold tryCompare
  refine wpAny_bind ?_
  simp only[callSpecialIfBound?,bindSpecialIfBound?]
  refine wpAny_holding (wpAny_bind (wpAny_bind (wpAny_bind (ia.type.here ((PySem.W.looks_findIn I.kIn z.eq).here ?_)))))
  refine wpAny_bind (wpAny_askSetting (wpAny_ite ?_))
  have bd:=PySem.F.cmp_object.eq.bind
  have fin:∀{R':Value→Shared→Prop},R' .notImplemented s→wpAny (model X.prog X.w) A (call (.builtin "object.__eq__") [.ref p,.str b t]) R' E s:=fun {R'} hR'=>by
   refine wpAny_call (codeAny_call_builtin PySem.F.cmp_object.eq.plain PySem.F.cmpEntry_eq ?_)
   simp only[checkBuiltinCall,PySem.F.cmpKind_eq,PySem.F.cmpSplit_eq]
   refine wpAny_bind ?_
   unfold isInstance
   refine wpAny_bind (ia.type.here ((PySem.W.looks_subIn I.kIn z.so).here ?_))
   simp only[Bool.not_true,Bool.false_eq_true,if_false]
   have ent:wpAny (model X.prog X.w) A.in1 (Builtin.«object.__eq__» ⟨[.ref p,.str b t],[]⟩) (fun fin s'=>match fin with
     |Fin.done f=>match Except.ok (ε:=Value) f with
      |Except.ok (Flow.ret v)=>R' v s'
      |Except.ok a=>False
      |Except.error e=>E e s'
     |Fin.again c'=>c'.quiet=true∧codeAny (model X.prog X.w) A c' (fun r s'=>match r with
      |Except.ok (Flow.ret v)=>R' v s'
      |Except.ok a=>False
      |Except.error e=>E e s') s') (fun e s'=>E e s') s:=by
    unfold Builtin.«object.__eq__»
    repeat (first |with_reducible refine same ?_ |wp_step)
    exact hR'
   have ha:=PySem.F.cmpArgs_eq (.ref p) (.str b t)
   cases hsig:Manifest.signature? "object.__eq__" with
   |none=>exact wpAny_pure ent
   |some sig=>
    simp only[argsOk,hsig]at ha
    have h2:Bind.checkArgs "object.__eq__" sig ⟨[.ref p,.str b t],[]⟩=pure ():=ha
    show wpAny _ _ (Bind.checkArgs "object.__eq__" sig ⟨[.ref p,.str b t],[]⟩) _ _ _
    rw[h2]
    exact wpAny_pure ent
  have fin2:wpAny (model X.prog X.w) A (call (.builtin "object.__eq__") ([.ref p]++[.str b t]) >>= fun v=>pure (some v)) (fun a s'=>wpAny (model X.prog X.w) A (match a with
    |some Value.notImplemented=>pure none
    |none=>pure none
    |some v=>pure (some v)) R E s') E s:=wpAny_bind (fin (wpAny_pure (wpAny_pure hR)))
  split
  ·rw[bd]
   exact wpAny_bind (wpAny_pure (wpAny_pure fin2))
  ·rw[bd]
   exact wpAny_tryCatch (wpAny_bind (wpAny_pure (wpAny_pure fin2)))
 refine wpAny_bind (m:=tryCompare (.ref p) _ _) (first ?_)
 refine wpAny_bind (m:=tryCompare (.str b t) _ _) (wpAny_tryCompare_declines (typeIs_str s b t) PySem.F.slot_str_eq_refl (call_meets PySem.F.slot_str_eq_refl (typeIs_str s b t) PySem.F.entry_str_eq (PySem.F.args_str_eq_2 _ _) (pZ b t p (.ref C) (some dx) #[]) ⟨hp,rfl,?_⟩))
 exact wpAny_bind (wpAny_rule (wpAny_bind (same (wpAny_pure h))))
section
variable {X:Cx} {a b:Expr} {m1 m2:Bool} {f g:cX} {pos:Pos}
def D4(K:PySem.W.Frag):R2:=fun x y H Q=>∃p C dx fs t,x=.ref p∧H p=some (.ins C dx fs)∧EqC K C∧y=.str t∧Q (.bl false) H
theorem Cy(hu:X.A.units+64 < cLine):OpR X (compareOp .Eq) (D4 X.K):=by
 intro pins s σ H x y u v Q I rx ry h
 obtain⟨p,C,dx,fs,t,rfl,hp,z,rfl,q⟩:=h
 obtain⟨tk,rfl⟩:=ry
 cases(show u=Value.ref p from rx)
 exact rm (by omega) I hp z ⟨.bl false,H,I,rfl,q⟩
abbrev D5(K:PySem.W.Frag):R2:=fun x y H Q=>Fr x y H Q∨D4 K x y H Q
theorem Cz {K:PySem.W.Frag} (R:rl K ["Piece","Parts","Times","Back"]):iM K (D5 K) Cw:=fX (r:=D5 K) (op:=zZ ["Piece","Parts","Times","Back"]) fun d1 d2 d v1 v2 H Q e r1 r2=>by
 unfold zZ at e
 split at e
 ·cases e
  cases r1;cases r2
  refine⟨_,rfl,fun q=>.inl ⟨rfl,?_⟩⟩
  rename_i a b
  have e2:decide (V.str a=V.str b)=decide (a=b):=by simp
  rw[e2]
  exact q
 ·split at e
  ·rename_i hc
   cases e
   obtain⟨p,C,dx,fs,rfl,ns,hp,_,_⟩:=pU r1
   cases r2
   exact⟨_,rfl,fun q=>.inr ⟨p,C,dx,fs,_,rfl,hp,R _ (by simpa using hc) C ns,rfl,q⟩⟩
  ·cases e
 ·cases e
theorem CA (R:rl X.K ["Piece","Parts","Times","Back"]) (hu:X.A.units+64 < cLine) (ha:EX X a m1 f) (hb:EX X b m2 g):TX X (.Compare a [.Eq] [b] pos) (m1||m2) (a_ (ag Cw m2 f g)):=iY (OpR.or v9 (Cy hu)) (Cz R) ha hb (jw _)
end
end PL
namespace PL
open PySem L2 Nh
def xF:Expr→Bool
 | .Starred .. =>false
 |_=>true
theorem z_{e:Expr}{es:List Expr}{env:Env}(h:xF e=true):starEach (e::es) env=(false,eval e env)::starEach es env:=by
 cases e <;> first |rfl |cases h
inductive DL (X:Cx):List Expr→Bool→mC→Prop
 |nil:DL X [] false bi
 |cons {e:Expr} {es:List Expr} {m1 m2:Bool} {f:cX} {d:mC}:EX X e m1 f→xF e=true→DL X es m2 d→DL X (e::es) (m1||m2) (aw f d)
section
variable {X:Cx} {es:List Expr} {m:Bool} {d:mC} {pos:Pos}
theorem DL.dx(h:DL X es m d):DX X es m d:=by
 induction h with
 |nil=>exact B1
 |cons a n _ ih=>exact zt a ih (z_ n)
theorem dH(h:DL X es m d):EX X (.List es pos) m (cj d):=B4 h.dx
theorem gB{x1}(h:DL X es m d):EX X (.Tuple es x1 pos) m (c8 d):=B3 h.dx
end
def jM:List Nat→Expr→Expr
 |[],e=>e
 |k::r,e=>match e with
  | .Call _ as _ _=>jM r (as.getD k e)
  | .BinOp a _ b _=>if k=0 then jM r a else jM r b
  | .Subscript a b _=>if k=0 then jM r a else jM r b
  | .Compare a _ cs _=>if k=0 then jM r a else jM r (cs.getD (k - 1) e)
  | .BoolOp _ vs _=>jM r (vs.getD k e)
  | .UnaryOp _ a _=>jM r a
  | .List es _=>jM r (es.getD k e)
  | .Tuple es _ _=>jM r (es.getD k e)
  | .ListComp _ (c::_) _ _=>jM r c.iter
  |e=>e
def jN(v:Expr):List Nat→Expr→Expr
 |[],_=>v
 |k::r,e=>match e with
  | .Call f as ks p=> .Call f (as.set k (jN v r (as.getD k e))) ks p
  | .BinOp a o b p=>if k=0 then .BinOp (jN v r a) o b p else .BinOp a o (jN v r b) p
  | .Subscript a b p=>if k=0 then .Subscript (jN v r a) b p else .Subscript a (jN v r b) p
  | .Compare a os cs p=>if k=0 then .Compare (jN v r a) os cs p else .Compare a os (cs.set (k - 1) (jN v r (cs.getD (k - 1) e))) p
  | .BoolOp o vs p=> .BoolOp o (vs.set k (jN v r (vs.getD k e))) p
  | .UnaryOp o a p=> .UnaryOp o (jN v r a) p
  | .List es p=> .List (es.set k (jN v r (es.getD k e))) p
  | .Tuple es n p=> .Tuple (es.set k (jN v r (es.getD k e))) n p
  | .ListComp el (c::cs) sc p=> .ListComp el ({c with iter:=jN v r c.iter}::cs) sc p
  |e=>e
def nZ:List Nat→List Stmt→Expr
 |[],_=> .Constant .none 0 ⟨0,0,0,0⟩
 |i::r,b=>match b[i]? with
  |some (.Assign _ e _)=>jM r e
  |some (.Return (some e) _)=>jM r e
  |some (.Expr e _)=>jM r e
  |some (.If t bb _ _)=>match r with
   | 0::q=>jM q t
   | 1::q=>nZ q bb
   |_=>t
  |some (.For t it bb _ _)=>match r with
   | 0::q=>jM q it
   | 1::q=>nZ q bb
   |_=>t
  |_=> .Constant .none 0 ⟨0,0,0,0⟩
def vF(v:Expr):List Nat→List Stmt→List Stmt
 |[],b=>b
 |i::r,b=>match b[i]? with
  |some (.Assign t e p)=>b.set i (.Assign t (jN v r e) p)
  |some (.Return (some e) p)=>b.set i (.Return (some (jN v r e)) p)
  |some (.Expr e p)=>b.set i (.Expr (jN v r e) p)
  |some (.If t bb o p)=>match r with
   | 0::q=>b.set i (.If (jN v q t) bb o p)
   | 1::q=>b.set i (.If t (vF v q bb) o p)
   |_=>b
  |some (.For t it bb o p)=>match r with
   | 0::q=>b.set i (.For t (jN v q it) bb o p)
   | 1::q=>b.set i (.For t it (vF v q bb) o p)
   |_=>b
  |_=>b
def nX:Expr→List Expr
 | .List es _=>es
 | .Tuple es _ _=>es
 |_=>[]
def ut(es:List Expr):Expr→Expr
 | .List _ p=> .List es p
 | .Tuple _ n p=> .Tuple es n p
 |e=>e
structure BodyOk (X:Cx) (body:List Stmt) (g:cy):Prop where
 of:rS X body g
theorem uv{X:Cx}{body:List Stmt}{g:cy}(path:List Nat){m:Bool}{d:mC}(hP:∀Y:Cx,DL Y (nX (nZ path body)) m d)(key:∀es,(∀Y:Cx,DL Y es m d)→BodyOk X (vF (ut es (nZ path body)) path body) g)(hb:vF (ut (nX (nZ path body)) (nZ path body)) path body=body:=by rfl):BodyOk X body g:=by
 have:=key _ hP
 rw[hb]at this
 exact this
theorem uw{X:Cx}{body:List Stmt}{g:cy}(path:List Nat){m:Bool}{d:mC}(hP:DL X (nX (nZ path body)) m d)(key:∀es,DL X es m d→BodyOk X (vF (ut es (nZ path body)) path body) g)(hb:vF (ut (nX (nZ path body)) (nZ path body)) path body=body:=by rfl):BodyOk X body g:=by
 have:=key _ hP
 rw[hb]at this
 exact this
end PL
namespace NH
section
variable {α:Type} [DecidableEq α]
def Rot(a b:List (α×Int)):Prop:=∃u v,a=u++v∧b=v++u
theorem Rot.refl(a:List (α×Int)):Rot a a:=⟨[],a,rfl,by simp⟩
theorem Rot.symm{a b:List (α×Int)}(h:Rot a b):Rot b a:=let ⟨u,v,e,f⟩:=h;⟨v,u,f,e⟩
theorem Rot.trans{a b c:List (α×Int)}(h:Rot a b)(k:Rot b c):Rot a c:=by
 obtain⟨u,v,rfl,e⟩:=h
 obtain⟨x,y,e2,rfl⟩:=k
 rw[e]at e2
 rcases List.append_eq_append_iff.mp e2 with⟨w,e3,e4⟩ |⟨w,e3,e4⟩
 ·subst e3 e4
  exact⟨w,y++v,by simp,by simp⟩
 ·subst e3 e4
  exact⟨u++x,w,by simp,by simp⟩
theorem Rot.len{a b:List (α×Int)}(h:Rot a b):a.length=b.length:=by
 obtain⟨u,v,rfl,rfl⟩:=h
 simp[Nat.add_comm]
end
end NH
namespace NH
variable {α:Type} [DecidableEq α]
end NH
namespace Nh
open PySem L2 PL
theorem CB{p q:Pc}(hp:p.1 < 128)(hq:q.1 < 128):sx (cK p) (cK q)=some (decide (p=q)):=by
 have s:∀{p:Pc},p.1 < 128→SeqAt.shaped (cK p)=true:=fun {p} h=>by
  have h1:=DH h
  unfold SeqAt.shaped
  rw[h1]
  simp[cK,PyData.depth,PyData.depthAll]
 have e:sx (cK p) (cK q)=(if SeqAt.shaped (cK p)&&SeqAt.shaped (cK q)then some (PyData.eqv (cK p) (cK q))else none):=rfl
 rw[e,s hp,s hq,BX]
 rfl
end Nh
namespace NH
def FM:Nat→Nat→Nat
 |_,0=>1
 | 0,_+1=>0
 |n+1,k+1=>FM n (k+1)+FM n k
def FN:Nat→Nat→Int
 |_,0=>1
 | 0,_+1=>0
 |m+1,k+1=>FN m (k+1) - FN (m+1) k
def ch(n:Int)(k:Nat):Int:=match n with
 |.ofNat n=>(FM n k:Int)
 |.negSucc m=>FN (m+1) k
def ff(n:Int):Nat→Int
 | 0=>1
 |k+1=>ff n k*(n - k)
section
variable {α:Type}
def conv(f g:List α→Int):List α→Int
 |[]=>f []*g []
 |a::w=>f []*g (a::w)+conv (fun u=>f (a::u)) g w
def GK:List α→Int
 |[]=>1
 |_::_=>0
end
section
variable {α:Type} [DecidableEq α]
def ux(p:α×Int)(w:List α):Int:=if w.all (fun b=>decide (b=p.1))then ch p.2 w.length else 0
def Gr(w:List α)(c:List (α×Int)):Int:=c.foldr (fun p f=>conv (ux p) f) GK w
def vs(j:Nat)(m n:Int):Nat→Int
 | 0=>ch m j
 |k+1=>ch m j*ch n (k+1)+vs (j+1) m n k
end
end NH
namespace NH
variable {α:Type} [DecidableEq α]
end NH
namespace Nh
open PySem L2 PL
def CordOk(c:List Pc):Prop:=∀p∈c,p.1 < 128∧p.2.natAbs < 2 ^ 100
theorem CordOk.append{c d:List Pc}(h:CordOk c)(h':CordOk d):CordOk (c++d):=fun p hp=>(List.mem_append.mp hp).elim (h p) (h' p)
theorem CordOk.contr{c:List Pc}(h:CordOk c):CordOk (NH.contr c):=fun p hp=>by
 obtain⟨q,hq,e⟩:=List.mem_map.mp hp
 subst e
 have:=h q (List.mem_reverse.mp hq)
 exact⟨this.1,by simpa using this.2⟩
theorem uy{i j:Int}(h1:i.natAbs < 2 ^ 20000)(h2:j.natAbs < 2 ^ 20000):dA i j=true:=by
 have hb:u_=((2 ^ 20000:Nat):Int):=by unfold u_;exact(Int.natCast_pow 2 20000).symm
 have e: -u_ < i∧i < u_∧ -u_ < j∧j < u_:=by
  rw[hb]
  generalize 2 ^ 20000=B at h1 h2
  omega
 unfold dA
 rw[decide_eq_true e,Bool.or_true]
end Nh
namespace Nh
open PySem L2 PL
def lp(p q:Pc):Bool:=if p.1=q.1 then decide (p.2 < q.2)else decide (p.1 < q.1)
def ll:List Pc→List Pc→Bool
 |[],[]=>false
 |[],_::_=>true
 |_::_,[]=>false
 |x::xs,y::ys=>if x=y then ll xs ys else lp x y
theorem xG{p q:Pc}(h:p≠q):lp p q=true∨lp q p=true:=by
 unfold lp
 by_cases e:p.1=q.1
 ·rw[if_pos e,if_pos e.symm]
  simp only[decide_eq_true_eq]
  have:p.2≠q.2:=fun z=>h (by cases p;cases q;simp_all)
  omega
 ·rw[if_neg e,if_neg (fun z=>e z.symm)]
  simp only[decide_eq_true_eq]
  omega
theorem rq:∀{a b:List Pc},a≠b→ll a b=true∨ll b a=true
 |[],[],h=>absurd rfl h
 |[],_::_,_=>.inl rfl
 |_::_,[],_=>.inr rfl
 |x::a,y::b,h=>by
  unfold ll
  by_cases e:x=y
  ·subst e
   rw[if_pos rfl,if_pos rfl]
   exact rq fun z=>h (by rw[z])
  ·rw[if_neg e,if_neg (fun z=>e z.symm)]
   exact xG e
def EU(a:List Pc)(p:Nat):List Pc:=a.drop p++a.take p
def Least(a w:List Pc):Prop:=(∃p,p≤a.length∧w=EU a p)∧∀p,p≤a.length→ll (EU a p) w=false
theorem Least.one{a w w':List Pc}(h:Least a w)(h':Least a w'):w=w':=by
 obtain⟨⟨p,hp,rfl⟩,k⟩:=h
 obtain⟨⟨p',hp',rfl⟩,k'⟩:=h'
 by_cases e:EU a p=EU a p'
 ·exact e
 ·rcases rq e with z |z
  ·rw[k' p hp]at z;cases z
  ·rw[k p' hp']at z;cases z
end Nh
namespace NH
variable {α:Type} [DecidableEq α]
end NH
namespace Nhk63
open PySem L2 Nh PL
def kG:List (Str×Bool):=[("NoText",false)]
def jO:List (Str×Bool):=[("NoText",false)]
def kH:List (Str×Bool):=[("NoText",false)]
def kI:List (Str×Bool):=[("NoText",true)]
def kJ:List (Str×Bool):=[("NoText",false)]
def kK:List (Str×Bool):=[("NoText",false)]
def kL:List (Str×Bool):=[("NoText",false)]
def jb:List (Str×Bool):=[("NoText",false)]
def jP:List (Str×Bool):=[("NoText",false)]
def jQ:List (Str×Bool):=[("NoText",false)]
def xH:List (Str×Bool):=[("NoText",false)]
def vG:List (Str×Bool):=[("NoText",false)]
def vH:List (Str×Bool):=[("NoText",false)]
def vI:List (Str×Bool):=[("NoText",false)]
def xI:List (Str×Bool):=[("NoText",false)]
def h8:List (Str×Bool):=[("NoText",true)]
def gh:mI:=(o0 2 (jC (dZ 0) (jC (dZ 1) oZ)))
def eV:cX:=(c8 (aw (ad 0) (aw (gE mD (ad 1)) bi)))
def jc:cy:=(aF (nk [none,none] (qQ (ad 0)) gh mn eV))
def dq:List PyData→Option Sl:=bP 1 1 jc
def iF:cy:=(aF (oX (a_ (ag cP false (ad 0) (pC (.int 1)))) (pC (.str "")) (bJ xA (af false (ad 0) ap))))
def c9:List PyData→Option Sl:=bP 1 1 iF
def h9:cy:=(aF (ag dX false (oX (a_ (ag (bz (ba .lt)) false (ad 1) (pC (.int 0)))) (ao dq (af false (ad 0) ap)) (ad 0)) (bJ nW (af false (ad 1) ap))))
def dE:List PyData→Option Sl:=bP 2 2 h9
def eM:cy:=(aF (ag aE false (ag aE false (ag aE false (ad 0) (ad 1)) (ao dq (af false (ad 0) ap))) (ao dq (af false (ad 1) ap))))
def bW:List PyData→Option Sl:=bP 2 2 eM
def gj:cy:=(aF (fT ["Piece","Parts","Times","Back"] "size" (ad 0)))
def cH:List PyData→Option Sl:=bP 1 1 gj
def gH:cy:=(aF (cj (aw (c8 (aw (fT ["Piece"] "nail" (ad 0)) (aw (fT ["Piece"] "turns" (ad 0)) bi))) bi)))
def eW:List PyData→Option Sl:=bP 1 1 gH
def jd:cy:=(aF (ag aE false (fT ["Piece"] "nail" (ad 0)) (ao c9 (af false (fT ["Piece"] "turns" (ad 0)) ap))))
def iG:List PyData→Option Sl:=bP 1 1 jd
def gv(self:List PyData→Option Sl):cy:=(ay (aK (a_ (ag (bz (ba .gt)) false (fT ["Piece","Parts","Times","Back"] "size" (ad 0)) (pC (.int 4000))))
 jF
 aB)
 (aF (oX (a_ (ag (bz (ba .gt)) false (fT ["Piece","Parts","Times","Back"] "size" (ad 0)) (pC (.int 0)))) (fW self (ad 0)) (cj bi))))
def cC(self:List PyData→Option Sl):List PyData→Option Sl:=bP 1 1 (gv self)
def di:mI:=(dZ 2)
def dk(self:List PyData→Option Sl):cy:=(fV (mK 1 (fW self (ad 2))))
def gI(self:List PyData→Option Sl):cy:=(ay (aD 1 (cj bi))
 (ay (kd (zy (fT ["Parts"] "kept" (ad 0))) di
 (dk self))
 (aF (ad 1))))
def eX(self:List PyData→Option Sl):List PyData→Option Sl:=bP 1 3 (gI self)
def jp:mI:=(dZ 0)
def jq(self:List PyData→Option Sl):cX:=(fW self (ad 0))
def je(self:List PyData→Option Sl):cy:=(aF (AW "" (nk [none] (zy (fT ["Parts"] "kept" (ad 0))) jp mn (jq self))))
def iH(self:List PyData→Option Sl):List PyData→Option Sl:=bP 1 1 (je self)
def gJ(self:List PyData→Option Sl):cy:=(aF (ao dE (af false (fW self (fT ["Times"] "body" (ad 0))) (af false (fT ["Times"] "number" (ad 0)) ap))))
def eY(self:List PyData→Option Sl):List PyData→Option Sl:=bP 1 1 (gJ self)
def jf(self:List PyData→Option Sl):cy:=(aF (ag aE false (ag aE false (ag aE false (pC (.str "(")) (fW self (fT ["Times"] "body" (ad 0)))) (pC (.str ")"))) (ao c9 (af false (fT ["Times"] "number" (ad 0)) ap))))
def iI(self:List PyData→Option Sl):List PyData→Option Sl:=bP 1 1 (jf self)
def iu(self:List PyData→Option Sl):cy:=(aF (ao bW (af false (fW self (fT ["Back"] "one" (ad 0))) (af false (fW self (fT ["Back"] "other" (ad 0))) ap))))
def fL(self:List PyData→Option Sl):List PyData→Option Sl:=bP 1 1 (iu self)
def jR(self:List PyData→Option Sl):cy:=(aF (ag aE false (ag aE false (ag aE false (ag aE false (pC (.str "[")) (fW self (fT ["Back"] "one" (ad 0)))) (pC (.str ","))) (fW self (fT ["Back"] "other" (ad 0)))) (pC (.str "]"))))
def jg(self:List PyData→Option Sl):List PyData→Option Sl:=bP 1 1 (jR self)
def aN:List PyData→Option Sl:=kf [("Piece",cH),("Parts",cH),("Times",cH),("Back",cH)]
def cT:Nat→List PyData→Option Sl
 | 0=>fun _=>none
 |n+1=>kf [("Piece",iG),("Parts",iH (cT n)),("Times",iI (cT n)),("Back",jg (cT n))]
def sT(m:List PyData→Option Sl):List PyData→Option Sl:=kf [("Piece",cC m),("Parts",cC m),("Times",cC m),("Back",cC m)]
def cM:Nat→List PyData→Option Sl
 | 0=>fun _=>none
 |n+1=>kf [("Piece",eW),("Parts",eX (sT (cM n))),("Times",eY (sT (cM n))),("Back",fL (sT (cM n)))]
def xJ:List PyData→Option Sl:=cT 70
def jS:List PyData→Option Sl:=sT (cM 70)
def g_:cy:=(aF (kh (gE (ip .str) (ad 0)) (kh (ag cP false (bJ cG (af false (ad 0) ap)) (pC (.int 1))) (cZ (ba .le) (ba .le) false false (pC (.str "a")) (ad 0) (pC (.str "z"))))))
def bS:List PyData→Option Sl:=bP 1 1 g_
def bv:iU:=(bI (a_ (ag (bz (ba .lt)) false (ad 2) (bJ cG (af false (ad 0) ap)))) (a_ (cZ (ba .le) (ba .le) false false (pC (.str "0")) (ag bq false (ad 0) (ad 2)) (pC (.str "9")))))
def dD:cy:=(aD 2 (ag aE false (ad 2) (pC (.int 1))))
def gk:cy:=(ay (aD 2 (ad 1))
 (ay (fF bv dD)
 (aF (ad 2))))
def cI:List PyData→Option Sl:=bP 2 3 gk
def ci:cy:=(ay (aK (cL (da 0 (af false (pC (.str "0")) (af false (ad 1) ap))))
 (aF (ag aE false (ad 1) (pC (.int 1))))
 aB)
 (ay (aD 2 (oX (cL (da 0 (af false (pC (.str "-")) (af false (ad 1) ap)))) (ag aE false (ad 1) (pC (.int 1))) (ad 1)))
 (ay (aD 3 (ao cI (af false (ad 0) (af false (ad 2) ap))))
 (ay (aK (cz (cL (da 0 (af false (pC (.str "0")) (af false (ad 2) ap)))) (cA (a_ (cZ (ba .le) (ba .le) false false (pC (.int 1)) (ag hU false (ad 3) (ad 2)) (pC (.int 30))))))
 (aF (ad 1))
 aB)
 (aF (ad 3))))))
def bj:List PyData→Option Sl:=bP 2 4 ci
def eZ:cy:=(ay (aD 2 (ao bj (af false (ad 0) (af false (ad 1) ap))))
 (aF (ek (ef (de (oX (a_ (ag cP false (ad 2) (ad 1))) (pC (.int 1)) (bJ mv (af false (cJ false (ad 0) (bn (ad 1)) (bn (ad 2))) ap))) (de (ad 2) hV))))))
def aS:List PyData→Option Sl:=bP 2 3 eZ
def lq:cy:=(ay (aK (cA (cL (da 1 (af false (ad 0) (af false (ad 2) ap)))))
 jF
 aB)
 (aF (ag aE false (ad 2) (pC (.int 1)))))
def bE:List PyData→Option Sl:=bP 3 3 lq
def jT:i8:=(nS (cA (cL (da 1 (af false (ad 0) (af false (ad 2) ap))))) (jJ "NoText"))
def bR:List PyData→Option Str:=jL 3 3 jT
def gK:cy:=(ay (aD 2 (ao aS (af false (ad 0) (af false (ag aE false (ad 1) (pC (.int 1))) ap))))
 (aF (ek (ef (de (jH "Piece" i7 (af false (ag bq false (ad 0) (ad 1)) (af false (ag bq false (ad 2) (pC (.int 0))) ap))) (de (ag bq false (ad 2) (pC (.int 1))) hV))))))
def bA:List PyData→Option Sl:=bP 2 3 gK
def lv:cy:=(ay (aK (a_ (ag (bz (ba .lt)) false (ad 1) (bJ cG (af false (ad 0) ap))))
 (aF (ag bq false (ad 0) (ad 1)))
 aB)
 (aF (pC (.int 0))))
def bw:List PyData→Option Sl:=bP 2 2 lv
def j6:cy:=(ay (aD 2 (ag aE false (ag aE false (ag cF false (ad 0) (pC (.int 2305843009213693951))) (ag dX false (pC (.int 131)) (ad 1))) (pC (.int 17))))
 (ay (aD 2 (ag cF false (ag dX false (ad 2) (ag aE false (pC (.int 2862933555777941757)) (ag dX false (ag dX false (pC (.int 2)) (ad 1)) (ad 1)))) (pC (.int 2305843009213693951))))
 (aF (ag gq false (ag cF false (ag dX false (ag aE false (ag gq false (ad 2) (pC (.int 8191))) (ag dX false (ad 1) (ad 1))) (pC (.int 3935559000370003845))) (pC (.int 2305843009213693921))) (pC (.int 7))))))
def bF:List PyData→Option Sl:=bP 2 3 j6
def dU:mI:=(o0 2 (jC (dZ 0) (jC (dZ 1) oZ)))
def dt:cX:=(c8 (aw (ad 0) (aw (gE mD (ad 1)) bi)))
def fM:cy:=(aF (nk [none,none] (qQ (ad 0)) dU mn dt))
def b6:List PyData→Option Sl:=bP 1 1 fM
def eD:mI:=(o0 2 (jC (dZ 2) (jC (dZ 3) oZ)))
def eF:cy:=(ay (aK (cz (cA (cL (gE (ip .tuple) (ad 2)))) (cz (a_ (ag jB false (bJ cG (af false (ad 2) ap)) (pC (.int 2)))) (cA (cL (gE (ip .str) (ag bq false (ad 2) (pC (.int 0))))))))
 (aF (pC (.bool false)))
 aB)
 (aK (cz (cA (cL (gE (ip .int) (ag bq false (ad 2) (pC (.int 1)))))) (cz (cL (gE (ip .bool) (ag bq false (ad 2) (pC (.int 1))))) (a_ (ag jB false (ad 2) (ad 3)))))
 (aF (pC (.bool false)))
 aB))
def iv:cy:=(ay (aK (cz (cA (cL (gE (ip .list) (ad 0)))) (a_ (ag jB false (bJ cG (af false (ad 0) ap)) (bJ cG (af false (ad 1) ap)))))
 (aF (pC (.bool false)))
 aB)
 (ay (kd (wY (ad 0) (ad 1)) eD
 eF)
 (aF (pC (.bool true)))))
def dI:List PyData→Option Sl:=bP 2 4 iv
def eG:mI:=(dZ 4)
def a7(self:List PyData→Option Sl):cy:=(ay (aD 5 (ag aE false (ag aE false (ag dX false (pC (.int 11)) (ad 2)) (ag dX false (pC (.int 7)) (ad 4))) (pC (.int 1))))
 (ay (aD 6 (ag cF false (ao bF (af false (ad 0) (af false (ad 5) ap))) (pC (.int 6))))
 (ay (aD 7 (ag bq false (cj (aw (pC (.str "")) (aw (pC (.str "2")) (aw (pC (.str "-1")) (aw (pC (.str "0")) (aw (pC (.str "12")) (aw (pC (.str "-30")) bi))))))) (ag cF false (ao bF (af false (ad 0) (af false (ag aE false (ad 5) (pC (.int 1))) ap))) (pC (.int 6)))))
 (aK (bI (a_ (ag cP false (ad 6) (pC (.int 4)))) (a_ (ag (bz (ba .gt)) false (ad 1) (pC (.int 0)))))
 (aD 3 (ag aE false (ag aE false (ag aE false (ag aE false (ad 3) (pC (.str "("))) (ao self (af false (ad 0) (af false (ag hU false (ad 1) (pC (.int 1))) (af false (ag aE false (ad 5) (pC (.int 2))) ap))))) (pC (.str ")"))) (cJ false (ad 7) eT (bn (pC (.int 2))))))
 (aK (bI (a_ (ag cP false (ad 6) (pC (.int 5)))) (a_ (ag (bz (ba .gt)) false (ad 1) (pC (.int 0)))))
 (ay (aD 8 (ao self (af false (ad 0) (af false (ag hU false (ad 1) (pC (.int 1))) (af false (ag aE false (ad 5) (pC (.int 3))) ap)))))
 (aD 3 (ag aE false (ag aE false (ag aE false (ag aE false (ag aE false (ad 3) (pC (.str "["))) (ad 8)) (pC (.str ","))) (ao self (af false (ad 0) (af false (ag hU false (ad 1) (pC (.int 1))) (af false (ag aE false (ad 5) (pC (.int 5))) ap))))) (pC (.str "]")))))
 (aD 3 (ag aE false (ag aE false (ad 3) (ag bq false (pC (.str "abcdefghijklmnopqrstuvwxyz")) (ag cF false (ao bF (af false (ad 0) (af false (ag aE false (ad 5) (pC (.int 2))) ap))) (pC (.int 26))))) (ad 7))))))))
def eI(self:List PyData→Option Sl):cy:=(ay (aD 3 (pC (.str "")))
 (ay (kd (jD (af false (ag cF false (ao bF (af false (ad 0) (af false (ad 2) ap))) (ag bq false (cj (aw (pC (.int 9)) (aw (pC (.int 4)) (aw (pC (.int 3)) (aw (pC (.int 3)) bi))))) (ag hU false (pC (.int 3)) (ad 1)))) ap)) eG
 (a7 self))
 (aF (ad 3))))
def bU:Nat→List PyData→Option Sl
 | 0=>fun _=>none
 |k+1=>bP 3 9 (eI (bU k))
def fN:List PyData→Option Sl:=bU 4
def fb:mI:=(dZ 3)
def cq:cy:=(aK (a_ (ag cP false (ag cF false (ao bF (af false (ad 2) (af false (ad 3) ap))) (pC (.int 2))) (pC (.int 0))))
 (aD 0 (ag aE false (ag aE false (pC (.str "(")) (ad 0)) (pC (.str ")"))))
 (aD 0 (ag aE false (ag bq false (cj (aw (ag aE false (ag aE false (pC (.str "[")) (ad 0)) (pC (.str ",]"))) (aw (ag aE false (ag aE false (pC (.str "[,")) (ad 0)) (pC (.str "]"))) bi))) (ag cF false (ag gq false (ao bF (af false (ad 2) (af false (ad 3) ap))) (pC (.int 2))) (pC (.int 2)))) (pC (.str "()0")))))
def gL:cy:=(ay (kd (jD (af false (ad 1) ap)) fb
 cq)
 (aF (ad 0)))
def cR:List PyData→Option Sl:=bP 3 4 gL
def eJ:cy:=(ay (aK (a_ (ag cP false (ag cF false (ad 0) (pC (.int 2))) (pC (.int 0))))
 (aF (ag bq false (pC (.str "abz(),[]-0123456789")) (ag cF false (ag gq false (ad 0) (pC (.int 2))) (pC (.int 19)))))
 aB)
 (ay (aD 1 (pC (.str "ABCDEFGHIJKLMNOPQRSTUVWXYZ cdefghijklmnopqrstuvwxy")))
 (ay (aD 1 (ag aE false (ad 1) (pC (.str "!\"#$&'*+./:;<=>?@\\^_`{|}~\n\t"))))
 (aF (ag bq false (ad 1) (ag cF false (ag gq false (ad 0) (pC (.int 2))) (bJ cG (af false (ad 1) ap))))))))
def b7:List PyData→Option Sl:=bP 1 2 eJ
def j7:cy:=(ay (aD 1 (cj (aw (pC (.str "1")) (aw (pC (.str "-")) (aw (pC (.str "a-")) (aw (pC (.str "a--1")) (aw (pC (.str "a-0")) (aw (pC (.str "a00")) (aw (pC (.str "a01")) (aw (pC (.str "a+1")) (aw (pC (.str "a 1")) (aw (pC (.str " a")) (aw (pC (.str "a ")) (aw (pC (.str "(")) (aw (pC (.str ")")) (aw (pC (.str "()")) (aw (pC (.str "[,]")) (aw (pC (.str "[]")) bi))))))))))))))))))
 (ay (aD 1 (ag aE false (ad 1) (cj (aw (pC (.str "(a]")) (aw (pC (.str "[a)")) (aw (pC (.str "[a,b,c]")) (aw (pC (.str "[a]")) (aw (pC (.str "a,b")) (aw (pC (.str "(a)-")) (aw (ag aE false (pC (.str "a")) (ag xc false (pC (.str "1")) (pC (.int 31)))) (aw (pC (.str "A")) bi)))))))))))
 (aF (ag bq false (ad 1) (ag cF false (ad 0) (pC (.int 24)))))))
def fm:List PyData→Option Sl:=bP 1 2 j7
def cS:cy:=(ay (aD 4 (ag cF false (ad 2) (ag aE false (bJ cG (af false (ad 0) ap)) (pC (.int 1)))))
 (ay (aK (a_ (ag (mq false) false (ad 1) (cj (aw (pC (.int 1)) (aw (pC (.int 2)) bi)))))
 (aF (ag aE false (ag aE false (cJ false (ad 0) eT (bn (ad 4))) (ao b7 (af false (ad 3) ap))) (cJ false (ad 0) (bn (ad 4)) eT)))
 aB)
 (ay (aK (a_ (ag (mq false) false (ad 1) (cj (aw (pC (.int 3)) (aw (pC (.int 4)) bi)))))
 (aF (ag aE false (ag aE false (cJ false (ad 0) eT (bn (ad 4))) (ao b7 (af false (ad 3) ap))) (cJ false (ad 0) (bn (ag aE false (ad 4) (pC (.int 1)))) eT)))
 aB)
 (ay (aK (a_ (ag cP false (ad 1) (pC (.int 5))))
 (aF (ag aE false (cJ false (ad 0) eT (bn (ad 4))) (cJ false (ad 0) (bn (ag aE false (ad 4) (pC (.int 1)))) eT)))
 aB)
 (ay (aK (a_ (ag cP false (ad 1) (pC (.int 6))))
 (aF (ao fm (af false (ad 3) ap)))
 aB)
 (aF (ad 0)))))))
def a8:List PyData→Option Sl:=bP 4 5 cS
def bK:iU:=(bI (a_ (ag jB false (cJ false (ad 0) (bn (ad 2)) (bn (ag aE false (ad 2) (pC (.int 1))))) (pC (.str "")))) (a_ (ag (mq false) false (ag bq false (ad 0) (ad 2)) (pC (.str "0123456789")))))
def cr:cy:=(aD 2 (ag aE false (ad 2) (pC (.int 1))))
def b8:cy:=(ay (aD 2 (ad 1))
 (ay (aK (a_ (ag cP false (cJ false (ad 0) (bn (ad 2)) (bn (ag aE false (ad 2) (pC (.int 1))))) (pC (.str "-"))))
 (aD 2 (ag aE false (ad 2) (pC (.int 1))))
 aB)
 (ay (aD 3 (ad 2))
 (ay (fF bK cr)
 (ay (aK (a_ (ag cP false (ad 2) (ad 1)))
 (aF (ek (ef (de (pC (.int 1)) (de (ad 1) hV)))))
 aB)
 (ay (aD 4 (cJ false (ad 0) (bn (ad 3)) (bn (ad 2))))
 (ay (aK (cz (a_ (ag cP false (ad 4) (pC (.str "")))) (cz (a_ (ag (bz (ba .gt)) false (bJ cG (af false (ad 4) ap)) (pC (.int 30)))) (bI (a_ (ag cP false (ag bq false (ad 4) (pC (.int 0))) (pC (.str "0")))) (a_ (ag jB false (cJ false (ad 0) (bn (ad 1)) (bn (ad 2))) (pC (.str "0")))))))
 (aF (pC .none))
 aB)
 (aF (ek (ef (de (bJ mv (af false (cJ false (ad 0) (bn (ad 1)) (bn (ad 2))) ap)) (de (ad 2) hV))))))))))))
def aL:List PyData→Option Sl:=bP 2 5 b8
def fO:mI:=(dZ 2)
def bx(self:List PyData→Option Sl):cy:=(aK (a_ (ag cP false (ag bq false (ad 2) (pC (.int 0))) (pC (.str "piece"))))
 (aD 1 (ag aE false (ad 1) (pC (.int 1))))
 (aK (a_ (ag cP false (ag bq false (ad 2) (pC (.int 0))) (pC (.str "times"))))
 (aD 1 (ag aE false (ad 1) (ag dX false (bJ nW (af false (ag bq false (ad 2) (pC (.int 2))) ap)) (ao self (af false (ag bq false (ad 2) (pC (.int 1))) ap)))))
 (aD 1 (ag aE false (ad 1) (ag dX false (pC (.int 2)) (ag aE false (ao self (af false (ag bq false (ad 2) (pC (.int 1))) ap)) (ao self (af false (ag bq false (ad 2) (pC (.int 2))) ap))))))))
def fw(self:List PyData→Option Sl):cy:=(ay (aD 1 (pC (.int 0)))
 (ay (kd (xD (ad 0)) fO
 (bx self))
 (aF (ad 1))))
def bZ:Nat→List PyData→Option Sl
 | 0=>fun _=>none
 |k+1=>bP 1 3 (fw (bZ k))
def gM:List PyData→Option Sl:=bZ 33
def e8:mI:=(dZ 2)
def aZ(self:List PyData→Option Sl):cy:=(aK (a_ (ag cP false (ag bq false (ad 2) (pC (.int 0))) (pC (.str "piece"))))
 (fV (dm 1 (c8 (aw (ag bq false (ad 2) (pC (.int 1))) (aw (ag bq false (ad 2) (pC (.int 2))) bi)))))
 (aK (a_ (ag cP false (ag bq false (ad 2) (pC (.int 0))) (pC (.str "back"))))
 (ay (aD 3 (ao self (af false (ag bq false (ad 2) (pC (.int 1))) ap)))
 (ay (aD 4 (ao self (af false (ag bq false (ad 2) (pC (.int 2))) ap)))
 (ay (aD 1 (ag aE false (ag aE false (ad 1) (ad 3)) (ad 4)))
 (aD 1 (ag aE false (ag aE false (ad 1) (ao b6 (af false (ad 3) ap))) (ao b6 (af false (ad 4) ap)))))))
 (aK (a_ (ag (bz (ba .gt)) false (ag bq false (ad 2) (pC (.int 2))) (pC (.int 0))))
 (aD 1 (ag aE false (ad 1) (ag dX false (ao self (af false (ag bq false (ad 2) (pC (.int 1))) ap)) (bJ pQ (af false (ag bq false (ad 2) (pC (.int 2))) (af false (pC (.int 300)) ap))))))
 (aK (a_ (ag (bz (ba .lt)) false (ag bq false (ad 2) (pC (.int 2))) (pC (.int 0))))
 (ay (aD 5 (ao b6 (af false (ao self (af false (ag bq false (ad 2) (pC (.int 1))) ap)) ap)))
 (aD 1 (ag aE false (ad 1) (ag dX false (ad 5) (bJ pQ (af false (gE mD (ag bq false (ad 2) (pC (.int 2)))) (af false (pC (.int 300)) ap)))))))
 aB))))
def fZ(self:List PyData→Option Sl):cy:=(ay (aD 1 (cj bi))
 (ay (kd (xD (ad 0)) e8
 (aZ self))
 (aF (ad 1))))
def bG:Nat→List PyData→Option Sl
 | 0=>fun _=>none
 |k+1=>bP 1 6 (fZ (bG k))
def iw:List PyData→Option Sl:=bG 33
def gN:cy:=(ay (aD 1 (cj (aw (gE (jv kG) (ad 0)) (aw (gE (jv kK) (ad 0)) (aw (gE (jv kJ) (ad 0)) (aw (gE (jv jO) (ad 0)) bi))))))
 (ay (aD 1 (ag aE false (ad 1) (cj (aw (gE (jv kL) (ad 0)) (aw (gE (jv jb) (ad 0)) (aw (gE (jv kH) (ad 0)) (aw (gE (jv jP) (ad 0)) bi)))))))
 (aF (ag aE false (ad 1) (cj (aw (gE (jv jQ) (ad 0)) bi))))))
def dM:List PyData→Option Sl:=bP 1 2 gN
def gO(self:List PyData→Option Sl):cy:=(ay (aD 3 (ao self (af false (ad 0) (af false (ag aE false (ad 1) (pC (.int 1))) (af false (ag aE false (ad 2) (pC (.int 1))) ap)))))
 (ay (aD 4 (ao aS (af false (ad 0) (af false (ao bE (af false (pC (.str ")")) (af false (ad 0) (af false (ag bq false (ad 3) (pC (.int 1))) ap)))) ap))))
 (aF (ek (ef (de (jH "Times" (e_ aN) (af false (ag bq false (ad 3) (pC (.int 0))) (af false (ag bq false (ad 4) (pC (.int 0))) ap))) (de (ag bq false (ad 4) (pC (.int 1))) hV)))))))
def b_(self:List PyData→Option Sl):List PyData→Option Sl:=bP 3 5 (gO self)
def fP(self:List PyData→Option Sl)(rself:List PyData→Option Str):i8:=(kE (df rself (af false (ad 0) (af false (ag aE false (ad 1) (pC (.int 1))) (af false (ag aE false (ad 2) (pC (.int 1))) ap))))
 (fU (aD 3 (ao self (af false (ad 0) (af false (ag aE false (ad 1) (pC (.int 1))) (af false (ag aE false (ad 2) (pC (.int 1))) ap)))))
 (kj (ad 0) (df bR (af false (pC (.str ")")) (af false (ad 0) (af false (ag bq false (ad 3) (pC (.int 1))) ap)))))))
def ce(self:List PyData→Option Sl)(rself:List PyData→Option Str):List PyData→Option Str:=jL 3 5 (fP self rself)
def ix(self:List PyData→Option Sl):cy:=(ay (aD 3 (ao self (af false (ad 0) (af false (ag aE false (ad 1) (pC (.int 1))) (af false (ag aE false (ad 2) (pC (.int 1))) ap)))))
 (ay (aD 4 (ao self (af false (ad 0) (af false (ao bE (af false (pC (.str ",")) (af false (ad 0) (af false (ag bq false (ad 3) (pC (.int 1))) ap)))) (af false (ag aE false (ad 2) (pC (.int 1))) ap)))))
 (aF (ek (ef (de (jH "Back" (fJ aN) (af false (ag bq false (ad 3) (pC (.int 0))) (af false (ag bq false (ad 4) (pC (.int 0))) ap))) (de (ao bE (af false (pC (.str "]")) (af false (ad 0) (af false (ag bq false (ad 4) (pC (.int 1))) ap)))) hV)))))))
def cD(self:List PyData→Option Sl):List PyData→Option Sl:=bP 3 5 (ix self)
def eK(self:List PyData→Option Sl)(rself:List PyData→Option Str):i8:=(kE (df rself (af false (ad 0) (af false (ag aE false (ad 1) (pC (.int 1))) (af false (ag aE false (ad 2) (pC (.int 1))) ap))))
 (fU (aD 3 (ao self (af false (ad 0) (af false (ag aE false (ad 1) (pC (.int 1))) (af false (ag aE false (ad 2) (pC (.int 1))) ap)))))
 (kE (kE (kj (ad 0) (df bR (af false (pC (.str ",")) (af false (ad 0) (af false (ag bq false (ad 3) (pC (.int 1))) ap))))) (df rself (af false (ad 0) (af false (ao bE (af false (pC (.str ",")) (af false (ad 0) (af false (ag bq false (ad 3) (pC (.int 1))) ap)))) (af false (ag aE false (ad 2) (pC (.int 1))) ap)))))
 (fU (aD 4 (ao self (af false (ad 0) (af false (ao bE (af false (pC (.str ",")) (af false (ad 0) (af false (ag bq false (ad 3) (pC (.int 1))) ap)))) (af false (ag aE false (ad 2) (pC (.int 1))) ap)))))
 (kj (jH "Back" (fJ aN) (af false (ag bq false (ad 3) (pC (.int 0))) (af false (ag bq false (ad 4) (pC (.int 0))) ap))) (df bR (af false (pC (.str "]")) (af false (ad 0) (af false (ag bq false (ad 4) (pC (.int 1))) ap)))))))))
def bO(self:List PyData→Option Sl)(rself:List PyData→Option Str):List PyData→Option Str:=jL 3 5 (eK self rself)
def fz(self:List PyData→Option Sl):cy:=(ay (aK (cL (ao bS (af false (ag bq false (ad 0) (ad 1)) ap)))
 (aF (ao bA (af false (ad 0) (af false (ad 1) ap))))
 aB)
 (ay (aK (a_ (ag cP false (ag bq false (ad 0) (ad 1)) (pC (.str "("))))
 (aF (ao (b_ self) (af false (ad 0) (af false (ad 1) (af false (ad 2) ap)))))
 aB)
 (ay (aK (a_ (ag cP false (ag bq false (ad 0) (ad 1)) (pC (.str "["))))
 (aF (ao (cD self) (af false (ad 0) (af false (ad 1) (af false (ad 2) ap)))))
 aB)
 jF)))
def b9(self:List PyData→Option Sl):List PyData→Option Sl:=bP 3 3 (fz self)
def du(self:List PyData→Option Sl)(rself:List PyData→Option Str):i8:=(fU (aK (cL (ao bS (af false (ag bq false (ad 0) (ad 1)) ap)))
 (aF (ao bA (af false (ad 0) (af false (ad 1) ap))))
 aB)
 (kE (nS (a_ (ag cP false (ag bq false (ad 0) (ad 1)) (pC (.str "(")))) (df (ce self rself) (af false (ad 0) (af false (ad 1) (af false (ad 2) ap)))))
 (fU (aK (a_ (ag cP false (ag bq false (ad 0) (ad 1)) (pC (.str "("))))
 (aF (ao (b_ self) (af false (ad 0) (af false (ad 1) (af false (ad 2) ap)))))
 aB)
 (kE (nS (a_ (ag cP false (ag bq false (ad 0) (ad 1)) (pC (.str "[")))) (df (bO self rself) (af false (ad 0) (af false (ad 1) (af false (ad 2) ap)))))
 (fU (aK (a_ (ag cP false (ag bq false (ad 0) (ad 1)) (pC (.str "["))))
 (aF (ao (cD self) (af false (ad 0) (af false (ad 1) (af false (ad 2) ap)))))
 aB)
 (jJ "NoText"))))))
def bh(self:List PyData→Option Sl)(rself:List PyData→Option Str):List PyData→Option Str:=jL 3 3 (du self rself)
def aX(self:List PyData→Option Sl):iU:=(bI (a_ (ag (bz (ba .lt)) false (ad 4) (bJ cG (af false (ad 0) ap)))) (a_ (ag (mq true) false (ag bq false (ad 0) (ad 4)) (pC (.str "),]")))))
def bu(self:List PyData→Option Sl):cy:=(ay (aD 5 (ao (b9 self) (af false (ad 0) (af false (ad 4) (af false (ad 2) ap)))))
 (ay (fV (dm 3 (ag bq false (ad 5) (pC (.int 0)))))
 (aD 4 (ag bq false (ad 5) (pC (.int 1))))))
def eN(self:List PyData→Option Sl):cy:=(ay (aK (a_ (ag (bz (ba .gt)) false (ad 2) (pC (.int 30))))
 jF
 aB)
 (ay (aD 3 (cj bi))
 (ay (aD 4 (ad 1))
 (ay (fF (aX self) (bu self))
 (aF (ek (ef (de (jH "Parts" (fH aN) (af false (ad 3) ap)) (de (ad 4) hV)))))))))
def cE(self:List PyData→Option Sl)(rself:List PyData→Option Str):i8:=(kE (nS (a_ (ag (bz (ba .gt)) false (ad 2) (pC (.int 30)))) (jJ "NoText"))
 (fU (aK (a_ (ag (bz (ba .gt)) false (ad 2) (pC (.int 30))))
 jF
 aB)
 (fU (aD 3 (cj bi))
 (fU (aD 4 (ad 1))
 (ja (aX self) (bu self) (df (bh self rself) (af false (ad 0) (af false (ad 4) (af false (ad 2) ap)))))))))
def a9:Nat→List PyData→Option Sl
 | 0=>fun _=>none
 |n+1=>bP 3 6 (eN (a9 n))
def cU:List PyData→Option Sl:=a9 33
def bp:Nat→List PyData→Option Str
 | 0=>jL 3 6 (fun _=>none)
 |n+1=>jL 3 6 (cE (a9 n) (bp n))
def cV:List PyData→Option Str:=bp 33
def p3:cy:=(ay (aK (cA (cL (gE (ip .str) (ad 0))))
 jF
 aB)
 (ay (aD 1 (ao cU (af false (ad 0) (af false (pC (.int 0)) (af false (pC (.int 0)) ap)))))
 (ay (aK (a_ (ag (bz (ba .lt)) false (ag bq false (ad 1) (pC (.int 1))) (bJ cG (af false (ad 0) ap))))
 jF
 aB)
 (aF (ag bq false (ad 1) (pC (.int 0)))))))
def jh:List PyData→Option Sl:=bP 1 2 p3
def kM:i8:=(kE (nS (cA (cL (gE (ip .str) (ad 0)))) (jJ "NoText"))
 (fU (aK (cA (cL (gE (ip .str) (ad 0))))
 jF
 aB)
 (kE (df cV (af false (ad 0) (af false (pC (.int 0)) (af false (pC (.int 0)) ap))))
 (fU (aD 1 (ao cU (af false (ad 0) (af false (pC (.int 0)) (af false (pC (.int 0)) ap)))))
 (nS (a_ (ag (bz (ba .lt)) false (ag bq false (ad 1) (pC (.int 1))) (bJ cG (af false (ad 0) ap)))) (jJ "NoText"))))))
def eO:List PyData→Option Str:=jL 1 2 kM
def ib:cy:=(ay (aD 1 (pC .none))
 (ay (xw ["NoText"] 2 (df eO (af false (ad 0) ap)) (aD 1 (ao jh (af false (ad 0) ap))) (ay (aK (cz (cA (cL (gE (jv kI) (ad 2)))) (cz (cA (cL (gE (jv h8) (ad 2)))) (a_ (ag (bz (xx false)) false (pC (.bool true)) (ao dM (af false (ad 2) ap))))))
 (aF (pC (.str "another refusal")))
 aB)
 (aF (pC .none))))
 (aF (ad 1))))
def bX:List PyData→Option Sl:=bP 1 3 ib
def bV(self:List PyData→Option Sl):cy:=(ay (aD 3 (ao self (af false (ad 0) (af false (ag aE false (ad 1) (pC (.int 1))) (af false (ag aE false (ad 2) (pC (.int 1))) ap)))))
 (ay (aK (cz (a_ (ag (bz (cY false)) false (ad 3) (pC .none))) (a_ (ag cP false (ad 2) (pC (.int 30)))))
 (aF (pC .none))
 aB)
 (ay (aD 4 (ag bq false (ad 3) (pC (.int 1))))
 (ay (aK (bI (a_ (ag cP false (ag bq false (ad 0) (ad 1)) (pC (.str "(")))) (a_ (ag cP false (cJ false (ad 0) (bn (ad 4)) (bn (ag aE false (ad 4) (pC (.int 1))))) (pC (.str ")")))))
 (ay (aD 5 (ao aL (af false (ad 0) (af false (ag aE false (ad 4) (pC (.int 1))) ap))))
 (ay (aK (a_ (ag (bz (cY false)) false (ad 5) (pC .none)))
 (aF (pC .none))
 aB)
 (aF (c8 (aw (c8 (aw (pC (.str "times")) (aw (ag bq false (ad 3) (pC (.int 0))) (aw (ag bq false (ad 5) (pC (.int 0))) bi)))) (aw (ag bq false (ad 5) (pC (.int 1))) bi))))))
 aB)
 (ay (aK (cz (a_ (ag cP false (ag bq false (ad 0) (ad 1)) (pC (.str "(")))) (a_ (ag jB false (cJ false (ad 0) (bn (ad 4)) (bn (ag aE false (ad 4) (pC (.int 1))))) (pC (.str ",")))))
 (aF (pC .none))
 aB)
 (ay (aD 6 (ao self (af false (ad 0) (af false (ag aE false (ad 4) (pC (.int 1))) (af false (ag aE false (ad 2) (pC (.int 1))) ap)))))
 (ay (aK (cz (a_ (ag (bz (cY false)) false (ad 6) (pC .none))) (a_ (ag jB false (cJ false (ad 0) (bn (ag bq false (ad 6) (pC (.int 1)))) (bn (ag aE false (ag bq false (ad 6) (pC (.int 1))) (pC (.int 1))))) (pC (.str "]")))))
 (aF (pC .none))
 aB)
 (aF (c8 (aw (c8 (aw (pC (.str "back")) (aw (ag bq false (ad 3) (pC (.int 0))) (aw (ag bq false (ad 6) (pC (.int 0))) bi)))) (aw (ag aE false (ag bq false (ad 6) (pC (.int 1))) (pC (.int 1))) bi)))))))))))
def aO(self:List PyData→Option Sl):List PyData→Option Sl:=bP 3 7 (bV self)
def bH(self:List PyData→Option Sl):iU:=(bI (a_ (ag (bz (ba .lt)) false (ad 1) (bJ cG (af false (ad 0) ap)))) (a_ (ag (mq true) false (ag bq false (ad 0) (ad 1)) (pC (.str "),]")))))
def aT(self:List PyData→Option Sl):cy:=(ay (aK (bI (a_ (ag (mq false) false (ag bq false (ad 0) (ad 1)) (pC (.str "([")))) (a_ (ag (bz (ba .lt)) false (ad 2) (pC (.int 31)))))
 (aD 4 (ao (aO self) (af false (ad 0) (af false (ad 1) (af false (ad 2) ap)))))
 (aK (a_ (ag (mq false) false (ag bq false (ad 0) (ad 1)) (pC (.str "abcdefghijklmnopqrstuvwxyz"))))
 (ay (aD 4 (ao aL (af false (ad 0) (af false (ag aE false (ad 1) (pC (.int 1))) ap))))
 (aK (a_ (ag (bz (cY true)) false (ad 4) (pC .none)))
 (aD 4 (c8 (aw (c8 (aw (pC (.str "piece")) (aw (ag bq false (ad 0) (ad 1)) (aw (ag bq false (ad 4) (pC (.int 0))) bi)))) (aw (ag bq false (ad 4) (pC (.int 1))) bi))))
 aB))
 (aD 4 (pC .none))))
 (ay (aK (a_ (ag (bz (cY false)) false (ad 4) (pC .none)))
 (aF (pC .none))
 aB)
 (ay (fV (dm 3 (ag bq false (ad 4) (pC (.int 0)))))
 (aD 1 (ag bq false (ad 4) (pC (.int 1)))))))
def fB(self:List PyData→Option Sl):cy:=(ay (aD 3 (cj bi))
 (ay (fF (bH self) (aT self))
 (aF (c8 (aw (ur 3) (aw (ad 1) bi))))))
def bT:Nat→List PyData→Option Sl
 | 0=>fun _=>none
 |n+1=>bP 3 5 (fB (bT n))
def fo:List PyData→Option Sl:=bT 33
def f8:cy:=(ay (aD 1 (ao fo (af false (ad 0) (af false (pC (.int 0)) (af false (pC (.int 0)) ap)))))
 (ay (aK (cz (a_ (ag (bz (cY false)) false (ad 1) (pC .none))) (a_ (ag (bz (ba .lt)) false (ag bq false (ad 1) (pC (.int 1))) (bJ cG (af false (ad 0) ap)))))
 (aF (pC .none))
 aB)
 (aF (ag bq false (ad 1) (pC (.int 0))))))
def cu:List PyData→Option Sl:=bP 1 2 f8
def f9:cy:=(ay (aD 1 (ao cu (af false (ad 0) ap)))
 (ay (aD 2 (ao bX (af false (ad 0) ap)))
 (ay (aK (cz (a_ (ag (bz (cY false)) false (ad 1) (pC .none))) (cz (a_ (ag (bz (cY false)) false (ad 2) (pC .none))) (a_ (ag Cw false (ad 2) (pC (.str "another refusal"))))))
 (aF (kh (ag (bz (cY false)) false (ad 1) (pC .none)) (ag (bz (cY false)) false (ad 2) (pC .none))))
 aB)
 (ay (aD 3 (ao gM (af false (ad 1) ap)))
 (ay (aK (a_ (ag jB false (fW aN (ad 2)) (ad 3)))
 (aF (pC (.bool false)))
 aB)
 (aF (wJ (ag (bz (ba .gt)) false (ad 3) (pC (.int 300))) (ao dI (af false (fW jS (ad 2)) (af false (ao iw (af false (ad 1) ap)) ap))))))))))
def bD:List PyData→Option Sl:=bP 1 4 f9
def ie:mI:=(dZ 4)
def ig:cy:=(aK (cz (cA (cL (ao bD (af false (ad 1) ap)))) (cA (cL (ao bD (af false (ad 3) ap)))))
 (aF (pC (.bool false)))
 aB)
def pw:cy:=(ay (aD 1 (ao fN (af false (ao bw (af false (ad 0) (af false (pC (.int 0)) ap))) (af false (pC (.int 3)) (af false (pC (.int 1)) ap)))))
 (ay (aK (a_ (ag cP false (ag cF false (ao bw (af false (ad 0) (af false (pC (.int 1)) ap))) (pC (.int 3))) (pC (.int 1))))
 (aD 1 (ao cR (af false (ad 1) (af false (ag aE false (pC (.int 26)) (ag cF false (ag gq false (ao bw (af false (ad 0) (af false (pC (.int 1)) ap))) (pC (.int 3))) (pC (.int 6)))) (af false (ag gq false (ao bw (af false (ad 0) (af false (pC (.int 1)) ap))) (pC (.int 18))) ap)))))
 aB)
 (ay (aD 2 (ag cF false (ao bw (af false (ad 0) (af false (pC (.int 2)) ap))) (pC (.int 8))))
 (ay (aD 3 (ao a8 (af false (ad 1) (af false (ad 2) (af false (ao bw (af false (ad 0) (af false (pC (.int 3)) ap))) (af false (ao bw (af false (ad 0) (af false (pC (.int 4)) ap))) ap))))))
 (ay (kd (jD (af false (pC (.int 2)) ap)) ie
 ig)
 (ay (aK (a_ (ag cP false (ad 2) (pC (.int 7))))
 (ay (aD 5 (ag bq false (cj (aw (pC .none) (aw (pC (.int 0)) (aw (pC (.bool true)) (aw (cj (aw (ad 1) bi)) (aw (c8 (aw (pC (.str "a")) (aw (pC (.int 1)) bi))) (aw zT bi))))))) (ag cF false (ao bw (af false (ad 0) (af false (pC (.int 3)) ap))) (pC (.int 6)))))
 (aK (a_ (ag (bz (cY true)) false (ao bX (af false (ad 5) ap)) (pC .none)))
 (aF (pC (.bool false)))
 aB))
 aB)
 (aF (ao bD (af false (ad 1) ap)))))))))
def kN:List PyData→Option Sl:=bP 1 6 pw
end Nhk63
namespace Nhk63
open PySem L2 Nh PL
def hJ(i:Nat):Stmt:=PySem.Challenge.pw_nailhang_k63_no_text.main.body.getD i (.Pass ⟨0,0,0,0⟩)
structure XF (K:PySem.W.Frag) (mg:Str→Option Value):Prop where
 c_NoCord:∃C,mg "NoCord"=some (.ref C)∧XT K (.ref C) kG
 c_NoNails:∃C,mg "NoNails"=some (.ref C)∧XT K (.ref C) jO
 c_NoRule:∃C,mg "NoRule"=some (.ref C)∧XT K (.ref C) kH
 c_NoText:∃C,mg "NoText"=some (.ref C)∧XT K (.ref C) kI∧XC K mg "NoText" C
 c_NoMove:∃C,mg "NoMove"=some (.ref C)∧XT K (.ref C) kJ
 c_NoLine:∃C,mg "NoLine"=some (.ref C)∧XT K (.ref C) kK
 c_NoName:∃C,mg "NoName"=some (.ref C)∧XT K (.ref C) kL
 c_NoNumber:∃C,mg "NoNumber"=some (.ref C)∧XT K (.ref C) jb
 c_TooMany:∃C,mg "TooMany"=some (.ref C)∧XT K (.ref C) jP
 c_TooLong:∃C,mg "TooLong"=some (.ref C)∧XT K (.ref C) jQ
 c_Term:∃C,mg "Term"=some (.ref C)∧XT K (.ref C) xH
 c_Piece:∃C,mg "Piece"=some (.ref C)∧XT K (.ref C) vG
 c_Parts:∃C,mg "Parts"=some (.ref C)∧XT K (.ref C) vH
 c_Times:∃C,mg "Times"=some (.ref C)∧XT K (.ref C) vI
 c_Back:∃C,mg "Back"=some (.ref C)∧XT K (.ref C) xI
 v_ValueError:mg "ValueError"=none∧XT K (.type "ValueError") h8
 e_HangError:∃C,mg "HangError"=some (.ref C)∧∀n∈[("NoText":Str)],∀D,PySem.W.nsIn K mainGlobals n=some (some (.ref D))→PySem.W.exmOne K (.ref D) (.ref C)=some true
section
variable {P:Program} {w:World} {K:PySem.W.Frag} {mg:Str→Option Value} {base:Heap}
abbrev ji:Stmt:=hJ 15
theorem rz:FnScope ["cord"] ["cord"] (au ji):=⟨rfl,rfl,rfl,by decide+kernel,rfl,by decide+kernel,by decide+kernel⟩
theorem rB (D:Def K mg "contrary" ji ["cord"]) (B:Bn mg):Own P w K mg base 1 "contrary" ["cord"] (bQ K dq):=by
 delta dq
 refine eU (g:=jc) D rz rfl rfl (by decide) fun f cdv A outer s H E hr=>?_
 delta jc
 exact(aj (aM (nq (N:=["nail","turns"]) (js:=[none,none]) iX (by rfl) (wT (by rfl) (by exact B.reversed) (aa 0)) (fun _ _ _ _=>(by delta gh;exact(sG (by rfl) (iN (eL 0 (show(["nail","turns"]:List Str).Nodup by decide+kernel)) (iN (eL 1 (show(["nail","turns"]:List Str).Nodup by decide+kernel)) pR))))) (fun _ _ _ _=>(by delta eV;exact(gB (DL.cons (aa 0) rfl (DL.cons (sw (aa 1)) rfl DL.nil))))))))
abbrev gl:Stmt:=hJ 19
theorem ny:FnScope ["number"] ["number"] (au gl):=⟨rfl,rfl,rfl,by decide+kernel,rfl,by decide+kernel,by decide+kernel⟩
theorem nz (D:Def K mg "number_text" gl ["number"]) (B:Bn mg):Own P w K mg base 1 "number_text" ["number"] (bQ K c9):=by
 delta c9
 refine eU (g:=iF) D ny rfl rfl (by decide) fun f cdv A outer s H E hr=>?_
 delta iF
 exact(aj (aM (qL (dB hr.units (aa 0) ah) az (zU (by rfl) (by exact B.str) (ae (aa 0) ar)))))
abbrev jj:Stmt:=hJ 16
theorem rC:FnScope ["cord","times"] ["cord","times"] (au jj):=⟨rfl,rfl,rfl,by decide+kernel,rfl,by decide+kernel,by decide+kernel⟩
theorem rD (D:Def K mg "repeated" jj ["cord","times"]) (B:Bn mg) (D_contrary:Own P w K mg base 1 "contrary" ["cord"] (bQ K dq)):Own P w K mg base 2 "repeated" ["cord","times"] (bQ K dE):=by
 delta dE
 refine eU (g:=h9) D rC rfl rfl (by decide) fun f cdv A outer s H E hr=>?_
 delta h9
 exact(aj (aM (fY (qL (fv .lt (aa 1) ah) (aG D_contrary (hr.mono (by decide)) (by rfl) (ae (aa 0) ar)) (aa 0)) (wO (by rfl) (by exact B.abs) (ae (aa 1) ar)))))
abbrev eP:Stmt:=hJ 17
theorem lw:FnScope ["one","other"] ["one","other"] (au eP):=⟨rfl,rfl,rfl,by decide+kernel,rfl,by decide+kernel,by decide+kernel⟩
theorem lx (D:Def K mg "there_and_back" eP ["one","other"]) (B:Bn mg) (D_contrary:Own P w K mg base 1 "contrary" ["cord"] (bQ K dq)):Own P w K mg base 2 "there_and_back" ["one","other"] (bQ K bW):=by
 delta bW
 refine eU (g:=eM) D lw rfl rfl (by decide) fun f cdv A outer s H E hr=>?_
 delta eM
 exact(aj (aM (aA (aA (aA (aa 0) (aa 1)) (aG D_contrary (hr.mono (by decide)) (by rfl) (ae (aa 0) ar))) (aG D_contrary (hr.mono (by decide)) (by rfl) (ae (aa 1) ar)))))
abbrev cg:Stmt:=dQ (hJ 20) 1
theorem nC:FnScope ["self"] ["self"] (au cg):=⟨rfl,rfl,rfl,by decide+kernel,rfl,by decide+kernel,by decide+kernel⟩
theorem fQ {f0:Addr} {fd:FuncData} (D:Fun K "pieces" "Term.pieces" cg f0 fd) (B:Bn mg) (HF_size:∀cn∈(["Piece","Parts","Times","Back"]:List Str),∀C,PySem.W.nsIn K mainGlobals cn=some (some (.ref C))→Cls K C∧NoAttr K C "size"):FnOk P w K mg base jA 1 f0 fd ["self"] (bQ K (cH)):=by
 delta cH
 refine yF (g:=gj) D nC rfl rfl (by decide) fun cdv A outer s H E hr=>?_
 delta gj
 exact(aj (aM (eB HF_size (aa 0))))
abbrev gP:Stmt:=dQ (hJ 21) 1
theorem n4:FnScope ["self"] ["self"] (au gP):=⟨rfl,rfl,rfl,by decide+kernel,rfl,by decide+kernel,by decide+kernel⟩
theorem n5 {f0:Addr} {fd:FuncData} (D:Fun K "made" "Piece.made" gP f0 fd) (B:Bn mg) (HF_nail:∀cn∈(["Piece"]:List Str),∀C,PySem.W.nsIn K mainGlobals cn=some (some (.ref C))→Cls K C∧NoAttr K C "nail") (HF_turns:∀cn∈(["Piece"]:List Str),∀C,PySem.W.nsIn K mainGlobals cn=some (some (.ref C))→Cls K C∧NoAttr K C "turns"):FnOk P w K mg base jA 1 f0 fd ["self"] (bQ K (eW)):=by
 delta eW
 refine yF (g:=gH) D n4 rfl rfl (by decide) fun cdv A outer s H E hr=>?_
 delta gH
 exact(aj (aM (dH (DL.cons (gB (DL.cons (eB HF_nail (aa 0)) rfl (DL.cons (eB HF_turns (aa 0)) rfl DL.nil))) rfl DL.nil))))
abbrev gQ:Stmt:=dQ (hJ 21) 2
theorem n6:FnScope ["self"] ["self"] (au gQ):=⟨rfl,rfl,rfl,by decide+kernel,rfl,by decide+kernel,by decide+kernel⟩
theorem n8 {f0:Addr} {fd:FuncData} (D:Fun K "text" "Piece.text" gQ f0 fd) (B:Bn mg) (HF_nail:∀cn∈(["Piece"]:List Str),∀C,PySem.W.nsIn K mainGlobals cn=some (some (.ref C))→Cls K C∧NoAttr K C "nail") (HF_turns:∀cn∈(["Piece"]:List Str),∀C,PySem.W.nsIn K mainGlobals cn=some (some (.ref C))→Cls K C∧NoAttr K C "turns") (D_number_text:Own P w K mg base 1 "number_text" ["number"] (bQ K c9)):FnOk P w K mg base jA 2 f0 fd ["self"] (bQ K (iG)):=by
 delta iG
 refine yF (g:=jd) D n6 rfl rfl (by decide) fun cdv A outer s H E hr=>?_
 delta jd
 exact(aj (aM (aA (eB HF_nail (aa 0)) (aG D_number_text (hr.mono (by decide)) (by rfl) (ae (eB HF_turns (aa 0)) ar)))))
abbrev cW:Stmt:=dQ (hJ 20) 2
theorem p4:FnScope ["self"] ["self"] (au cW):=⟨rfl,rfl,rfl,by decide+kernel,rfl,by decide+kernel,by decide+kernel⟩
theorem gR {f0:Addr} {fd:FuncData} (D:Fun K "cord" "Term.cord" cW f0 fd) (B:Bn mg) {k:Nat} {self:List PyData→Option Sl} (DS:DispM P w K mg base k "made" self) (HF_size:∀cn∈(["Piece","Parts","Times","Back"]:List Str),∀C,PySem.W.nsIn K mainGlobals cn=some (some (.ref C))→Cls K C∧NoAttr K C "size") {t_LONGEST:Tok} (G_LONGEST:mg "LONGEST"=some (.int 4000 t_LONGEST)):FnOk P w K mg base jA (k+1) f0 fd ["self"] (bQ K (cC self)):=by
 delta cC
 refine yF (g:=gv self) D p4 rfl rfl (by decide) fun cdv A outer s H E hr=>?_
 delta gv
 exact(ai (bB (fv .gt (eB HF_size (aa 0)) (lh (by rfl) (by exact G_LONGEST)))
 (aj gs)
 aY)
 (aj (aM (qL (fv .gt (eB HF_size (aa 0)) ah) (fG DS hr (aa 0)) (dH DL.nil)))))
abbrev gS:Stmt:=dQ (hJ 22) 1
theorem sc_Parts_made:FnScope ["self","told","part"] ["self"] (au gS):=⟨rfl,rfl,rfl,by decide+kernel,rfl,by decide+kernel,by decide+kernel⟩
theorem n_ {f0:Addr} {fd:FuncData} (D:Fun K "made" "Parts.made" gS f0 fd) (B:Bn mg) {k:Nat} {self:List PyData→Option Sl} (DS:DispM P w K mg base k "cord" self) (HF_kept:∀cn∈(["Parts"]:List Str),∀C,PySem.W.nsIn K mainGlobals cn=some (some (.ref C))→Cls K C∧NoAttr K C "kept"):FnOk P w K mg base jA (k+1) f0 fd ["self"] (bQ K (eX self)):=by
 delta eX
 refine yF (g:=gI self) D sc_Parts_made rfl rfl (by decide) fun cdv A outer s H E hr=>?_
 delta gI
 exact(ai (aH 1 sc_Parts_made.nd (dH DL.nil))
 (ai (kB PassesOwn.never (by rfl) (w_ (eB HF_kept (aa 0))) (by delta di;exact(eL 2 sc_Parts_made.nd))
 (by delta dk;exact(aj (kY (vh 1 (fG DS hr (aa 2)))))))
 (aj (aM (aa 1)))))
abbrev gT:Stmt:=dQ (hJ 22) 2
theorem oa:FnScope ["self"] ["self"] (au gT):=⟨rfl,rfl,rfl,by decide+kernel,rfl,by decide+kernel,by decide+kernel⟩
theorem og {f0:Addr} {fd:FuncData} (D:Fun K "text" "Parts.text" gT f0 fd) (B:Bn mg) {k:Nat} {self:List PyData→Option Sl} (DS:DispM P w K mg base k "text" self) (HF_kept:∀cn∈(["Parts"]:List Str),∀C,PySem.W.nsIn K mainGlobals cn=some (some (.ref C))→Cls K C∧NoAttr K C "kept"):FnOk P w K mg base jA (k+1) f0 fd ["self"] (bQ K (iH self)):=by
 delta iH
 refine yF (g:=je self) D oa rfl rfl (by decide) fun cdv A outer s H E hr=>?_
 delta je
 exact(aj (aM (zA (nq (N:=["part"]) (js:=[none]) iX (by rfl) (w_ (eB HF_kept (aa 0))) (fun _ _ _ _=>(by delta jp;exact(eL 0 (show(["part"]:List Str).Nodup by decide+kernel)))) (fun _ _ _ _=>(by delta jq;exact(fG DS hr (aa 0))))))))
abbrev gU:Stmt:=dQ (hJ 23) 1
theorem oh:FnScope ["self"] ["self"] (au gU):=⟨rfl,rfl,rfl,by decide+kernel,rfl,by decide+kernel,by decide+kernel⟩
theorem oi {f0:Addr} {fd:FuncData} (D:Fun K "made" "Times.made" gU f0 fd) (B:Bn mg) {k:Nat} {self:List PyData→Option Sl} (DS:DispM P w K mg base k "cord" self) (hk:2≤k) (HF_number:∀cn∈(["Times"]:List Str),∀C,PySem.W.nsIn K mainGlobals cn=some (some (.ref C))→Cls K C∧NoAttr K C "number") (HF_body:∀cn∈(["Times"]:List Str),∀C,PySem.W.nsIn K mainGlobals cn=some (some (.ref C))→Cls K C∧NoAttr K C "body") (D_repeated:Own P w K mg base 2 "repeated" ["cord","times"] (bQ K dE)):FnOk P w K mg base jA (k+1) f0 fd ["self"] (bQ K (eY self)):=by
 delta eY
 refine yF (g:=gJ self) D oh rfl rfl (by decide) fun cdv A outer s H E hr=>?_
 delta gJ
 exact(aj (aM (aG D_repeated (hr.mono (by omega)) (by rfl) (ae (fG DS hr (eB HF_body (aa 0))) (ae (eB HF_number (aa 0)) ar)))))
abbrev gV:Stmt:=dQ (hJ 23) 2
theorem oj:FnScope ["self"] ["self"] (au gV):=⟨rfl,rfl,rfl,by decide+kernel,rfl,by decide+kernel,by decide+kernel⟩
theorem oo {f0:Addr} {fd:FuncData} (D:Fun K "text" "Times.text" gV f0 fd) (B:Bn mg) {k:Nat} {self:List PyData→Option Sl} (DS:DispM P w K mg base k "text" self) (hk:1≤k) (HF_body:∀cn∈(["Times"]:List Str),∀C,PySem.W.nsIn K mainGlobals cn=some (some (.ref C))→Cls K C∧NoAttr K C "body") (HF_number:∀cn∈(["Times"]:List Str),∀C,PySem.W.nsIn K mainGlobals cn=some (some (.ref C))→Cls K C∧NoAttr K C "number") (D_number_text:Own P w K mg base 1 "number_text" ["number"] (bQ K c9)):FnOk P w K mg base jA (k+1) f0 fd ["self"] (bQ K (iI self)):=by
 delta iI
 refine yF (g:=jf self) D oj rfl rfl (by decide) fun cdv A outer s H E hr=>?_
 delta jf
 exact(aj (aM (aA (aA (aA az (fG DS hr (eB HF_body (aa 0)))) az) (aG D_number_text (hr.mono (by omega)) (by rfl) (ae (eB HF_number (aa 0)) ar)))))
abbrev iy:Stmt:=dQ (hJ 24) 1
theorem p5:FnScope ["self"] ["self"] (au iy):=⟨rfl,rfl,rfl,by decide+kernel,rfl,by decide+kernel,by decide+kernel⟩
theorem p6 {f0:Addr} {fd:FuncData} (D:Fun K "made" "Back.made" iy f0 fd) (B:Bn mg) {k:Nat} {self:List PyData→Option Sl} (DS:DispM P w K mg base k "cord" self) (hk:2≤k) (HF_other:∀cn∈(["Back"]:List Str),∀C,PySem.W.nsIn K mainGlobals cn=some (some (.ref C))→Cls K C∧NoAttr K C "other") (HF_one:∀cn∈(["Back"]:List Str),∀C,PySem.W.nsIn K mainGlobals cn=some (some (.ref C))→Cls K C∧NoAttr K C "one") (D_there_and_back:Own P w K mg base 2 "there_and_back" ["one","other"] (bQ K bW)):FnOk P w K mg base jA (k+1) f0 fd ["self"] (bQ K (fL self)):=by
 delta fL
 refine yF (g:=iu self) D p5 rfl rfl (by decide) fun cdv A outer s H E hr=>?_
 delta iu
 exact(aj (aM (aG D_there_and_back (hr.mono (by omega)) (by rfl) (ae (fG DS hr (eB HF_one (aa 0))) (ae (fG DS hr (eB HF_other (aa 0))) ar)))))
abbrev iz:Stmt:=dQ (hJ 24) 2
theorem p7:FnScope ["self"] ["self"] (au iz):=⟨rfl,rfl,rfl,by decide+kernel,rfl,by decide+kernel,by decide+kernel⟩
theorem p8 {f0:Addr} {fd:FuncData} (D:Fun K "text" "Back.text" iz f0 fd) (B:Bn mg) {k:Nat} {self:List PyData→Option Sl} (DS:DispM P w K mg base k "text" self) (HF_one:∀cn∈(["Back"]:List Str),∀C,PySem.W.nsIn K mainGlobals cn=some (some (.ref C))→Cls K C∧NoAttr K C "one") (HF_other:∀cn∈(["Back"]:List Str),∀C,PySem.W.nsIn K mainGlobals cn=some (some (.ref C))→Cls K C∧NoAttr K C "other"):FnOk P w K mg base jA (k+1) f0 fd ["self"] (bQ K (jg self)):=by
 delta jg
 refine yF (g:=jR self) D p7 rfl rfl (by decide) fun cdv A outer s H E hr=>?_
 delta jR
 exact(aj (aM (aA (aA (aA (aA az (fG DS hr (eB HF_one (aa 0)))) az) (fG DS hr (eB HF_other (aa 0)))) az)))
abbrev gW:Stmt:=dQ (hJ 21) 0
theorem oq:FnScope ["self","nail","turns"] ["self","nail","turns"] (au gW):=⟨rfl,rfl,rfl,by decide+kernel,rfl,by decide+kernel,by decide+kernel⟩
theorem ot {f0 C:Addr} {fd:FuncData} (D:Fun K "__init__" "Piece.__init__" gW f0 fd) (B:Bn mg) (cl:Cls K C) (n1:NoAttr K C "nail") (n2:NoAttr K C "turns") (n3:NoAttr K C "size"):FnOk P w K mg base jA 1 f0 fd ["self","nail","turns"] (nY K C i7):=by
 refine D.ok oq (fun vs H Q E h=>(pf (D:={nx:=fun _ _=>True,rt:=fun _ _=>True}) (N:=["","",""]) cl n1 n2 n3 h fun _ _ _=>trivial).1) (fun cdv A outer s H vs Q E hr h=>?_)
 refine⟨_,(fD (gy (pv 0) (pv 1) rfl) (fD (gy (pv 0) (pv 2) rfl) (kQ (gy (pv 0) rV rfl)))),?_⟩
 exact(pf cl n1 n2 n3 h fun _ _ z=>z).2
def p9(K:PySem.W.Frag):Prop:=∃C,CF K "Piece" C∧NoAttr K C "nail"∧NoAttr K C "turns"∧NoAttr K C "size"∧HM K C "pieces" "Term.pieces" cg∧HM K C "cord" "Term.cord" cW∧HM K C "made" "Piece.made" gP∧HM K C "text" "Piece.text" gQ∧HM K C "__init__" "Piece.__init__" gW
abbrev gX:Stmt:=dQ (hJ 22) 0
theorem ou:FnScope ["self","parts"] ["self","parts"] (au gX):=⟨rfl,rfl,rfl,by decide+kernel,rfl,by decide+kernel,by decide+kernel⟩
theorem ox {f0 C:Addr} {fd:FuncData} {c:List PyData→Option Sl} (DP:DispM P w K mg base 1 "pieces" c) (D:Fun K "__init__" "Parts.__init__" gX f0 fd) (B:Bn mg) (cl:Cls K C) (n1:NoAttr K C "parts") (n2:NoAttr K C "kept") (n3:NoAttr K C "size"):FnOk P w K mg base jA 2 f0 fd ["self","parts"] (nY K C (fH c)):=by
 refine D.ok ou (fun vs H Q E h=>(ph (D:={nx:=fun _ _=>True,rt:=fun _ _=>True}) (N:=["",""]) cl n1 n2 n3 h fun _ _ _=>trivial).1) (fun cdv A outer s H vs Q E hr h=>?_)
 refine⟨_,fD (gy (pv 0) (jZ pK (by rfl) B.list PyProof.Rows.boot_list (c_ (pv 1) fi)) rfl) (fD (gy (pv 0) (jZ nV (by rfl) B.tuple PyProof.Rows.boot_tuple (c_ (pv 1) fi)) rfl)
  (kQ (gy (pv 0) (jy (vi rfl) (by rfl) B.sum PyProof.Rows.boot_sum (c_ (tZ (N:=["part"]) (js:=[none]) iX rfl (pD (pv 1)) (fun _ _ _ _=>tO (i:=0) (show(["part"]:List Str).Nodup by decide+kernel) rfl (Or.inl rfl)) (fun _ _ _ _=>tX) (te:=kD K c (fc 0)) (fun C0 s0 H0 fp=>?el)) fi)) rfl))),?_⟩
 case el=>exact lj DP hr (pv 0)
 exact(ph cl n1 n2 n3 h fun _ _ z=>z).2
def p_(K:PySem.W.Frag):Prop:=∃C,CF K "Parts" C∧NoAttr K C "parts"∧NoAttr K C "kept"∧NoAttr K C "size"∧HM K C "pieces" "Term.pieces" cg∧HM K C "cord" "Term.cord" cW∧HM K C "made" "Parts.made" gS∧HM K C "text" "Parts.text" gT∧HM K C "__init__" "Parts.__init__" gX
abbrev gY:Stmt:=dQ (hJ 23) 0
theorem oy:FnScope ["self","body","number"] ["self","body","number"] (au gY):=⟨rfl,rfl,rfl,by decide+kernel,rfl,by decide+kernel,by decide+kernel⟩
theorem oA {f0 C:Addr} {fd:FuncData} {c:List PyData→Option Sl} (DP:DispM P w K mg base 1 "pieces" c) (D:Fun K "__init__" "Times.__init__" gY f0 fd) (B:Bn mg) (cl:Cls K C) (n1:NoAttr K C "body") (n2:NoAttr K C "number") (n3:NoAttr K C "size"):FnOk P w K mg base jA 2 f0 fd ["self","body","number"] (nY K C (e_ c)):=by
 refine D.ok oy (fun vs H Q E h=>(pi (D:={nx:=fun _ _=>True,rt:=fun _ _=>True}) (N:=["","",""]) cl n1 n2 n3 h fun _ _ _=>trivial).1) (fun cdv A outer s H vs Q E hr h=>?_)
 refine⟨_,(fD (gy (pv 0) (pv 1) rfl) (fD (gy (pv 0) (pv 2) rfl) (kQ (gy (pv 0) (tP pP (lj DP hr (pv 1)) (jy qC (by rfl) B.abs PyProof.Rows.boot_abs (c_ (pv 2) fi))) rfl)))),?_⟩
 exact(pi cl n1 n2 n3 h fun _ _ z=>z).2
def qa(K:PySem.W.Frag):Prop:=∃C,CF K "Times" C∧NoAttr K C "body"∧NoAttr K C "number"∧NoAttr K C "size"∧HM K C "pieces" "Term.pieces" cg∧HM K C "cord" "Term.cord" cW∧HM K C "made" "Times.made" gU∧HM K C "text" "Times.text" gV∧HM K C "__init__" "Times.__init__" gY
abbrev iA:Stmt:=dQ (hJ 24) 0
theorem qc:FnScope ["self","one","other"] ["self","one","other"] (au iA):=⟨rfl,rfl,rfl,by decide+kernel,rfl,by decide+kernel,by decide+kernel⟩
theorem qd {f0 C:Addr} {fd:FuncData} {c:List PyData→Option Sl} (DP:DispM P w K mg base 1 "pieces" c) (D:Fun K "__init__" "Back.__init__" iA f0 fd) (B:Bn mg) (cl:Cls K C) (n1:NoAttr K C "one") (n2:NoAttr K C "other") (n3:NoAttr K C "size"):FnOk P w K mg base jA 2 f0 fd ["self","one","other"] (nY K C (fJ c)):=by
 refine D.ok qc (fun vs H Q E h=>(qX (D:={nx:=fun _ _=>True,rt:=fun _ _=>True}) (N:=["","",""]) cl n1 n2 n3 h fun _ _ _=>trivial).1) (fun cdv A outer s H vs Q E hr h=>?_)
 refine⟨_,(fD (gy (pv 0) (pv 1) rfl) (fD (gy (pv 0) (pv 2) rfl) (kQ (gy (pv 0) (tP pP rV (tP v7 (lj DP hr (pv 1)) (lj DP hr (pv 2)))) rfl)))),?_⟩
 exact(qX cl n1 n2 n3 h fun _ _ z=>z).2
def sU(K:PySem.W.Frag):Prop:=∃C,CF K "Back" C∧NoAttr K C "one"∧NoAttr K C "other"∧NoAttr K C "size"∧HM K C "pieces" "Term.pieces" cg∧HM K C "cord" "Term.cord" cW∧HM K C "made" "Back.made" iy∧HM K C "text" "Back.text" iz∧HM K C "__init__" "Back.__init__" iA
theorem Aa {h:Heap} (X:K.In h) (G:h.Ns mainGlobals mg) (B:Bn mg) (hPiece:p9 K) (hParts:p_ K) (hTimes:qa K) (hBack:sU K) {t_LONGEST:Tok} (G_LONGEST:mg "LONGEST"=some (.int 4000 t_LONGEST)) (D_number_text:Own P w K mg base 1 "number_text" ["number"] (bQ K c9)) (D_repeated:Own P w K mg base 2 "repeated" ["cord","times"] (bQ K dE)) (D_there_and_back:Own P w K mg base 2 "there_and_back" ["one","other"] (bQ K bW)):
  MkOk P w K mg base 1 "Piece" ["self","nail","turns"] i7∧MkOk P w K mg base 2 "Parts" ["self","parts"] (fH aN)∧MkOk P w K mg base 2 "Times" ["self","body","number"] (e_ aN)∧MkOk P w K mg base 2 "Back" ["self","one","other"] (fJ aN)∧DispM P w K mg base 1 "pieces" aN∧DispM P w K mg base 72 "text" xJ∧DispM P w K mg base 144 "cord" jS:=by
 obtain⟨CPiece,fPiece,n1Piece,n2Piece,n3Piece,mpPiece,mcPiece,mmPiece,mtPiece,miPiece⟩:=hPiece
 have kPiece:=fPiece.ok X G
 obtain⟨CParts,fParts,n1Parts,n2Parts,n3Parts,mpParts,mcParts,mmParts,mtParts,miParts⟩:=hParts
 have kParts:=fParts.ok X G
 obtain⟨CTimes,fTimes,n1Times,n2Times,n3Times,mpTimes,mcTimes,mmTimes,mtTimes,miTimes⟩:=hTimes
 have kTimes:=fTimes.ok X G
 obtain⟨CBack,fBack,n1Back,n2Back,n3Back,mpBack,mcBack,mmBack,mtBack,miBack⟩:=hBack
 have kBack:=fBack.ok X G
 have HF_Term_size:=Frees.ok (K:=K) (mg:=mg) (f:="size") (.cons kPiece n3Piece (.cons kParts n3Parts (.cons kTimes n3Times (.cons kBack n3Back Frees.nil))))
 have HF_Piece_nail:=Frees.ok (K:=K) (mg:=mg) (f:="nail") (.cons kPiece n1Piece .nil)
 have HF_Piece_turns:=Frees.ok (K:=K) (mg:=mg) (f:="turns") (.cons kPiece n2Piece .nil)
 have HF_Piece_size:=Frees.ok (K:=K) (mg:=mg) (f:="size") (.cons kPiece n3Piece .nil)
 have HF_Parts_parts:=Frees.ok (K:=K) (mg:=mg) (f:="parts") (.cons kParts n1Parts .nil)
 have HF_Parts_kept:=Frees.ok (K:=K) (mg:=mg) (f:="kept") (.cons kParts n2Parts .nil)
 have HF_Parts_size:=Frees.ok (K:=K) (mg:=mg) (f:="size") (.cons kParts n3Parts .nil)
 have HF_Times_body:=Frees.ok (K:=K) (mg:=mg) (f:="body") (.cons kTimes n1Times .nil)
 have HF_Times_number:=Frees.ok (K:=K) (mg:=mg) (f:="number") (.cons kTimes n2Times .nil)
 have HF_Times_size:=Frees.ok (K:=K) (mg:=mg) (f:="size") (.cons kTimes n3Times .nil)
 have HF_Back_one:=Frees.ok (K:=K) (mg:=mg) (f:="one") (.cons kBack n1Back .nil)
 have HF_Back_other:=Frees.ok (K:=K) (mg:=mg) (f:="other") (.cons kBack n2Back .nil)
 have HF_Back_size:=Frees.ok (K:=K) (mg:=mg) (f:="size") (.cons kBack n3Back .nil)
 have DP:DispM P w K mg base 1 "pieces" aN:=Disp.ok (.cons kPiece (mpPiece.own (fun f fd D=>fQ D B (HF_Term_size)) (fun _ _ _ _ _ _ us hl=>match us,hl with |[_],_=>rfl)) (.cons kParts (mpParts.own (fun f fd D=>fQ D B (HF_Term_size)) (fun _ _ _ _ _ _ us hl=>match us,hl with |[_],_=>rfl)) (.cons kTimes (mpTimes.own (fun f fd D=>fQ D B (HF_Term_size)) (fun _ _ _ _ _ _ us hl=>match us,hl with |[_],_=>rfl)) (.cons kBack (mpBack.own (fun f fd D=>fQ D B (HF_Term_size)) (fun _ _ _ _ _ _ us hl=>match us,hl with |[_],_=>rfl)) .nil)))) (by decide)
 have DT:∀n,DispM P w K mg base (2+n) "text" (cT n):=fun n=>by
  induction n with
  |zero=>exact A8
  |succ n ih=>exact Disp.ok (.cons kPiece ((mtPiece.own (fun f fd D=>n8 D B (HF_Piece_nail) (HF_Piece_turns) D_number_text) (fun _ _ _ _ _ _ us hl=>match us,hl with |[_],_=>rfl)).mono (by omega)) (.cons kParts (mtParts.own (fun f fd D=>og D B ih (HF_Parts_kept)) (fun _ _ _ _ _ _ us hl=>match us,hl with |[_],_=>rfl)) (.cons kTimes (mtTimes.own (fun f fd D=>oo D B ih (show 1≤2+n by omega) (HF_Times_body) (HF_Times_number) D_number_text) (fun _ _ _ _ _ _ us hl=>match us,hl with |[_],_=>rfl)) (.cons kBack (mtBack.own (fun f fd D=>p8 D B ih (HF_Back_one) (HF_Back_other)) (fun _ _ _ _ _ _ us hl=>match us,hl with |[_],_=>rfl)) .nil)))) (by decide)
 have co:∀{k:Nat} {c:List PyData→Option Sl},DispM P w K mg base k "made" c→DispM P w K mg base (k+1) "cord" (sT c):=fun d=>Disp.ok (.cons kPiece (mcPiece.own (fun f fd D=>gR D B d (HF_Term_size) G_LONGEST) (fun _ _ _ _ _ _ us hl=>match us,hl with |[_],_=>rfl)) (.cons kParts (mcParts.own (fun f fd D=>gR D B d (HF_Term_size) G_LONGEST) (fun _ _ _ _ _ _ us hl=>match us,hl with |[_],_=>rfl)) (.cons kTimes (mcTimes.own (fun f fd D=>gR D B d (HF_Term_size) G_LONGEST) (fun _ _ _ _ _ _ us hl=>match us,hl with |[_],_=>rfl)) (.cons kBack (mcBack.own (fun f fd D=>gR D B d (HF_Term_size) G_LONGEST) (fun _ _ _ _ _ _ us hl=>match us,hl with |[_],_=>rfl)) .nil)))) (by decide)
 have DM:∀n,DispM P w K mg base (3+2*n) "made" (cM n):=fun n=>by
  induction n with
  |zero=>exact A8
  |succ n ih=>exact Disp.ok (.cons kPiece ((mmPiece.own (fun f fd D=>n5 D B (HF_Piece_nail) (HF_Piece_turns)) (fun _ _ _ _ _ _ us hl=>match us,hl with |[_],_=>rfl)).mono (by omega)) (.cons kParts ((mmParts.own (fun f fd D=>n_ D B (co ih) (HF_Parts_kept)) (fun _ _ _ _ _ _ us hl=>match us,hl with |[_],_=>rfl)).mono (by omega)) (.cons kTimes ((mmTimes.own (fun f fd D=>oi D B (co ih) (show 2≤3+2*n+1 by omega) (HF_Times_number) (HF_Times_body) D_repeated) (fun _ _ _ _ _ _ us hl=>match us,hl with |[_],_=>rfl)).mono (by omega)) (.cons kBack ((mmBack.own (fun f fd D=>p6 D B (co ih) (show 2≤3+2*n+1 by omega) (HF_Back_other) (HF_Back_one) D_there_and_back) (fun _ _ _ _ _ _ us hl=>match us,hl with |[_],_=>rfl)).mono (by omega)) .nil)))) (by decide)
 exact⟨miPiece.mkOk fPiece kPiece (fun f fd D=>ot D B kPiece.cl n1Piece n2Piece n3Piece) (fun _ _ _ _ _ _ us hl=>match us,hl with |[_,_,_],_=>rfl),miParts.mkOk fParts kParts (fun f fd D=>ox DP D B kParts.cl n1Parts n2Parts n3Parts) (fun _ _ _ _ _ _ us hl=>match us,hl with |[_,_],_=>rfl),miTimes.mkOk fTimes kTimes (fun f fd D=>oA DP D B kTimes.cl n1Times n2Times n3Times) (fun _ _ _ _ _ _ us hl=>match us,hl with |[_,_,_],_=>rfl),miBack.mkOk fBack kBack (fun f fd D=>qd DP D B kBack.cl n1Back n2Back n3Back) (fun _ _ _ _ _ _ us hl=>match us,hl with |[_,_,_],_=>rfl),DP,DT 70,co (DM 70)⟩
abbrev j8:Stmt:=hJ 14
theorem sV:FnScope ["thing"] ["thing"] (au j8):=⟨rfl,rfl,rfl,by decide+kernel,rfl,by decide+kernel,by decide+kernel⟩
theorem sX (D:Def K mg "is_nail" j8 ["thing"]) (B:Bn mg):Own P w K mg base 1 "is_nail" ["thing"] (bQ K bS):=by
 delta bS
 refine eU (g:=g_) D sV rfl rfl (by decide) fun f cdv A outer s H E hr=>?_
 delta g_
 exact(aj (aM (sC (i3 .str (by rfl) (by exact B.isinstance) (aa 0) (by rfl) (by exact B.str) PyProof.Rows.boot_str) (sC (DK hr.units (fk (by rfl) (by exact B.len) (ae (aa 0) ar)) ah) (sy (DW .le .le az (aa 0) az))))))
abbrev gm:Stmt:=hJ 28
theorem sc_figures_end:FnScope ["text","place","end"] ["text","place"] (au gm):=⟨rfl,rfl,rfl,by decide+kernel,rfl,by decide+kernel,by decide+kernel⟩
theorem nD (D:Def K mg "figures_end" gm ["text","place"]) (B:Bn mg):Own P w K mg base 1 "figures_end" ["text","place"] (bQ K cI):=by
 delta cI
 refine eU (g:=gk) D sc_figures_end rfl rfl (by decide) fun f cdv A outer s H E hr=>?_
 delta gk
 exact(ai (aH 2 sc_figures_end.nd (aa 1))
 (ai (lf PassesOwn.never (by delta bv;exact(io (iE (fv .lt (aa 2) (fk (by rfl) (by exact B.len) (ae (aa 0) ar))) (gd (AU .le .le az (aP (aa 0) (aa 2)) az)))))
 (by delta dD;exact(aj (aH 2 sc_figures_end.nd (aA (aa 2) ah)))))
 (aj (aM (aa 2)))))
abbrev gZ:Stmt:=hJ 29
theorem sc_number_end:FnScope ["text","place","start","end"] ["text","place"] (au gZ):=⟨rfl,rfl,rfl,by decide+kernel,rfl,by decide+kernel,by decide+kernel⟩
theorem oB (D:Def K mg "number_end" gZ ["text","place"]) (B:Bn mg) {t_MOST_FIGURES:Tok} (G_MOST_FIGURES:mg "MOST_FIGURES"=some (.int 30 t_MOST_FIGURES)) (D_figures_end:Own P w K mg base 1 "figures_end" ["text","place"] (bQ K cI)):Own P w K mg base 2 "number_end" ["text","place"] (bQ K bj):=by
 delta bj
 refine eU (g:=ci) D sc_number_end rfl rfl (by decide) fun f cdv A outer s H E hr=>?_
 delta ci
 exact(ai (bB (dG (iQ 0 (ae az (ae (aa 1) ar))))
 (aj (aM (aA (aa 1) ah)))
 aY)
 (ai (aH 2 sc_number_end.nd (qL (dG (iQ 0 (ae az (ae (aa 1) ar)))) (aA (aa 1) ah) (aa 1)))
 (ai (aH 3 sc_number_end.nd (aG D_figures_end (hr.mono (by decide)) (by rfl) (ae (aa 0) (ae (aa 2) ar))))
 (ai (bB (io (gr (dG (iQ 0 (ae az (ae (aa 2) ar)))) (gA (fE (AU .le .le ah (ng (aa 3) (aa 2)) (lh (by rfl) (by exact G_MOST_FIGURES)))))))
 (aj (aM (aa 1)))
 aY)
 (aj (aM (aa 3)))))))
abbrev gn:Stmt:=hJ 30
theorem sc_read_number:FnScope ["text","place","end"] ["text","place"] (au gn):=⟨rfl,rfl,rfl,by decide+kernel,rfl,by decide+kernel,by decide+kernel⟩
theorem nE (D:Def K mg "read_number" gn ["text","place"]) (B:Bn mg) (D_number_end:Own P w K mg base 2 "number_end" ["text","place"] (bQ K bj)):Own P w K mg base 3 "read_number" ["text","place"] (bQ K aS):=by
 delta aS
 refine eU (g:=eZ) D sc_read_number rfl rfl (by decide) fun f cdv A outer s H E hr=>?_
 delta eZ
 exact(ai (aH 2 sc_read_number.nd (aG D_number_end (hr.mono (by decide)) (by rfl) (ae (aa 0) (ae (aa 1) ar))))
 (aj (aM (i6 (i5 (dS (qL (dB hr.units (aa 2) (aa 1)) ah (uo (by rfl) (by exact B.int) (ae (eR (aa 0) (b5 (aa 1)) (b5 (aa 2))) ar))) (dS (aa 2) kC)))))))
abbrev jU:Stmt:=hJ 31
theorem px:FnScope ["sign","text","place"] ["sign","text","place"] (au jU):=⟨rfl,rfl,rfl,by decide+kernel,rfl,by decide+kernel,by decide+kernel⟩
theorem vJ (D:Def K mg "behind" jU ["sign","text","place"]) (B:Bn mg) (XX:XF K mg):Own P w K mg base 1 "behind" ["sign","text","place"] (bQ K bE):=by
 obtain⟨C_NoText,m_NoText,t_NoText,z_NoText⟩:=XX.c_NoText
 delta bE
 refine eU (g:=lq) D px rfl rfl (by decide) fun f cdv A outer s H E hr=>?_
 delta lq
 exact(ai (bB (fE (dG (iQ 1 (ae (aa 0) (ae (aa 2) ar)))))
 (aj gs)
 aY)
 (aj (aM (aA (aa 2) ah))))
theorem sY (D:Def K mg "behind" jU ["sign","text","place"]) (B:Bn mg) (XX:XF K mg):OwnR P w K mg base 1 "behind" ["sign","text","place"] (nw K bR):=by
 obtain⟨C_NoText,m_NoText,t_NoText,z_NoText⟩:=XX.c_NoText
 delta bR
 refine sQ (mk:=true) (al:=true) (r:=jT) D px rfl rfl (by decide) fun f cdv A outer s H E hr=>?_
 delta jT
 exact(cw (pq (fE (dG (iQ 1 (ae (aa 0) (ae (aa 2) ar))))) (cw (jK (by rfl) (by rfl) z_NoText))))
abbrev g5:Stmt:=hJ 32
theorem sc_read_piece:FnScope ["text","place","number"] ["text","place"] (au g5):=⟨rfl,rfl,rfl,by decide+kernel,rfl,by decide+kernel,by decide+kernel⟩
theorem oC (D:Def K mg "read_piece" g5 ["text","place"]) (B:Bn mg) (D_read_number:Own P w K mg base 3 "read_number" ["text","place"] (bQ K aS)) (D_mk_Piece:MkOk P w K mg base 1 "Piece" ["self","nail","turns"] i7):Own P w K mg base 4 "read_piece" ["text","place"] (bQ K bA):=by
 delta bA
 refine eU (g:=gK) D sc_read_piece rfl rfl (by decide) fun f cdv A outer s H E hr=>?_
 delta gK
 exact(ai (aH 2 sc_read_piece.nd (aG D_read_number (hr.mono (by decide)) (by rfl) (ae (aa 0) (ae (aA (aa 1) ah) ar))))
 (aj (aM (i6 (i5 (dS (li D_mk_Piece (hr.mono (by decide)) (by rfl) (ae (aP (aa 0) (aa 1)) (ae (aP (aa 2) ah) ar))) (dS (aP (aa 2) ah) kC)))))))
abbrev ly:Stmt:=hJ 39
theorem vK:FnScope ["_law_script","_law_k"] ["_law_script","_law_k"] (au ly):=⟨rfl,rfl,rfl,by decide+kernel,rfl,by decide+kernel,by decide+kernel⟩
theorem vL (D:Def K mg "_law_at" ly ["_law_script","_law_k"]) (B:Bn mg):Own P w K mg base 1 "_law_at" ["_law_script","_law_k"] (bQ K bw):=by
 delta bw
 refine eU (g:=lv) D vK rfl rfl (by decide) fun f cdv A outer s H E hr=>?_
 delta lv
 exact(ai (bB (fv .lt (aa 1) (fk (by rfl) (by exact B.len) (ae (aa 0) ar)))
 (aj (aM (aP (aa 0) (aa 1))))
 aY)
 (aj (aM ah)))
abbrev j9:Stmt:=hJ 40
theorem sc_law_mix:FnScope ["_law_cell","_law_k","_law_value"] ["_law_cell","_law_k"] (au j9):=⟨rfl,rfl,rfl,by decide+kernel,rfl,by decide+kernel,by decide+kernel⟩
theorem sZ (D:Def K mg "_law_mix" j9 ["_law_cell","_law_k"]) (B:Bn mg):Own P w K mg base 1 "_law_mix" ["_law_cell","_law_k"] (bQ K bF):=by
 delta bF
 refine eU (g:=j6) D sc_law_mix rfl rfl (by decide) fun f cdv A outer s H E hr=>?_
 delta j6
 exact(ai (aH 2 sc_law_mix.nd (aA (aA (dO (aa 0) ah) (fY ah (aa 1))) ah))
 (ai (aH 2 sc_law_mix.nd (dO (fY (aa 2) (aA ah (fY (fY ah (aa 1)) (aa 1)))) ah))
 (aj (aM (iZ (dO (fY (aA (iZ (aa 2) ah) (fY (aa 1) (aa 1))) ah) ah) ah)))))
abbrev fR:Stmt:=hJ 45
theorem mE:FnScope ["_law_cord_here"] ["_law_cord_here"] (au fR):=⟨rfl,rfl,rfl,by decide+kernel,rfl,by decide+kernel,by decide+kernel⟩
theorem mF (D:Def K mg "_law_contrary" fR ["_law_cord_here"]) (B:Bn mg):Own P w K mg base 1 "_law_contrary" ["_law_cord_here"] (bQ K b6):=by
 delta b6
 refine eU (g:=fM) D mE rfl rfl (by decide) fun f cdv A outer s H E hr=>?_
 delta fM
 exact(aj (aM (nq (N:=["_law_nail","_law_turns"]) (js:=[none,none]) iX (by rfl) (wT (by rfl) (by exact B.reversed) (aa 0)) (fun _ _ _ _=>(by delta dU;exact(sG (by rfl) (iN (eL 0 (show(["_law_nail","_law_turns"]:List Str).Nodup by decide+kernel)) (iN (eL 1 (show(["_law_nail","_law_turns"]:List Str).Nodup by decide+kernel)) pR))))) (fun _ _ _ _=>(by delta dt;exact(gB (DL.cons (aa 0) rfl (DL.cons (sw (aa 1)) rfl DL.nil))))))))
abbrev iB:Stmt:=hJ 47
theorem sc_law_right:FnScope ["_law_found","_law_due","_law_one","_law_other"] ["_law_found","_law_due"] (au iB):=⟨rfl,rfl,rfl,by decide+kernel,rfl,by decide+kernel,by decide+kernel⟩
theorem qe (D:Def K mg "_law_right" iB ["_law_found","_law_due"]) (B:Bn mg):Own P w K mg base 1 "_law_right" ["_law_found","_law_due"] (bQ K dI):=by
 delta dI
 refine eU (g:=iv) D sc_law_right rfl rfl (by decide) fun f cdv A outer s H E hr=>?_
 delta iv
 exact(ai (bB (io (gr (fE (dG (i3 .list (by rfl) (by exact B.isinstance) (aa 0) (by rfl) (by exact B.list) PyProof.Rows.boot_list))) (gA (ml hr.units (fk (by rfl) (by exact B.len) (ae (aa 0) ar)) (fk (by rfl) (by exact B.len) (ae (aa 1) ar))))))
 (aj (aM kW))
 aY)
 (ai (kB PassesOwn.never (by rfl) (Cc (by rfl) (by exact B.zip) (aa 0) (aa 1)) (by delta eD;exact(sG (by rfl) (iN (eL 2 sc_law_right.nd) (iN (eL 3 sc_law_right.nd) pR))))
 (by delta eF;exact(ai (bB (io (gr (fE (dG (i3 .tuple (by rfl) (by exact B.isinstance) (aa 2) (by rfl) (by exact B.tuple) PyProof.Rows.boot_tuple))) (gr (ml hr.units (fk (by rfl) (by exact B.len) (ae (aa 2) ar)) ah) (gA (fE (dG (i3 .str (by rfl) (by exact B.isinstance) (aP (aa 2) ah) (by rfl) (by exact B.str) PyProof.Rows.boot_str)))))))
 (aj (aM kW))
 aY)
 (aj (bB (io (gr (fE (dG (i3 .int (by rfl) (by exact B.isinstance) (aP (aa 2) ah) (by rfl) (by exact B.int) PyProof.Rows.boot_int))) (gr (dG (i3 .bool (by rfl) (by exact B.isinstance) (aP (aa 2) ah) (by rfl) (by exact B.bool) PyProof.Rows.boot_bool)) (gA (ml hr.units (aa 2) (aa 3))))))
 (aj (aM kW))
 aY)))))
 (aj (aM kW))))
abbrev gw:Stmt:=hJ 49
theorem sc_law_words:FnScope ["_law_cell","_law_deep","_law_k","_law_words_here","_law_j","_law_at_here","_law_kind","_law_mark","_law_first"] ["_law_cell","_law_deep","_law_k"] (au gw):=⟨rfl,rfl,rfl,by decide+kernel,rfl,by decide+kernel,by decide+kernel⟩
theorem kl (D:Def K mg "_law_words" gw ["_law_cell","_law_deep","_law_k"]) (B:Bn mg) (D_law_mix:Own P w K mg base 1 "_law_mix" ["_law_cell","_law_k"] (bQ K bF)):∀k:Nat,Own P w K mg base (1+k+1) "_law_words" ["_law_cell","_law_deep","_law_k"] (bQ K (bU k))
 | 0=>jG D sc_law_words
 |k+1=>by
  have D_law_words:=kl D B D_law_mix k
  show Own P w K mg base (1+k+1+1) "_law_words" ["_law_cell","_law_deep","_law_k"] (bQ K (bP 3 9 (eI (bU k))))
  generalize bU k=self at D_law_words ⊢
  refine eU (k:=1+k+1) (g:=eI self) D sc_law_words rfl rfl (by decide) fun f cdv A outer s H E hr=>?_
  delta eI
  exact(ai (aH 3 sc_law_words.nd az)
 (ai (kB PassesOwn.never (by rfl) (lU (by rfl) (by exact B.range) (ae (dO (aG D_law_mix (hr.mono (by omega)) (by rfl) (ae (aa 0) (ae (aa 2) ar))) (aP (dH (DL.cons ah rfl (DL.cons ah rfl (DL.cons ah rfl (DL.cons ah rfl DL.nil))))) (ng ah (aa 1)))) ar)) (by delta eG;exact(eL 4 sc_law_words.nd))
 (by delta a7;exact(ai (aH 5 sc_law_words.nd (aA (aA (fY ah (aa 2)) (fY ah (aa 4))) ah))
 (ai (aH 6 sc_law_words.nd (dO (aG D_law_mix (hr.mono (by omega)) (by rfl) (ae (aa 0) (ae (aa 5) ar))) ah))
 (ai (aH 7 sc_law_words.nd (aP (dH (DL.cons az rfl (DL.cons az rfl (DL.cons az rfl (DL.cons az rfl (DL.cons az rfl (DL.cons az rfl DL.nil))))))) (dO (aG D_law_mix (hr.mono (by omega)) (by rfl) (ae (aa 0) (ae (aA (aa 5) ah) ar))) ah)))
 (aj (bB (io (iE (dB hr.units (aa 6) ah) (gd (fv .gt (aa 1) ah))))
 (aj (aH 3 sc_law_words.nd (aA (aA (aA (aA (aa 3) az) (aG D_law_words hr (by rfl) (ae (aa 0) (ae (ng (aa 1) ah) (ae (aA (aa 5) ah) ar))))) az) (eR (aa 7) i0 (b5 ah)))))
 (aj (bB (io (iE (dB hr.units (aa 6) ah) (gd (fv .gt (aa 1) ah))))
 (ai (aH 8 sc_law_words.nd (aG D_law_words hr (by rfl) (ae (aa 0) (ae (ng (aa 1) ah) (ae (aA (aa 5) ah) ar)))))
 (aj (aH 3 sc_law_words.nd (aA (aA (aA (aA (aA (aa 3) az) (aa 8)) az) (aG D_law_words hr (by rfl) (ae (aa 0) (ae (ng (aa 1) ah) (ae (aA (aa 5) ah) ar))))) az))))
 (aj (aH 3 sc_law_words.nd (aA (aA (aa 3) (aP az (dO (aG D_law_mix (hr.mono (by omega)) (by rfl) (ae (aa 0) (ae (aA (aa 5) ah) ar))) ah))) (aa 7)))))))))))))
 (aj (aM (aa 3)))))
theorem qf (D:Def K mg "_law_words" gw ["_law_cell","_law_deep","_law_k"]) (B:Bn mg) (D_law_mix:Own P w K mg base 1 "_law_mix" ["_law_cell","_law_k"] (bQ K bF)):Own P w K mg base 6 "_law_words" ["_law_cell","_law_deep","_law_k"] (bQ K fN):=kl D B D_law_mix 4
abbrev g7:Stmt:=hJ 50
theorem sc_law_within:FnScope ["_law_words_here","_law_many","_law_cell","_law_k"] ["_law_words_here","_law_many","_law_cell"] (au g7):=⟨rfl,rfl,rfl,by decide+kernel,rfl,by decide+kernel,by decide+kernel⟩
theorem oE (D:Def K mg "_law_within" g7 ["_law_words_here","_law_many","_law_cell"]) (B:Bn mg) (D_law_mix:Own P w K mg base 1 "_law_mix" ["_law_cell","_law_k"] (bQ K bF)):Own P w K mg base 2 "_law_within" ["_law_words_here","_law_many","_law_cell"] (bQ K cR):=by
 delta cR
 refine eU (g:=gL) D sc_law_within rfl rfl (by decide) fun f cdv A outer s H E hr=>?_
 delta gL
 exact(ai (kB PassesOwn.never (by rfl) (lU (by rfl) (by exact B.range) (ae (aa 1) ar)) (by delta fb;exact(eL 3 sc_law_within.nd))
 (by delta cq;exact(aj (bB (dB hr.units (dO (aG D_law_mix (hr.mono (by decide)) (by rfl) (ae (aa 2) (ae (aa 3) ar))) ah) ah)
 (aj (aH 0 sc_law_within.nd (aA (aA az (aa 0)) az)))
 (aj (aH 0 sc_law_within.nd (aA (aP (dH (DL.cons (aA (aA az (aa 0)) az) rfl (DL.cons (aA (aA az (aa 0)) az) rfl DL.nil))) (dO (iZ (aG D_law_mix (hr.mono (by decide)) (by rfl) (ae (aa 2) (ae (aa 3) ar))) ah) ah)) az)))))))
 (aj (aM (aa 0))))
abbrev fS:Stmt:=hJ 51
theorem sc_law_any_sign:FnScope ["_law_cell","_law_some"] ["_law_cell"] (au fS):=⟨rfl,rfl,rfl,by decide+kernel,rfl,by decide+kernel,by decide+kernel⟩
theorem mG (D:Def K mg "_law_any_sign" fS ["_law_cell"]) (B:Bn mg):Own P w K mg base 1 "_law_any_sign" ["_law_cell"] (bQ K b7):=by
 delta b7
 refine eU (g:=eJ) D sc_law_any_sign rfl rfl (by decide) fun f cdv A outer s H E hr=>?_
 delta eJ
 exact(ai (bB (dB hr.units (dO (aa 0) ah) ah)
 (aj (aM (aP az (dO (iZ (aa 0) ah) ah))))
 aY)
 (ai (aH 1 sc_law_any_sign.nd az)
 (ai (aH 1 sc_law_any_sign.nd (aA (aa 1) az))
 (aj (aM (aP (aa 1) (dO (iZ (aa 0) ah) (fk (by rfl) (by exact B.len) (ae (aa 1) ar)))))))))
abbrev j_:Stmt:=hJ 52
theorem sc_law_odd:FnScope ["_law_cell","_law_some"] ["_law_cell"] (au j_):=⟨rfl,rfl,rfl,by decide+kernel,rfl,by decide+kernel,by decide+kernel⟩
theorem s_ (D:Def K mg "_law_odd" j_ ["_law_cell"]) (B:Bn mg):Own P w K mg base 1 "_law_odd" ["_law_cell"] (bQ K fm):=by
 delta fm
 refine eU (g:=j7) D sc_law_odd rfl rfl (by decide) fun f cdv A outer s H E hr=>?_
 refine BodyOk.of ?_
 refine uv [0] (fun _=>(DL.cons az rfl (DL.cons az rfl (DL.cons az rfl (DL.cons az rfl (DL.cons az rfl (DL.cons az rfl (DL.cons az rfl (DL.cons az rfl (DL.cons az rfl (DL.cons az rfl (DL.cons az rfl (DL.cons az rfl (DL.cons az rfl (DL.cons az rfl (DL.cons az rfl (DL.cons az rfl DL.nil))))))))))))))))) fun e0 hd0=>?_
 refine uv [1,1] (fun _=>(DL.cons az rfl (DL.cons az rfl (DL.cons az rfl (DL.cons az rfl (DL.cons az rfl (DL.cons az rfl (DL.cons (aA az (zC az ah)) rfl (DL.cons az rfl DL.nil))))))))) fun e1 hd1=>?_
 refine⟨?_⟩
 delta j7
 exact(ai (aH 1 sc_law_odd.nd (dH (hd0 _)))
 (ai (aH 1 sc_law_odd.nd (aA (aa 1) (dH (hd1 _))))
 (aj (aM (aP (aa 1) (dO (aa 0) ah))))))
abbrev gp:Stmt:=hJ 53
theorem sc_law_spoiled:FnScope ["_law_words_here","_law_way","_law_spot","_law_cell","_law_at_here"] ["_law_words_here","_law_way","_law_spot","_law_cell"] (au gp):=⟨rfl,rfl,rfl,by decide+kernel,rfl,by decide+kernel,by decide+kernel⟩
theorem nG (D:Def K mg "_law_spoiled" gp ["_law_words_here","_law_way","_law_spot","_law_cell"]) (B:Bn mg) (D_law_any_sign:Own P w K mg base 1 "_law_any_sign" ["_law_cell"] (bQ K b7)) (D_law_odd:Own P w K mg base 1 "_law_odd" ["_law_cell"] (bQ K fm)):Own P w K mg base 2 "_law_spoiled" ["_law_words_here","_law_way","_law_spot","_law_cell"] (bQ K a8):=by
 delta a8
 refine eU (g:=cS) D sc_law_spoiled rfl rfl (by decide) fun f cdv A outer s H E hr=>?_
 delta cS
 exact(ai (aH 4 sc_law_spoiled.nd (dO (aa 2) (aA (fk (by rfl) (by exact B.len) (ae (aa 0) ar)) ah)))
 (ai (bB (qV (aa 1) (dH (DL.cons ah rfl (DL.cons ah rfl DL.nil))))
 (aj (aM (aA (aA (eR (aa 0) i0 (b5 (aa 4))) (aG D_law_any_sign (hr.mono (by decide)) (by rfl) (ae (aa 3) ar))) (eR (aa 0) (b5 (aa 4)) i0))))
 aY)
 (ai (bB (qV (aa 1) (dH (DL.cons ah rfl (DL.cons ah rfl DL.nil))))
 (aj (aM (aA (aA (eR (aa 0) i0 (b5 (aa 4))) (aG D_law_any_sign (hr.mono (by decide)) (by rfl) (ae (aa 3) ar))) (eR (aa 0) (b5 (aA (aa 4) ah)) i0))))
 aY)
 (ai (bB (dB hr.units (aa 1) ah)
 (aj (aM (aA (eR (aa 0) i0 (b5 (aa 4))) (eR (aa 0) (b5 (aA (aa 4) ah)) i0))))
 aY)
 (ai (bB (dB hr.units (aa 1) ah)
 (aj (aM (aG D_law_odd (hr.mono (by decide)) (by rfl) (ae (aa 3) ar))))
 aY)
 (aj (aM (aa 0))))))))
abbrev g8:Stmt:=hJ 54
theorem sc_law_number:FnScope ["_law_words_here","_law_at_here","_law_end","_law_begin","_law_figures"] ["_law_words_here","_law_at_here"] (au g8):=⟨rfl,rfl,rfl,by decide+kernel,rfl,by decide+kernel,by decide+kernel⟩
theorem oF (D:Def K mg "_law_number" g8 ["_law_words_here","_law_at_here"]) (B:Bn mg):Own P w K mg base 1 "_law_number" ["_law_words_here","_law_at_here"] (bQ K aL):=by
 delta aL
 refine eU (g:=b8) D sc_law_number rfl rfl (by decide) fun f cdv A outer s H E hr=>?_
 delta b8
 exact(ai (aH 2 sc_law_number.nd (aa 1))
 (ai (bB (dB hr.units (eR (aa 0) (b5 (aa 2)) (b5 (aA (aa 2) ah))) az)
 (aj (aH 2 sc_law_number.nd (aA (aa 2) ah)))
 aY)
 (ai (aH 3 sc_law_number.nd (aa 2))
 (ai (lf PassesOwn.never (by delta bK;exact(io (iE (ml hr.units (eR (aa 0) (b5 (aa 2)) (b5 (aA (aa 2) ah))) az) (gd (qV (aP (aa 0) (aa 2)) az)))))
 (by delta cr;exact(aj (aH 2 sc_law_number.nd (aA (aa 2) ah)))))
 (ai (bB (dB hr.units (aa 2) (aa 1))
 (aj (aM (i6 (i5 (dS ah (dS (aa 1) kC))))))
 aY)
 (ai (aH 4 sc_law_number.nd (eR (aa 0) (b5 (aa 3)) (b5 (aa 2))))
 (ai (bB (io (gr (dB hr.units (aa 4) az) (gr (fv .gt (fk (by rfl) (by exact B.len) (ae (aa 4) ar)) ah) (gA (io (iE (dB hr.units (aP (aa 4) ah) az) (gd (ml hr.units (eR (aa 0) (b5 (aa 1)) (b5 (aa 2))) az))))))))
 (aj (aM dh))
 aY)
 (aj (aM (i6 (i5 (dS (uo (by rfl) (by exact B.int) (ae (eR (aa 0) (b5 (aa 1)) (b5 (aa 2))) ar)) (dS (aa 2) kC)))))))))))))
abbrev gx:Stmt:=hJ 58
theorem sc_law_count:FnScope ["_law_parts","_law_many","_law_part"] ["_law_parts"] (au gx):=⟨rfl,rfl,rfl,by decide+kernel,rfl,by decide+kernel,by decide+kernel⟩
theorem km (D:Def K mg "_law_count" gx ["_law_parts"]) (B:Bn mg):∀k:Nat,Own P w K mg base (0+k+1) "_law_count" ["_law_parts"] (bQ K (bZ k))
 | 0=>jG D sc_law_count
 |k+1=>by
  have D_law_count:=km D B  k
  show Own P w K mg base (0+k+1+1) "_law_count" ["_law_parts"] (bQ K (bP 1 3 (fw (bZ k))))
  generalize bZ k=self at D_law_count ⊢
  refine eU (k:=0+k+1) (g:=fw self) D sc_law_count rfl rfl (by decide) fun f cdv A outer s H E hr=>?_
  delta fw
  exact(ai (aH 1 sc_law_count.nd ah)
 (ai (kB PassesOwn.never (by rfl) (xE (aa 0)) (by delta fO;exact(eL 2 sc_law_count.nd))
 (by delta bx;exact(aj (bB (dB hr.units (aP (aa 2) ah) az)
 (aj (aH 1 sc_law_count.nd (aA (aa 1) ah)))
 (aj (bB (dB hr.units (aP (aa 2) ah) az)
 (aj (aH 1 sc_law_count.nd (aA (aa 1) (fY (wO (by rfl) (by exact B.abs) (ae (aP (aa 2) ah) ar)) (aG D_law_count hr (by rfl) (ae (aP (aa 2) ah) ar))))))
 (aj (aH 1 sc_law_count.nd (aA (aa 1) (fY ah (aA (aG D_law_count hr (by rfl) (ae (aP (aa 2) ah) ar)) (aG D_law_count hr (by rfl) (ae (aP (aa 2) ah) ar)))))))))))))
 (aj (aM (aa 1)))))
theorem qg (D:Def K mg "_law_count" gx ["_law_parts"]) (B:Bn mg):Own P w K mg base 34 "_law_count" ["_law_parts"] (bQ K gM):=km D B  33
abbrev ii:Stmt:=hJ 59
theorem sc_law_laid:FnScope ["_law_parts","_law_cord_here","_law_part","_law_one","_law_other","_law_made"] ["_law_parts"] (au ii):=⟨rfl,rfl,rfl,by decide+kernel,rfl,by decide+kernel,by decide+kernel⟩
theorem lC (D:Def K mg "_law_laid" ii ["_law_parts"]) (B:Bn mg) (D_law_contrary:Own P w K mg base 1 "_law_contrary" ["_law_cord_here"] (bQ K b6)):∀k:Nat,Own P w K mg base (1+k+1) "_law_laid" ["_law_parts"] (bQ K (bG k))
 | 0=>jG D sc_law_laid
 |k+1=>by
  have D_law_laid:=lC D B D_law_contrary k
  show Own P w K mg base (1+k+1+1) "_law_laid" ["_law_parts"] (bQ K (bP 1 6 (fZ (bG k))))
  generalize bG k=self at D_law_laid ⊢
  refine eU (k:=1+k+1) (g:=fZ self) D sc_law_laid rfl rfl (by decide) fun f cdv A outer s H E hr=>?_
  delta fZ
  exact(ai (aH 1 sc_law_laid.nd (dH DL.nil))
 (ai (kB PassesOwn.never (by rfl) (xE (aa 0)) (by delta e8;exact(eL 2 sc_law_laid.nd))
 (by delta aZ;exact(aj (bB (dB hr.units (aP (aa 2) ah) az)
 (aj (kY (j4 1 (gB (DL.cons (aP (aa 2) ah) rfl (DL.cons (aP (aa 2) ah) rfl DL.nil))))))
 (aj (bB (dB hr.units (aP (aa 2) ah) az)
 (ai (aH 3 sc_law_laid.nd (aG D_law_laid hr (by rfl) (ae (aP (aa 2) ah) ar)))
 (ai (aH 4 sc_law_laid.nd (aG D_law_laid hr (by rfl) (ae (aP (aa 2) ah) ar)))
 (ai (aH 1 sc_law_laid.nd (aA (aA (aa 1) (aa 3)) (aa 4)))
 (aj (aH 1 sc_law_laid.nd (aA (aA (aa 1) (aG D_law_contrary (hr.mono (by omega)) (by rfl) (ae (aa 3) ar))) (aG D_law_contrary (hr.mono (by omega)) (by rfl) (ae (aa 4) ar))))))))
 (aj (bB (fv .gt (aP (aa 2) ah) ah)
 (aj (aH 1 sc_law_laid.nd (aA (aa 1) (fY (aG D_law_laid hr (by rfl) (ae (aP (aa 2) ah) ar)) (wP (by rfl) (by rfl) (by exact B.min) (ae (aP (aa 2) ah) (ae ah ar)))))))
 (aj (bB (fv .lt (aP (aa 2) ah) ah)
 (ai (aH 5 sc_law_laid.nd (aG D_law_contrary (hr.mono (by omega)) (by rfl) (ae (aG D_law_laid hr (by rfl) (ae (aP (aa 2) ah) ar)) ar)))
 (aj (aH 1 sc_law_laid.nd (aA (aa 1) (fY (aa 5) (wP (by rfl) (by rfl) (by exact B.min) (ae (sw (aP (aa 2) ah)) (ae ah ar))))))))
 aY))))))))))
 (aj (aM (aa 1)))))
theorem rE (D:Def K mg "_law_laid" ii ["_law_parts"]) (B:Bn mg) (D_law_contrary:Own P w K mg base 1 "_law_contrary" ["_law_cord_here"] (bQ K b6)):Own P w K mg base 35 "_law_laid" ["_law_parts"] (bQ K iw):=lC D B D_law_contrary 33
abbrev g9:Stmt:=hJ 60
theorem sc_law_others:FnScope ["_law_e","_law_some"] ["_law_e"] (au g9):=⟨rfl,rfl,rfl,by decide+kernel,rfl,by decide+kernel,by decide+kernel⟩
theorem oG (D:Def K mg "_law_others" g9 ["_law_e"]) (B:Bn mg) (XX:XF K mg):OwnH P w K mg base 1 "_law_others" ["_law_e"] (bQ K dM):=by
 obtain⟨C_NoCord,m_NoCord,t_NoCord⟩:=XX.c_NoCord
 obtain⟨C_NoLine,m_NoLine,t_NoLine⟩:=XX.c_NoLine
 obtain⟨C_NoMove,m_NoMove,t_NoMove⟩:=XX.c_NoMove
 obtain⟨C_NoNails,m_NoNails,t_NoNails⟩:=XX.c_NoNails
 obtain⟨C_NoName,m_NoName,t_NoName⟩:=XX.c_NoName
 obtain⟨C_NoNumber,m_NoNumber,t_NoNumber⟩:=XX.c_NoNumber
 obtain⟨C_NoRule,m_NoRule,t_NoRule⟩:=XX.c_NoRule
 obtain⟨C_TooMany,m_TooMany,t_TooMany⟩:=XX.c_TooMany
 obtain⟨C_TooLong,m_TooLong,t_TooLong⟩:=XX.c_TooLong
 delta dM
 refine FL (g:=gN) D sc_law_others rfl rfl (by decide) fun f cdv A outer s H E hr=>?_
 refine BodyOk.of ?_
 refine uw [0] (DL.cons (gf (by rfl) (by exact B.isinstance) (aa 0) (by rfl) (by exact m_NoCord) t_NoCord) rfl (DL.cons (gf (by rfl) (by exact B.isinstance) (aa 0) (by rfl) (by exact m_NoLine) t_NoLine) rfl (DL.cons (gf (by rfl) (by exact B.isinstance) (aa 0) (by rfl) (by exact m_NoMove) t_NoMove) rfl (DL.cons (gf (by rfl) (by exact B.isinstance) (aa 0) (by rfl) (by exact m_NoNails) t_NoNails) rfl DL.nil)))) fun e0 hd0=>?_
 refine uw [1,1] (DL.cons (gf (by rfl) (by exact B.isinstance) (aa 0) (by rfl) (by exact m_NoName) t_NoName) rfl (DL.cons (gf (by rfl) (by exact B.isinstance) (aa 0) (by rfl) (by exact m_NoNumber) t_NoNumber) rfl (DL.cons (gf (by rfl) (by exact B.isinstance) (aa 0) (by rfl) (by exact m_NoRule) t_NoRule) rfl (DL.cons (gf (by rfl) (by exact B.isinstance) (aa 0) (by rfl) (by exact m_TooMany) t_TooMany) rfl DL.nil)))) fun e1 hd1=>?_
 refine⟨?_⟩
 delta gN
 exact(ai (aH 1 sc_law_others.nd (dH hd0))
 (ai (aH 1 sc_law_others.nd (aA (aa 1) (dH hd1)))
 (aj (aM (aA (aa 1) (dH (DL.cons (gf (by rfl) (by exact B.isinstance) (aa 0) (by rfl) (by exact m_TooLong) t_TooLong) rfl DL.nil)))))))
abbrev cQ:Stmt:=hJ 33
theorem sc_read_times:FnScope ["text","place","depth","body","number"] ["text","place","depth"] (au cQ):=⟨rfl,rfl,rfl,by decide+kernel,rfl,by decide+kernel,by decide+kernel⟩
theorem ko {k:Nat} {self:List PyData→Option Sl} (DS:Own P w K mg base k "read_parts" ["text","start","depth"] (bQ K self)) (hk:4≤k) (D:Def K mg "read_times" cQ ["text","place","depth"]) (B:Bn mg) (D_behind:Own P w K mg base 1 "behind" ["sign","text","place"] (bQ K bE)) (D_read_number:Own P w K mg base 3 "read_number" ["text","place"] (bQ K aS)) (D_mk_Times:MkOk P w K mg base 2 "Times" ["self","body","number"] (e_ aN)):Own P w K mg base (k+1) "read_times" ["text","place","depth"] (bQ K (b_ self)):=by
 delta b_
 refine eU (k:=k+0) (g:=gO self) D sc_read_times rfl rfl (by decide) fun f cdv A outer s H E hr=>?_
 delta gO
 exact(ai (aH 3 sc_read_times.nd (aG DS (hr.mono (by omega)) (by rfl) (ae (aa 0) (ae (aA (aa 1) ah) (ae (aA (aa 2) ah) ar)))))
 (ai (aH 4 sc_read_times.nd (aG D_read_number (hr.mono (by omega)) (by rfl) (ae (aa 0) (ae (aG D_behind (hr.mono (by omega)) (by rfl) (ae az (ae (aa 0) (ae (aP (aa 3) ah) ar)))) ar))))
 (aj (aM (i6 (i5 (dS (li D_mk_Times (hr.mono (by omega)) (by rfl) (ae (aP (aa 3) ah) (ae (aP (aa 4) ah) ar))) (dS (aP (aa 4) ah) kC))))))))
theorem nH {k:Nat} {self:List PyData→Option Sl} (DS:Own P w K mg base k "read_parts" ["text","start","depth"] (bQ K self)) (hk:4≤k) {rself:List PyData→Option Str} (RS:OwnR P w K mg base k "read_parts" ["text","start","depth"] (nw K rself)) (D:Def K mg "read_times" cQ ["text","place","depth"]) (B:Bn mg) (D_behind:Own P w K mg base 1 "behind" ["sign","text","place"] (bQ K bE)) (D_read_number:Own P w K mg base 3 "read_number" ["text","place"] (bQ K aS)) (D_mk_Times:MkOk P w K mg base 2 "Times" ["self","body","number"] (e_ aN)) (R_behind:OwnR P w K mg base 1 "behind" ["sign","text","place"] (nw K bR)):OwnR P w K mg base (k+1) "read_times" ["text","place","depth"] (nw K (ce self rself)):=by
 delta ce
 refine sQ (mk:=true) (al:=true) (k:=k+0) (r:=fP self rself) D sc_read_times rfl rfl (by decide) fun f cdv A outer s H E hr=>?_
 delta fP
 exact(ms (cw (i9 (fK RS (hr.mono (by omega)) (by rfl) (ae (aa 0) (ae (aA (aa 1) ah) (ae (aA (aa 2) ah) ar))))))
 (hZ (aH 3 sc_read_times.nd (aG DS (hr.mono (by omega)) (by rfl) (ae (aa 0) (ae (aA (aa 1) ah) (ae (aA (aa 2) ah) ar)))))
 (cw (i9 (uq D_read_number (by rfl) (aa 0) (fK R_behind (hr.mono (by omega)) (by rfl) (ae az (ae (aa 0) (ae (aP (aa 3) ah) ar)))))))))
abbrev dw:Stmt:=hJ 34
theorem sc_read_back:FnScope ["text","place","depth","one","other"] ["text","place","depth"] (au dw):=⟨rfl,rfl,rfl,by decide+kernel,rfl,by decide+kernel,by decide+kernel⟩
theorem lD {k:Nat} {self:List PyData→Option Sl} (DS:Own P w K mg base k "read_parts" ["text","start","depth"] (bQ K self)) (hk:4≤k) (D:Def K mg "read_back" dw ["text","place","depth"]) (B:Bn mg) (D_behind:Own P w K mg base 1 "behind" ["sign","text","place"] (bQ K bE)) (D_mk_Back:MkOk P w K mg base 2 "Back" ["self","one","other"] (fJ aN)):Own P w K mg base (k+1) "read_back" ["text","place","depth"] (bQ K (cD self)):=by
 delta cD
 refine eU (k:=k+0) (g:=ix self) D sc_read_back rfl rfl (by decide) fun f cdv A outer s H E hr=>?_
 delta ix
 exact(ai (aH 3 sc_read_back.nd (aG DS (hr.mono (by omega)) (by rfl) (ae (aa 0) (ae (aA (aa 1) ah) (ae (aA (aa 2) ah) ar)))))
 (ai (aH 4 sc_read_back.nd (aG DS (hr.mono (by omega)) (by rfl) (ae (aa 0) (ae (aG D_behind (hr.mono (by omega)) (by rfl) (ae az (ae (aa 0) (ae (aP (aa 3) ah) ar)))) (ae (aA (aa 2) ah) ar)))))
 (aj (aM (i6 (i5 (dS (li D_mk_Back (hr.mono (by omega)) (by rfl) (ae (aP (aa 3) ah) (ae (aP (aa 4) ah) ar))) (dS (aG D_behind (hr.mono (by omega)) (by rfl) (ae az (ae (aa 0) (ae (aP (aa 4) ah) ar)))) kC))))))))
theorem oH {k:Nat} {self:List PyData→Option Sl} (DS:Own P w K mg base k "read_parts" ["text","start","depth"] (bQ K self)) (hk:4≤k) {rself:List PyData→Option Str} (RS:OwnR P w K mg base k "read_parts" ["text","start","depth"] (nw K rself)) (D:Def K mg "read_back" dw ["text","place","depth"]) (B:Bn mg) (D_behind:Own P w K mg base 1 "behind" ["sign","text","place"] (bQ K bE)) (D_mk_Back:MkOk P w K mg base 2 "Back" ["self","one","other"] (fJ aN)) (R_behind:OwnR P w K mg base 1 "behind" ["sign","text","place"] (nw K bR)):OwnR P w K mg base (k+1) "read_back" ["text","place","depth"] (nw K (bO self rself)):=by
 delta bO
 refine sQ (mk:=true) (al:=true) (k:=k+0) (r:=eK self rself) D sc_read_back rfl rfl (by decide) fun f cdv A outer s H E hr=>?_
 delta eK
 exact(ms (cw (i9 (fK RS (hr.mono (by omega)) (by rfl) (ae (aa 0) (ae (aA (aa 1) ah) (ae (aA (aa 2) ah) ar))))))
 (hZ (aH 3 sc_read_back.nd (aG DS (hr.mono (by omega)) (by rfl) (ae (aa 0) (ae (aA (aa 1) ah) (ae (aA (aa 2) ah) ar)))))
 (ms (cw (i9 (D1 (uq DS (by rfl) (aa 0) (fK R_behind (hr.mono (by omega)) (by rfl) (ae az (ae (aa 0) (ae (aP (aa 3) ah) ar))))) (fK RS (hr.mono (by omega)) (by rfl) (ae (aa 0) (ae (aG D_behind (hr.mono (by omega)) (by rfl) (ae az (ae (aa 0) (ae (aP (aa 3) ah) ar)))) (ae (aA (aa 2) ah) ar)))))))
 (hZ (aH 4 sc_read_back.nd (aG DS (hr.mono (by omega)) (by rfl) (ae (aa 0) (ae (aG D_behind (hr.mono (by omega)) (by rfl) (ae az (ae (aa 0) (ae (aP (aa 3) ah) ar)))) (ae (aA (aa 2) ah) ar)))))
 (cw (pY (zW (li D_mk_Back (hr.mono (by omega)) (by rfl) (ae (aP (aa 3) ah) (ae (aP (aa 4) ah) ar))) (fK R_behind (hr.mono (by omega)) (by rfl) (ae az (ae (aa 0) (ae (aP (aa 4) ah) ar)))))))))))
abbrev dy:Stmt:=hJ 35
theorem lE:FnScope ["text","place","depth"] ["text","place","depth"] (au dy):=⟨rfl,rfl,rfl,by decide+kernel,rfl,by decide+kernel,by decide+kernel⟩
theorem lH {k:Nat} {self:List PyData→Option Sl} (DS:Own P w K mg base k "read_parts" ["text","start","depth"] (bQ K self)) (hk:4≤k) (D:Def K mg "read_part" dy ["text","place","depth"]) (B:Bn mg) (D_is_nail:Own P w K mg base 1 "is_nail" ["thing"] (bQ K bS)) (D_read_piece:Own P w K mg base 4 "read_piece" ["text","place"] (bQ K bA)) (D_read_times:Own P w K mg base (k+1) "read_times" ["text","place","depth"] (bQ K (b_ self))) (D_read_back:Own P w K mg base (k+1) "read_back" ["text","place","depth"] (bQ K (cD self))):Own P w K mg base (k+2) "read_part" ["text","place","depth"] (bQ K (b9 self)):=by
 delta b9
 refine eU (k:=k+1) (g:=fz self) D lE rfl rfl (by decide) fun f cdv A outer s H E hr=>?_
 delta fz
 exact(ai (bB (dG (aG D_is_nail (hr.mono (by omega)) (by rfl) (ae (aP (aa 0) (aa 1)) ar)))
 (aj (aM (aG D_read_piece (hr.mono (by omega)) (by rfl) (ae (aa 0) (ae (aa 1) ar)))))
 aY)
 (ai (bB (dB hr.units (aP (aa 0) (aa 1)) az)
 (aj (aM (aG D_read_times (hr.mono (by omega)) (by rfl) (ae (aa 0) (ae (aa 1) (ae (aa 2) ar))))))
 aY)
 (ai (bB (dB hr.units (aP (aa 0) (aa 1)) az)
 (aj (aM (aG D_read_back (hr.mono (by omega)) (by rfl) (ae (aa 0) (ae (aa 1) (ae (aa 2) ar))))))
 aY)
 (aj gs))))
theorem oI {k:Nat} {self:List PyData→Option Sl} (DS:Own P w K mg base k "read_parts" ["text","start","depth"] (bQ K self)) (hk:4≤k) {rself:List PyData→Option Str} (RS:OwnR P w K mg base k "read_parts" ["text","start","depth"] (nw K rself)) (D:Def K mg "read_part" dy ["text","place","depth"]) (B:Bn mg) (D_is_nail:Own P w K mg base 1 "is_nail" ["thing"] (bQ K bS)) (D_read_piece:Own P w K mg base 4 "read_piece" ["text","place"] (bQ K bA)) (D_read_times:Own P w K mg base (k+1) "read_times" ["text","place","depth"] (bQ K (b_ self))) (D_read_back:Own P w K mg base (k+1) "read_back" ["text","place","depth"] (bQ K (cD self))) (R_read_times:OwnR P w K mg base (k+1) "read_times" ["text","place","depth"] (nw K (ce self rself))) (R_read_back:OwnR P w K mg base (k+1) "read_back" ["text","place","depth"] (nw K (bO self rself))) (XX:XF K mg):OwnR P w K mg base (k+2) "read_part" ["text","place","depth"] (nw K (bh self rself)):=by
 obtain⟨C_NoText,m_NoText,t_NoText,z_NoText⟩:=XX.c_NoText
 delta bh
 refine sQ (mk:=true) (al:=true) (k:=k+1) (r:=du self rself) D lE rfl rfl (by decide) fun f cdv A outer s H E hr=>?_
 delta du
 exact(hZ (bB (dG (aG D_is_nail (hr.mono (by omega)) (by rfl) (ae (aP (aa 0) (aa 1)) ar)))
 (aj (aM (aG D_read_piece (hr.mono (by omega)) (by rfl) (ae (aa 0) (ae (aa 1) ar)))))
 aY)
 (ms (cw (pq (dB hr.units (aP (aa 0) (aa 1)) az) (cw (pY (fK R_read_times (hr.mono (by omega)) (by rfl) (ae (aa 0) (ae (aa 1) (ae (aa 2) ar))))))))
 (hZ (bB (dB hr.units (aP (aa 0) (aa 1)) az)
 (aj (aM (aG D_read_times (hr.mono (by omega)) (by rfl) (ae (aa 0) (ae (aa 1) (ae (aa 2) ar))))))
 aY)
 (ms (cw (pq (dB hr.units (aP (aa 0) (aa 1)) az) (cw (pY (fK R_read_back (hr.mono (by omega)) (by rfl) (ae (aa 0) (ae (aa 1) (ae (aa 2) ar))))))))
 (hZ (bB (dB hr.units (aP (aa 0) (aa 1)) az)
 (aj (aM (aG D_read_back (hr.mono (by omega)) (by rfl) (ae (aa 0) (ae (aa 1) (ae (aa 2) ar))))))
 aY)
 (cw (jK (by rfl) (by rfl) z_NoText)))))))
abbrev dJ:Stmt:=hJ 36
theorem sc_read_parts:FnScope ["text","start","depth","parts","place","part"] ["text","start","depth"] (au dJ):=⟨rfl,rfl,rfl,by decide+kernel,rfl,by decide+kernel,by decide+kernel⟩
theorem ij (D:Def K mg "read_parts" dJ ["text","start","depth"]) (B:Bn mg) (E_read_times:Def K mg "read_times" cQ ["text","place","depth"]) (E_read_back:Def K mg "read_back" dw ["text","place","depth"]) (E_read_part:Def K mg "read_part" dy ["text","place","depth"]) {t_DEEPEST:Tok} (G_DEEPEST:mg "DEEPEST"=some (.int 30 t_DEEPEST)) (D_behind:Own P w K mg base 1 "behind" ["sign","text","place"] (bQ K bE)) (D_read_number:Own P w K mg base 3 "read_number" ["text","place"] (bQ K aS)) (D_mk_Times:MkOk P w K mg base 2 "Times" ["self","body","number"] (e_ aN)) (D_mk_Back:MkOk P w K mg base 2 "Back" ["self","one","other"] (fJ aN)) (D_is_nail:Own P w K mg base 1 "is_nail" ["thing"] (bQ K bS)) (D_read_piece:Own P w K mg base 4 "read_piece" ["text","place"] (bQ K bA)) (D_mk_Parts:MkOk P w K mg base 2 "Parts" ["self","parts"] (fH aN)):∀n:Nat,Own P w K mg base (4+3*n+1) "read_parts" ["text","start","depth"] (bQ K (a9 n))
 | 0=>jG D sc_read_parts
 |n+1=>by
  have DS:=ij D B E_read_times E_read_back E_read_part G_DEEPEST D_behind D_read_number D_mk_Times D_mk_Back D_is_nail D_read_piece D_mk_Parts n
  have hk:4≤4+3*n+1:=by omega
  show Own P w K mg base (4+3*(n+1)+1) "read_parts" ["text","start","depth"] (bQ K (bP 3 6 (eN (a9 n))))
  rw[show 4+3*(n+1)+1=4+3*n+1+3 by omega]
  generalize a9 n=self at DS ⊢
  generalize 4+3*n+1=k at DS hk ⊢
  have D_read_times:=ko DS hk E_read_times B D_behind D_read_number D_mk_Times
  have D_read_back:=lD DS hk E_read_back B D_behind D_mk_Back
  have D_read_part:=lH DS hk E_read_part B D_is_nail D_read_piece D_read_times D_read_back
  refine eU (k:=k+2) (g:=eN self) D sc_read_parts rfl rfl (by decide) fun f cdv A outer s H E hr=>?_
  delta eN
  exact(ai (bB (fv .gt (aa 2) (lh (by rfl) (by exact G_DEEPEST)))
 (aj gs)
 aY)
 (ai (aH 3 sc_read_parts.nd (dH DL.nil))
 (ai (aH 4 sc_read_parts.nd (aa 1))
 (ai (lf PassesOwn.never (by delta aX;exact(io (iE (fv .lt (aa 4) (fk (by rfl) (by exact B.len) (ae (aa 0) ar))) (gd (sJ (aP (aa 0) (aa 4)) az)))))
 (by delta bu;exact(ai (aH 5 sc_read_parts.nd (aG D_read_part (hr.mono (by omega)) (by rfl) (ae (aa 0) (ae (aa 4) (ae (aa 2) ar)))))
 (ai (kY (j4 3 (aP (aa 5) ah)))
 (aj (aH 4 sc_read_parts.nd (aP (aa 5) ah)))))))
 (aj (aM (i6 (i5 (dS (li D_mk_Parts (hr.mono (by omega)) (by rfl) (ae (aa 3) ar)) (dS (aa 4) kC))))))))))
theorem oJ (D:Def K mg "read_parts" dJ ["text","start","depth"]) (B:Bn mg) (E_read_times:Def K mg "read_times" cQ ["text","place","depth"]) (E_read_back:Def K mg "read_back" dw ["text","place","depth"]) (E_read_part:Def K mg "read_part" dy ["text","place","depth"]) {t_DEEPEST:Tok} (G_DEEPEST:mg "DEEPEST"=some (.int 30 t_DEEPEST)) (D_behind:Own P w K mg base 1 "behind" ["sign","text","place"] (bQ K bE)) (D_read_number:Own P w K mg base 3 "read_number" ["text","place"] (bQ K aS)) (D_mk_Times:MkOk P w K mg base 2 "Times" ["self","body","number"] (e_ aN)) (D_mk_Back:MkOk P w K mg base 2 "Back" ["self","one","other"] (fJ aN)) (D_is_nail:Own P w K mg base 1 "is_nail" ["thing"] (bQ K bS)) (D_read_piece:Own P w K mg base 4 "read_piece" ["text","place"] (bQ K bA)) (D_mk_Parts:MkOk P w K mg base 2 "Parts" ["self","parts"] (fH aN)):Own P w K mg base 104 "read_parts" ["text","start","depth"] (bQ K cU):=ij D B E_read_times E_read_back E_read_part G_DEEPEST D_behind D_read_number D_mk_Times D_mk_Back D_is_nail D_read_piece D_mk_Parts 33
theorem jt (D:Def K mg "read_parts" dJ ["text","start","depth"]) (B:Bn mg) (E_read_times:Def K mg "read_times" cQ ["text","place","depth"]) (E_read_back:Def K mg "read_back" dw ["text","place","depth"]) (E_read_part:Def K mg "read_part" dy ["text","place","depth"]) {t_DEEPEST:Tok} (G_DEEPEST:mg "DEEPEST"=some (.int 30 t_DEEPEST)) (D_behind:Own P w K mg base 1 "behind" ["sign","text","place"] (bQ K bE)) (D_read_number:Own P w K mg base 3 "read_number" ["text","place"] (bQ K aS)) (D_mk_Times:MkOk P w K mg base 2 "Times" ["self","body","number"] (e_ aN)) (D_mk_Back:MkOk P w K mg base 2 "Back" ["self","one","other"] (fJ aN)) (D_is_nail:Own P w K mg base 1 "is_nail" ["thing"] (bQ K bS)) (D_read_piece:Own P w K mg base 4 "read_piece" ["text","place"] (bQ K bA)) (D_mk_Parts:MkOk P w K mg base 2 "Parts" ["self","parts"] (fH aN)) (R_behind:OwnR P w K mg base 1 "behind" ["sign","text","place"] (nw K bR)) (XX:XF K mg):∀n:Nat,OwnR P w K mg base (4+3*n+1) "read_parts" ["text","start","depth"] (nw K (bp n))
 | 0=>sQ (mk:=true) (al:=true) (r:=fun _=>none) D sc_read_parts rfl rfl (by decide) fun f cdv A outer s H E hr=>fun _ _ _ _ _ _ _ _ _ _ e _=>nomatch e
 |n+1=>by
  have DS:=ij D B E_read_times E_read_back E_read_part G_DEEPEST D_behind D_read_number D_mk_Times D_mk_Back D_is_nail D_read_piece D_mk_Parts n
  have RS:=jt D B E_read_times E_read_back E_read_part G_DEEPEST D_behind D_read_number D_mk_Times D_mk_Back D_is_nail D_read_piece D_mk_Parts R_behind XX n
  have hk:4≤4+3*n+1:=by omega
  show OwnR P w K mg base (4+3*(n+1)+1) "read_parts" ["text","start","depth"] (nw K (jL 3 6 (cE (a9 n) (bp n))))
  rw[show 4+3*(n+1)+1=4+3*n+1+3 by omega]
  generalize a9 n=self at DS ⊢
  generalize bp n=rself at RS ⊢
  generalize 4+3*n+1=k at DS RS hk ⊢
  have D_read_times:=ko DS hk E_read_times B D_behind D_read_number D_mk_Times
  have R_read_times:=nH DS hk RS E_read_times B D_behind D_read_number D_mk_Times R_behind
  have D_read_back:=lD DS hk E_read_back B D_behind D_mk_Back
  have R_read_back:=oH DS hk RS E_read_back B D_behind D_mk_Back R_behind
  have D_read_part:=lH DS hk E_read_part B D_is_nail D_read_piece D_read_times D_read_back
  have R_read_part:=oI DS hk RS E_read_part B D_is_nail D_read_piece D_read_times D_read_back R_read_times R_read_back XX
  obtain⟨C_NoText,m_NoText,t_NoText,z_NoText⟩:=XX.c_NoText
  refine sQ (mk:=true) (al:=true) (k:=k+2) (r:=cE self rself) D sc_read_parts rfl rfl (by decide) fun f cdv A outer s H E hr=>?_
  delta cE
  exact(ms (cw (pq (fv .gt (aa 2) (lh (by rfl) (by exact G_DEEPEST))) (cw (jK (by rfl) (by rfl) z_NoText))))
 (hZ (bB (fv .gt (aa 2) (lh (by rfl) (by exact G_DEEPEST)))
 (aj gs)
 aY)
 (hZ (aH 3 sc_read_parts.nd (dH DL.nil))
 (hZ (aH 4 sc_read_parts.nd (aa 1))
 (cw (xB rfl rfl (fun W=>by delta aX;exact(io (iE (fv .lt (aa 4) (fk (by rfl) (by exact B.len) (ae (aa 0) ar))) (gd (sJ (aP (aa 0) (aa 4)) az))))) (by delta bu;exact(ai (aH 5 sc_read_parts.nd (aG D_read_part (hr.mono (by omega)) (by rfl) (ae (aa 0) (ae (aa 4) (ae (aa 2) ar)))))
 (ai (kY (j4 3 (aP (aa 5) ah)))
 (aj (aH 4 sc_read_parts.nd (aP (aa 5) ah)))))) (fun W=>(cw (i9 (fK R_read_part (hr.mono (by omega)) (by rfl) (ae (aa 0) (ae (aa 4) (ae (aa 2) ar)))))))))))))
theorem nI (D:Def K mg "read_parts" dJ ["text","start","depth"]) (B:Bn mg) (E_read_times:Def K mg "read_times" cQ ["text","place","depth"]) (E_read_back:Def K mg "read_back" dw ["text","place","depth"]) (E_read_part:Def K mg "read_part" dy ["text","place","depth"]) {t_DEEPEST:Tok} (G_DEEPEST:mg "DEEPEST"=some (.int 30 t_DEEPEST)) (D_behind:Own P w K mg base 1 "behind" ["sign","text","place"] (bQ K bE)) (D_read_number:Own P w K mg base 3 "read_number" ["text","place"] (bQ K aS)) (D_mk_Times:MkOk P w K mg base 2 "Times" ["self","body","number"] (e_ aN)) (D_mk_Back:MkOk P w K mg base 2 "Back" ["self","one","other"] (fJ aN)) (D_is_nail:Own P w K mg base 1 "is_nail" ["thing"] (bQ K bS)) (D_read_piece:Own P w K mg base 4 "read_piece" ["text","place"] (bQ K bA)) (D_mk_Parts:MkOk P w K mg base 2 "Parts" ["self","parts"] (fH aN)) (R_behind:OwnR P w K mg base 1 "behind" ["sign","text","place"] (nw K bR)) (XX:XF K mg):OwnR P w K mg base 104 "read_parts" ["text","start","depth"] (nw K cV):=jt D B E_read_times E_read_back E_read_part G_DEEPEST D_behind D_read_number D_mk_Times D_mk_Back D_is_nail D_read_piece D_mk_Parts R_behind XX 33
abbrev nJ:Stmt:=hJ 37
theorem sc_read:FnScope ["text","found"] ["text"] (au nJ):=⟨rfl,rfl,rfl,by decide+kernel,rfl,by decide+kernel,by decide+kernel⟩
theorem Ab (D:Def K mg "read" nJ ["text"]) (B:Bn mg) (D_read_parts:Own P w K mg base 104 "read_parts" ["text","start","depth"] (bQ K cU)) (R_read_parts:OwnR P w K mg base 104 "read_parts" ["text","start","depth"] (nw K cV)) (XX:XF K mg):Own P w K mg base 105 "read" ["text"] (bQ K jh):=by
 obtain⟨C_NoText,m_NoText,t_NoText,z_NoText⟩:=XX.c_NoText
 delta jh
 refine eU (g:=p3) D sc_read rfl rfl (by decide) fun f cdv A outer s H E hr=>?_
 delta p3
 exact(ai (bB (fE (dG (i3 .str (by rfl) (by exact B.isinstance) (aa 0) (by rfl) (by exact B.str) PyProof.Rows.boot_str)))
 (aj gs)
 aY)
 (ai (aH 1 sc_read.nd (aG D_read_parts (hr.mono (by decide)) (by rfl) (ae (aa 0) (ae ah (ae ah ar)))))
 (ai (bB (fv .lt (aP (aa 1) ah) (fk (by rfl) (by exact B.len) (ae (aa 0) ar)))
 (aj gs)
 aY)
 (aj (aM (aP (aa 1) ah))))))
theorem xK (D:Def K mg "read" nJ ["text"]) (B:Bn mg) (D_read_parts:Own P w K mg base 104 "read_parts" ["text","start","depth"] (bQ K cU)) (R_read_parts:OwnR P w K mg base 104 "read_parts" ["text","start","depth"] (nw K cV)) (XX:XF K mg):OwnR P w K mg base 105 "read" ["text"] (nw K eO):=by
 obtain⟨C_NoText,m_NoText,t_NoText,z_NoText⟩:=XX.c_NoText
 delta eO
 refine sQ (mk:=true) (al:=true) (r:=kM) D sc_read rfl rfl (by decide) fun f cdv A outer s H E hr=>?_
 delta kM
 exact(ms (cw (pq (fE (dG (i3 .str (by rfl) (by exact B.isinstance) (aa 0) (by rfl) (by exact B.str) PyProof.Rows.boot_str))) (cw (jK (by rfl) (by rfl) z_NoText))))
 (hZ (bB (fE (dG (i3 .str (by rfl) (by exact B.isinstance) (aa 0) (by rfl) (by exact B.str) PyProof.Rows.boot_str)))
 (aj gs)
 aY)
 (ms (cw (i9 (fK R_read_parts (hr.mono (by decide)) (by rfl) (ae (aa 0) (ae ah (ae ah ar))))))
 (hZ (aH 1 sc_read.nd (aG D_read_parts (hr.mono (by decide)) (by rfl) (ae (aa 0) (ae ah (ae ah ar)))))
 (cw (pq (fv .lt (aP (aa 1) ah) (fk (by rfl) (by exact B.len) (ae (aa 0) ar))) (cw (jK (by rfl) (by rfl) z_NoText))))))))
abbrev jk:Stmt:=hJ 61
theorem sc_law_said:FnScope ["_law_thing","_law_found","_law_e"] ["_law_thing"] (au jk):=⟨rfl,rfl,rfl,by decide+kernel,rfl,by decide+kernel,by decide+kernel⟩
theorem rG (D:Def K mg "_law_said" jk ["_law_thing"]) (B:Bn mg) (D_read:Own P w K mg base 105 "read" ["text"] (bQ K jh)) (R_read:OwnR P w K mg base 105 "read" ["text"] (nw K eO)) (D_law_others:OwnH P w K mg base 1 "_law_others" ["_law_e"] (bQ K dM)) (XX:XF K mg):Own P w K mg base 106 "_law_said" ["_law_thing"] (bQ K bX):=by
 obtain⟨C_HangError,m_HangError,e_HangError⟩:=XX.e_HangError
 obtain⟨C_NoText,m_NoText,t_NoText,z_NoText⟩:=XX.c_NoText
 obtain⟨v_ValueError,t_ValueError⟩:=XX.v_ValueError
 delta bX
 refine eU (g:=ib) D sc_law_said rfl rfl (by decide) fun f cdv A outer s H E hr=>?_
 delta ib
 exact(ai (aH 1 sc_law_said.nd dh)
 (ai (zP rfl sc_law_said.nd rfl rfl rfl (by rfl) (by exact m_HangError) e_HangError (aj (aH 1 sc_law_said.nd (aG D_read (hr.mono (by decide)) (by rfl) (ae (aa 0) ar)))) (fun W=>(cw (i9 (fK R_read (hr.mono (by decide)) (by rfl) (ae (aa 0) ar))))) (fun ea oe C hx=>(ai (bB (io (gr (fE (dG (gf (by rfl) (by exact B.isinstance) (aa 2) (by rfl) (by exact m_NoText) t_NoText))) (gr (fE (dG (zQ (by rfl) (by exact B.isinstance) (aa 2) (by rfl) (by exact v_ValueError) PyProof.Rows.Boot.«ValueError» t_ValueError))) (gA (Cu kW (zR D_law_others ((Room.mark hr _).mono (by decide)) (by rfl) (ae (aa 2) ar)))))))
 (aj (aM az))
 aY)
 (aj (aM dh)))))
 (aj (aM (aa 1)))))
abbrev dN:Stmt:=hJ 55
theorem sc_law_bracket:FnScope ["_law_words_here","_law_at_here","_law_deep","_law_one","_law_end","_law_found","_law_other"] ["_law_words_here","_law_at_here","_law_deep"] (au dN):=⟨rfl,rfl,rfl,by decide+kernel,rfl,by decide+kernel,by decide+kernel⟩
theorem nK {k:Nat} {self:List PyData→Option Sl} (DS:Own P w K mg base k "_law_row" ["_law_words_here","_law_at_here","_law_deep"] (bQ K self)) (hk:1≤k) (D:Def K mg "_law_bracket" dN ["_law_words_here","_law_at_here","_law_deep"]) (B:Bn mg) (D_law_number:Own P w K mg base 1 "_law_number" ["_law_words_here","_law_at_here"] (bQ K aL)):Own P w K mg base (k+1) "_law_bracket" ["_law_words_here","_law_at_here","_law_deep"] (bQ K (aO self)):=by
 delta aO
 refine eU (k:=k+0) (g:=bV self) D sc_law_bracket rfl rfl (by decide) fun f cdv A outer s H E hr=>?_
 delta bV
 exact(ai (aH 3 sc_law_bracket.nd (aG DS (hr.mono (by omega)) (by rfl) (ae (aa 0) (ae (aA (aa 1) ah) (ae (aA (aa 2) ah) ar)))))
 (ai (bB (io (gr (kA (aa 3) dh) (gA (dB hr.units (aa 2) ah))))
 (aj (aM dh))
 aY)
 (ai (aH 4 sc_law_bracket.nd (aP (aa 3) ah))
 (ai (bB (io (iE (dB hr.units (aP (aa 0) (aa 1)) az) (gd (dB hr.units (eR (aa 0) (b5 (aa 4)) (b5 (aA (aa 4) ah))) az))))
 (ai (aH 5 sc_law_bracket.nd (aG D_law_number (hr.mono (by omega)) (by rfl) (ae (aa 0) (ae (aA (aa 4) ah) ar))))
 (ai (bB (kA (aa 5) dh)
 (aj (aM dh))
 aY)
 (aj (aM (gB (DL.cons (gB (DL.cons az rfl (DL.cons (aP (aa 3) ah) rfl (DL.cons (aP (aa 5) ah) rfl DL.nil)))) rfl (DL.cons (aP (aa 5) ah) rfl DL.nil)))))))
 aY)
 (ai (bB (io (gr (dB hr.units (aP (aa 0) (aa 1)) az) (gA (ml hr.units (eR (aa 0) (b5 (aa 4)) (b5 (aA (aa 4) ah))) az))))
 (aj (aM dh))
 aY)
 (ai (aH 6 sc_law_bracket.nd (aG DS (hr.mono (by omega)) (by rfl) (ae (aa 0) (ae (aA (aa 4) ah) (ae (aA (aa 2) ah) ar)))))
 (ai (bB (io (gr (kA (aa 6) dh) (gA (ml hr.units (eR (aa 0) (b5 (aP (aa 6) ah)) (b5 (aA (aP (aa 6) ah) ah))) az))))
 (aj (aM dh))
 aY)
 (aj (aM (gB (DL.cons (gB (DL.cons az rfl (DL.cons (aP (aa 3) ah) rfl (DL.cons (aP (aa 6) ah) rfl DL.nil)))) rfl (DL.cons (aA (aP (aa 6) ah) ah) rfl DL.nil))))))))))))
abbrev iR:Stmt:=hJ 56
theorem sc_law_row:FnScope ["_law_words_here","_law_at_here","_law_deep","_law_parts","_law_found"] ["_law_words_here","_law_at_here","_law_deep"] (au iR):=⟨rfl,rfl,rfl,by decide+kernel,rfl,by decide+kernel,by decide+kernel⟩
theorem mw (D:Def K mg "_law_row" iR ["_law_words_here","_law_at_here","_law_deep"]) (B:Bn mg) (E_law_bracket:Def K mg "_law_bracket" dN ["_law_words_here","_law_at_here","_law_deep"]) (D_law_number:Own P w K mg base 1 "_law_number" ["_law_words_here","_law_at_here"] (bQ K aL)):∀n:Nat,Own P w K mg base (1+2*n+1) "_law_row" ["_law_words_here","_law_at_here","_law_deep"] (bQ K (bT n))
 | 0=>jG D sc_law_row
 |n+1=>by
  have DS:=mw D B E_law_bracket D_law_number n
  have hk:1≤1+2*n+1:=by omega
  show Own P w K mg base (1+2*(n+1)+1) "_law_row" ["_law_words_here","_law_at_here","_law_deep"] (bQ K (bP 3 5 (fB (bT n))))
  rw[show 1+2*(n+1)+1=1+2*n+1+2 by omega]
  generalize bT n=self at DS ⊢
  generalize 1+2*n+1=k at DS hk ⊢
  have D_law_bracket:=nK DS hk E_law_bracket B D_law_number
  refine eU (k:=k+1) (g:=fB self) D sc_law_row rfl rfl (by decide) fun f cdv A outer s H E hr=>?_
  delta fB
  exact(ai (aH 3 sc_law_row.nd (dH DL.nil))
 (ai (lf PassesOwn.never (by delta bH;exact(io (iE (fv .lt (aa 1) (fk (by rfl) (by exact B.len) (ae (aa 0) ar))) (gd (sJ (aP (aa 0) (aa 1)) az)))))
 (by delta aT;exact(ai (bB (io (iE (qV (aP (aa 0) (aa 1)) az) (gd (fv .lt (aa 2) ah))))
 (aj (aH 4 sc_law_row.nd (aG D_law_bracket (hr.mono (by omega)) (by rfl) (ae (aa 0) (ae (aa 1) (ae (aa 2) ar))))))
 (aj (bB (qV (aP (aa 0) (aa 1)) az)
 (ai (aH 4 sc_law_row.nd (aG D_law_number (hr.mono (by omega)) (by rfl) (ae (aa 0) (ae (aA (aa 1) ah) ar))))
 (aj (bB (uc (aa 4) dh)
 (aj (aH 4 sc_law_row.nd (gB (DL.cons (gB (DL.cons az rfl (DL.cons (aP (aa 0) (aa 1)) rfl (DL.cons (aP (aa 4) ah) rfl DL.nil)))) rfl (DL.cons (aP (aa 4) ah) rfl DL.nil)))))
 aY)))
 (aj (aH 4 sc_law_row.nd dh)))))
 (ai (bB (kA (aa 4) dh)
 (aj (aM dh))
 aY)
 (ai (kY (j4 3 (aP (aa 4) ah)))
 (aj (aH 1 sc_law_row.nd (aP (aa 4) ah))))))))
 (aj (aM (gB (DL.cons (zY 3) rfl (DL.cons (aa 1) rfl DL.nil)))))))
theorem td (D:Def K mg "_law_row" iR ["_law_words_here","_law_at_here","_law_deep"]) (B:Bn mg) (E_law_bracket:Def K mg "_law_bracket" dN ["_law_words_here","_law_at_here","_law_deep"]) (D_law_number:Own P w K mg base 1 "_law_number" ["_law_words_here","_law_at_here"] (bQ K aL)):Own P w K mg base 68 "_law_row" ["_law_words_here","_law_at_here","_law_deep"] (bQ K fo):=mw D B E_law_bracket D_law_number 33
abbrev jm:Stmt:=hJ 57
theorem sc_law_read:FnScope ["_law_words_here","_law_found"] ["_law_words_here"] (au jm):=⟨rfl,rfl,rfl,by decide+kernel,rfl,by decide+kernel,by decide+kernel⟩
theorem rH (D:Def K mg "_law_read" jm ["_law_words_here"]) (B:Bn mg) (D_law_row:Own P w K mg base 68 "_law_row" ["_law_words_here","_law_at_here","_law_deep"] (bQ K fo)):Own P w K mg base 69 "_law_read" ["_law_words_here"] (bQ K cu):=by
 delta cu
 refine eU (g:=f8) D sc_law_read rfl rfl (by decide) fun f cdv A outer s H E hr=>?_
 delta f8
 exact(ai (aH 1 sc_law_read.nd (aG D_law_row (hr.mono (by decide)) (by rfl) (ae (aa 0) (ae ah (ae ah ar)))))
 (ai (bB (io (gr (kA (aa 1) dh) (gA (fv .lt (aP (aa 1) ah) (fk (by rfl) (by exact B.len) (ae (aa 0) ar))))))
 (aj (aM dh))
 aY)
 (aj (aM (aP (aa 1) ah)))))
abbrev jn:Stmt:=hJ 62
theorem sc_law_same:FnScope ["_law_words_here","_law_due","_law_found","_law_many"] ["_law_words_here"] (au jn):=⟨rfl,rfl,rfl,by decide+kernel,rfl,by decide+kernel,by decide+kernel⟩
theorem rJ (D:Def K mg "_law_same" jn ["_law_words_here"]) (B:Bn mg) (D_law_read:Own P w K mg base 69 "_law_read" ["_law_words_here"] (bQ K cu)) (D_law_said:Own P w K mg base 106 "_law_said" ["_law_thing"] (bQ K bX)) (D_eqo:rl K ["Piece","Parts","Times","Back"]) (D_law_count:Own P w K mg base 34 "_law_count" ["_law_parts"] (bQ K gM)) (D_m_pieces:DispM P w K mg base 1 "pieces" aN) (D_law_laid:Own P w K mg base 35 "_law_laid" ["_law_parts"] (bQ K iw)) (D_m_cord:DispM P w K mg base 144 "cord" jS) (D_law_right:Own P w K mg base 1 "_law_right" ["_law_found","_law_due"] (bQ K dI)):Own P w K mg base 145 "_law_same" ["_law_words_here"] (bQ K bD):=by
 delta bD
 refine eU (g:=f9) D sc_law_same rfl rfl (by decide) fun f cdv A outer s H E hr=>?_
 delta f9
 exact(ai (aH 1 sc_law_same.nd (aG D_law_read (hr.mono (by decide)) (by rfl) (ae (aa 0) ar)))
 (ai (aH 2 sc_law_same.nd (aG D_law_said (hr.mono (by decide)) (by rfl) (ae (aa 0) ar)))
 (ai (bB (io (gr (kA (aa 1) dh) (gr (kA (aa 2) dh) (gA (CA D_eqo hr.units (aa 2) az)))))
 (aj (aM (sC (wH (aa 1) dh) (sy (wH (aa 2) dh)))))
 aY)
 (ai (aH 3 sc_law_same.nd (aG D_law_count (hr.mono (by decide)) (by rfl) (ae (aa 1) ar)))
 (ai (bB (ml hr.units (fG D_m_pieces (hr.mono (by decide)) (aa 2)) (aa 3))
 (aj (aM kW))
 aY)
 (aj (aM (DN (DV .gt (aa 3) ah) (sy (aG D_law_right (hr.mono (by decide)) (by rfl) (ae (fG D_m_cord (hr.mono (by decide)) (aa 2)) (ae (aG D_law_laid (hr.mono (by decide)) (by rfl) (ae (aa 1) ar)) ar))))))))))))
abbrev nM:Stmt:=hJ 63
theorem sc_law:FnScope ["_law_script","_law_good","_law_way","_law_line","_law_k","_law_thing"] ["_law_script"] (au nM):=⟨rfl,rfl,rfl,by decide+kernel,rfl,by decide+kernel,by decide+kernel⟩
theorem CC {f0:Addr} {fd:FuncData} (D:Fun K "law" "law" nM f0 fd) (B:Bn mg) (D_law_at:Own P w K mg base 1 "_law_at" ["_law_script","_law_k"] (bQ K bw)) (D_law_words:Own P w K mg base 6 "_law_words" ["_law_cell","_law_deep","_law_k"] (bQ K fN)) (D_law_within:Own P w K mg base 2 "_law_within" ["_law_words_here","_law_many","_law_cell"] (bQ K cR)) (D_law_spoiled:Own P w K mg base 2 "_law_spoiled" ["_law_words_here","_law_way","_law_spot","_law_cell"] (bQ K a8)) (D_law_same:Own P w K mg base 145 "_law_same" ["_law_words_here"] (bQ K bD)) (D_law_said:Own P w K mg base 106 "_law_said" ["_law_thing"] (bQ K bX)):FnOk P w K mg base jA 146 f0 fd ["_law_script"] (bQ K kN):=by
 delta kN
 refine GG (g:=pw) D sc_law rfl rfl (by decide) fun cdv A outer s H E hr=>?_
 delta pw
 exact(ai (aH 1 sc_law.nd (aG D_law_words (hr.mono (by decide)) (by rfl) (ae (aG D_law_at (hr.mono (by decide)) (by rfl) (ae (aa 0) (ae ah ar))) (ae ah (ae ah ar)))))
 (ai (bB (dB hr.units (dO (aG D_law_at (hr.mono (by decide)) (by rfl) (ae (aa 0) (ae ah ar))) ah) ah)
 (aj (aH 1 sc_law.nd (aG D_law_within (hr.mono (by decide)) (by rfl) (ae (aa 1) (ae (aA ah (dO (iZ (aG D_law_at (hr.mono (by decide)) (by rfl) (ae (aa 0) (ae ah ar))) ah) ah)) (ae (iZ (aG D_law_at (hr.mono (by decide)) (by rfl) (ae (aa 0) (ae ah ar))) ah) ar))))))
 aY)
 (ai (aH 2 sc_law.nd (dO (aG D_law_at (hr.mono (by decide)) (by rfl) (ae (aa 0) (ae ah ar))) ah))
 (ai (aH 3 sc_law.nd (aG D_law_spoiled (hr.mono (by decide)) (by rfl) (ae (aa 1) (ae (aa 2) (ae (aG D_law_at (hr.mono (by decide)) (by rfl) (ae (aa 0) (ae ah ar))) (ae (aG D_law_at (hr.mono (by decide)) (by rfl) (ae (aa 0) (ae ah ar))) ar))))))
 (ai (kB PassesOwn.never (by rfl) (lU (by rfl) (by exact B.range) (ae ah ar)) (by delta ie;exact(eL 4 sc_law.nd))
 (by delta ig;exact(aj (bB (io (gr (fE (dG (aG D_law_same (hr.mono (by decide)) (by rfl) (ae (aa 1) ar)))) (gA (fE (dG (aG D_law_same (hr.mono (by decide)) (by rfl) (ae (aa 3) ar)))))))
 (aj (aM kW))
 aY))))
 (ai (bB (dB hr.units (aa 2) ah)
 (ai (aH 5 sc_law.nd (aP (dH (DL.cons dh rfl (DL.cons ah rfl (DL.cons kW rfl (DL.cons (dH (DL.cons (aa 1) rfl DL.nil)) rfl (DL.cons (gB (DL.cons az rfl (DL.cons ah rfl DL.nil))) rfl (DL.cons D0 rfl DL.nil))))))) (dO (aG D_law_at (hr.mono (by decide)) (by rfl) (ae (aa 0) (ae ah ar))) ah)))
 (aj (bB (uc (aG D_law_said (hr.mono (by decide)) (by rfl) (ae (aa 5) ar)) dh)
 (aj (aM kW))
 aY)))
 aY)
 (aj (aM (aG D_law_same (hr.mono (by decide)) (by rfl) (ae (aa 1) ar))))))))))
end
end Nhk63
namespace Nhk63
open PySem L2 Nh PL
theorem aI(w:List Nat):(⟨w.toArray⟩:Str).length=w.length:=by show w.toArray.size=_;simp
theorem vM(ns:List Int)(k:Nat):bw [.list (ns.map .int),.int k]=some (.sh (.int (ns.getD k 0))):=by
 simp only[bw,bP,List.length_cons,List.length_nil,Nat.zero_add,Nat.reduceAdd,bC,lv,ay,aK,a_,ag,ad,av,List.map_cons,List.map_nil,Nat.sub_self,List.replicate,List.cons_append,List.nil_append,List.getElem?_cons_succ,List.getElem?_cons_zero,Sl.isBr,Bool.false_and,Bool.false_eq_true,bJ,af,ap,Option.map_some,if_false,cG,bz,look,Sl.val,ba,Cm.i,Cm.s,Option.bind_some,ax,aF,bq,hot,aV,aB,pC,bt,aR,if_true]
 by_cases h:k < ns.length
 ·simp[h,aW,aJ,bt,aR]
 ·simp[h,List.getElem?_eq_none (Nat.le_of_not_lt h),aJ,bt,aR]
theorem CD(cell k:Int)(a:∀i:Int,dA i k=true)(b:∀i j:Int,dA (i % 2305843009213693951 / 8191+k*k) j=true)(c:∀j:Int,dA (cell % 2305843009213693951+131*k+17) j=true):∃z:Int,bF [.int cell,.int k]=some (.sh (.int z)):=by
 have d1:kX 8191=true∧kX 7=true:=by decide
 simp only[bF,bP,List.length_cons,List.length_nil,Nat.zero_add,Nat.reduceAdd,bC,j6,ay,aD,ag,ad,av,List.map_cons,List.map_nil,Nat.reduceSub,List.replicate,List.cons_append,List.nil_append,List.getElem?_cons_zero,Sl.isBr,Bool.false_and,Bool.false_eq_true,pC,cF,bz,look,Sl.val,iD,Option.bind_some,if_false,Int.reduceLT,decide_true,if_true,Option.map_some,dX,hot,aV,Bool.not_false,Bool.true_or,Bool.and_true,aE,List.getElem?_cons_succ,a,PL.settle,frz,frzAll,Nat.reduceLT,List.set_cons_succ,List.set_cons_zero,aF,gq,c,d1.1,b,d1.2,bt,aR,aJ]
 exact⟨_,rfl⟩
theorem ik(cell:Int)(k:Nat)(h:k≤100000):∃z:Int,bF [.int cell,.int k]=some (.sh (.int z)):=by
 refine CD cell k (fun i=>zD (by omega) (by omega)) (fun i j=>?_) fun j=>?_
 ·have h1:=Int.emod_nonneg i (show(2305843009213693951:Int)≠0 by omega)
  have h2:=Int.emod_lt_of_pos i (show(0:Int) < 2305843009213693951 by omega)
  have kk:(k:Int)*k≤100000*100000:=Int.mul_le_mul (by omega) (by omega) (by omega) (by omega)
  have kn:0≤(k:Int)*k:=Int.mul_nonneg (by omega) (by omega)
  generalize i % 2305843009213693951=z at h1 h2
  exact gG (by omega) (by omega)
 ·have h1:=Int.emod_nonneg cell (show(2305843009213693951:Int)≠0 by omega)
  have h2:=Int.emod_lt_of_pos cell (show(0:Int) < 2305843009213693951 by omega)
  generalize cell % 2305843009213693951=z at h1 h2
  exact gG (by omega) (by omega)
theorem ju:∀(d:List Pc) (x0 x1:Sl),ki dU mn dt (d.map cK) [x0,x1]=some ((d.map fun p=>((p.1,-p.2):Pc)).map cK)
 |[],x0,x1=>rfl
 |p::d,x0,x1=>by
  have e:(dU (cK p) [x0,x1])=some [.sh (.str ⟨#[p.1]⟩),.sh (.int p.2)]:=rfl
  have e2:dt [.sh (.str ⟨#[p.1]⟩),.sh (.int p.2)]=some (.sh (cK (p.1,-p.2)),[.sh (.str ⟨#[p.1]⟩),.sh (.int p.2)]):=by
   simp only[dt,c8,aw,ad,List.getElem?_cons_zero,frz,gE,look,Sl.val,mD,bi,Option.map_some,Option.bind_some,List.getElem?_cons_succ,List.length_cons,List.length_nil,Nat.zero_add,Nat.reduceAdd,Nat.reduceLeDiff,if_true,cK]
  rw[List.map_cons,ki,e,Option.bind_some]
  simp only[mn,frz,Option.bind_some,e2,ju d,Option.map_some,if_true,List.map_cons]
theorem gC(c:List Pc)(h:c.length≤1000000):b6 [.list (c.map cK)]=some (.ow ((NH.contr c).map cK)):=by
 have hl:(NH.contr c).length=c.length:=NH.bN c
 have e:(c.reverse.map fun p=>((p.1,-p.2):Pc))=NH.contr c:=rfl
 have k:=ju c.reverse .no .no
 rw[e,List.map_reverse]at k
 simp only[b6,bP,List.length_cons,List.length_nil,Nat.zero_add,bC,fM,aF,nk,qQ,ad,av,List.map_cons,List.map_nil,Nat.sub_self,List.replicate,List.cons_append,List.nil_append,List.getElem?_cons_zero,frz,Option.bind_some,lV,uf,k,d_,List.length_map,hl,h,decide_true,Bool.and_true,if_true,bt,aR]
theorem my:∀(d:List Pc) (x0 x1:Sl),ki gh mn eV (d.map cK) [x0,x1]=some ((d.map fun p=>((p.1,-p.2):Pc)).map cK)
 |[],x0,x1=>rfl
 |p::d,x0,x1=>by
  have e:(gh (cK p) [x0,x1])=some [.sh (.str ⟨#[p.1]⟩),.sh (.int p.2)]:=rfl
  have e2:eV [.sh (.str ⟨#[p.1]⟩),.sh (.int p.2)]=some (.sh (cK (p.1,-p.2)),[.sh (.str ⟨#[p.1]⟩),.sh (.int p.2)]):=by
   simp only[eV,c8,aw,ad,List.getElem?_cons_zero,frz,gE,look,Sl.val,mD,bi,Option.map_some,Option.bind_some,List.getElem?_cons_succ,List.length_cons,List.length_nil,Nat.zero_add,Nat.reduceAdd,Nat.reduceLeDiff,if_true,cK]
  rw[List.map_cons,ki,e,Option.bind_some]
  simp only[mn,frz,Option.bind_some,e2,my d,Option.map_some,if_true,List.map_cons]
theorem jV(c:List Pc)(h:c.length≤1000000):dq [.list (c.map cK)]=some (.ow ((NH.contr c).map cK)):=by
 have hl:(NH.contr c).length=c.length:=NH.bN c
 have e:(c.reverse.map fun p=>((p.1,-p.2):Pc))=NH.contr c:=rfl
 have k:=my c.reverse .no .no
 rw[e,List.map_reverse]at k
 simp only[dq,bP,List.length_cons,List.length_nil,Nat.zero_add,bC,jc,aF,nk,qQ,ad,av,List.map_cons,List.map_nil,Nat.sub_self,List.replicate,List.cons_append,List.nil_append,List.getElem?_cons_zero,frz,Option.bind_some,lV,uf,k,d_,List.length_map,hl,h,decide_true,Bool.and_true,if_true,bt,aR]
theorem lI(x0 x1:Sl):∀(W:List Pc) (a b:Sl),NailsOk W→∃a' b',dL eD eF (k_ (W.map cK) (W.map cK)) [x0,x1,a,b]=some ([x0,x1,a',b'],.nx)
 |[],a,b,_=>⟨a,b,rfl⟩
 |p::W,a,b,h=>by
  have q:=CB (h p (List.mem_cons_self ..)) (h p (List.mem_cons_self ..))
  rw[decide_eq_true rfl]at q
  have q2:sx (.tuple [.str ⟨#[p.1]⟩,.int p.2]) (.tuple [.str ⟨#[p.1]⟩,.int p.2])=some true:=q
  have e:(eD (.tuple [cK p,cK p]) [x0,x1,a,b]).bind eF=some ([x0,x1,.sh (cK p),.sh (cK p)],.nx):=by
   simp only[eD,o0,cK,List.length_cons,List.length_nil,Nat.zero_add,Nat.reduceAdd,jC,dZ,Nat.reduceLT,List.set_cons_succ,List.set_cons_zero,if_true,Option.bind_some,oZ,List.isEmpty_nil,eF,jB,ay,aK,cz,cA,cL,gE,ad,List.getElem?_cons_succ,List.getElem?_cons_zero,look,Sl.val,ip,Ty.is,ud,Option.map_some,dY,Bool.not_true,a_,ag,bJ,af,Sl.isBr,Bool.false_and,Bool.false_eq_true,ap,if_false,cG,pC,bz,bq,hot,aV,ax,Int.cast_ofNat_Int,aQ,decide_true,eQ,aF,aB,cN,q2]
  obtain⟨a',b',ih⟩:=lI x0 x1 W (.sh (cK p)) (.sh (cK p)) fun r hr=>h r (List.mem_cons_of_mem _ hr)
  refine⟨a',b',?_⟩
  rw[List.map_cons,k_,dL,e]
  exact ih
theorem qh(W:List Pc)(h:NailsOk W)(hl:W.length≤100000):dI [.list (W.map cK),.list (W.map cK)]=some (.sh (.bool true)):=by
 obtain⟨a,b,e⟩:=lI (.sh (.list (W.map cK))) (.sh (.list (W.map cK))) W .no .no h
 have lb:W.length≤1000000:=by omega
 simp only[dI,bP,List.length_cons,List.length_nil,Nat.zero_add,Nat.reduceAdd,bC,iv,ay,aK,cz,cA,cL,gE,ad,av,List.map_cons,List.map_nil,Nat.reduceSub,List.replicate,List.cons_append,List.nil_append,List.getElem?_cons_zero,look,Sl.val,ip,Ty.is,ud,Option.bind_some,Option.map_some,dY,Bool.not_true,a_,ag,bJ,af,Sl.isBr,Bool.false_and,Bool.false_eq_true,ap,if_false,cG,jB,bz,ax,List.length_map,List.getElem?_cons_succ,aQ,decide_true,aF,pC,aB,kd,wY,frz,e,bt,aR,aJ,if_true]
theorem rK:(Str.ofString "0").cps.toList=[48]:=by decide+kernel
theorem xL:(Str.ofString "9").cps.toList=[57]:=by decide+kernel
theorem A_:(Str.ofString "-").cps.toList=[45]:=by decide+kernel
theorem ma(a b:Nat):decide ([a] < [b])=decide (a < b):=by
 by_cases h:a < b
 ·rw[decide_eq_true h,decide_eq_true (List.cons_lt_cons_iff.mpr (.inl h))]
 ·rw[decide_eq_false h]
  refine decide_eq_false fun z=>?_
  rcases List.cons_lt_cons_iff.mp z with z |z
  ·omega
  ·exact absurd z.2 (by simp)
def Dg(c:Nat):Prop:=48≤c∧c≤57
def EV(R:List Nat):Prop:=∀c,R.head? =some c→¬Dg c
theorem xM(T:List Nat)(x1:Sl)(n:Nat)(N c:Nat)(hN:T.length=N)(hT:N≤1000000)(hn:n < N)(hc:T[n]? =some c)(d:Dg c):bv [.sh (.str ⟨T.toArray⟩),x1,.sh (.int n)]=some (true,[.sh (.str ⟨T.toArray⟩),x1,.sh (.int n)]):=by
 have h1:decide (c < 48)=false:=decide_eq_false (by have:=d.1;omega)
 have h2:decide (57 < c)=false:=decide_eq_false (by have:=d.2;omega)
 have e1:((n:Int) < (N:Int))=True:=eq_true (by omega)
 simp only[bv,bI,a_,ag,ad,List.getElem?_cons_succ,List.getElem?_cons_zero,Sl.isBr,Bool.false_and,Bool.false_eq_true,bJ,af,ap,Option.map_some,if_false,cG,bz,look,Sl.val,ba,Cm.i,Cm.s,Option.bind_some,ax,aI,hN,hT,if_true,e1,decide_true,cZ,pC,Bool.or_false,bq,hot,aV,aW,hc,xL,ma,h2,Bool.not_false,rK,h1]
theorem xN(T:List Nat)(x1:Sl)(n:Nat)(N c:Nat)(hN:T.length=N)(hT:N≤1000000)(hn:n < N)(hc:T[n]? =some c)(d:¬Dg c):bv [.sh (.str ⟨T.toArray⟩),x1,.sh (.int n)]=some (false,[.sh (.str ⟨T.toArray⟩),x1,.sh (.int n)]):=by
 have e1:((n:Int) < (N:Int))=True:=eq_true (by omega)
 by_cases h:c < 48
 ·have h1:decide (c < 48)=true:=decide_eq_true h
  simp only[bv,bI,a_,ag,ad,List.getElem?_cons_succ,List.getElem?_cons_zero,Sl.isBr,Bool.false_and,Bool.false_eq_true,bJ,af,ap,Option.map_some,if_false,cG,bz,look,Sl.val,ba,Cm.i,Cm.s,Option.bind_some,ax,aI,hN,hT,if_true,e1,decide_true,cZ,pC,Bool.or_false,bq,hot,aV,aW,hc,xL,ma,rK,h1,Bool.not_true]
 ·have h1:decide (c < 48)=false:=decide_eq_false h
  have h2:decide (57 < c)=true:=decide_eq_true (by unfold Dg at d;omega)
  simp only[bv,bI,a_,ag,ad,List.getElem?_cons_succ,List.getElem?_cons_zero,Sl.isBr,Bool.false_and,Bool.false_eq_true,bJ,af,ap,Option.map_some,if_false,cG,bz,look,Sl.val,ba,Cm.i,Cm.s,Option.bind_some,ax,aI,hN,hT,if_true,e1,decide_true,cZ,pC,Bool.or_false,bq,hot,aV,aW,hc,xL,ma,h2,Bool.not_true,rK,h1,Bool.not_false]
theorem xO(T:List Nat)(x1:Sl)(n:Nat)(N:Nat)(hN:T.length=N)(hT:N≤1000000)(hn:¬n < N):bv [.sh (.str ⟨T.toArray⟩),x1,.sh (.int n)]=some (false,[.sh (.str ⟨T.toArray⟩),x1,.sh (.int n)]):=by
 have e1:((n:Int) < (N:Int))=False:=eq_false (by omega)
 simp only[bv,bI,a_,ag,ad,List.getElem?_cons_succ,List.getElem?_cons_zero,Sl.isBr,Bool.false_and,Bool.false_eq_true,bJ,af,ap,Option.map_some,if_false,cG,bz,look,Sl.val,ba,Cm.i,Cm.s,Option.bind_some,ax,aI,hN,hT,if_true,e1,decide_false,cZ,pC,Bool.or_false,bq,hot,aV]
theorem xP(x0 x1:Sl)(n:Nat):dD [x0,x1,.sh (.int n)]=some ([x0,x1,.sh (.int ((n+1:Nat):Int))],.nx):=by
 simp only[dD,aD,ag,ad,List.getElem?_cons_succ,List.getElem?_cons_zero,Sl.isBr,Bool.false_and,Bool.false_eq_true,pC,aE,look,Sl.val,hot,aV,Option.bind_some,Bool.not_false,Bool.true_or,Bool.and_true,if_false,PL.settle,frz,frzAll,List.length_cons,List.length_nil,Nat.zero_add,Nat.reduceAdd,Nat.reduceLT,List.set_cons_succ,List.set_cons_zero,if_true]
 rfl
theorem lJ{T D:List Nat}{n c:Nat}(h:T.drop n=c::D):T[n]? =some c∧n < T.length∧T.drop (n+1)=D:=by
 have hn:n < T.length:=by
  rcases Nat.lt_or_ge n T.length with z |z
  ·exact z
  ·rw[List.drop_of_length_le z]at h;cases h
 rw[List.drop_eq_getElem_cons hn]at h
 injection h with h1 h2
 exact⟨by rw[List.getElem?_eq_getElem hn,h1],hn,h2⟩
theorem xQ(T:List Nat)(x1:Sl)(hT:T.length≤1000000):∀(D R:List Nat) (n:Nat),n≤T.length→T.drop n=D++R→(∀c∈D,Dg c)→EV R→bo bv dD (D.length+1) [.sh (.str ⟨T.toArray⟩),x1,.sh (.int n)]=some ([.sh (.str ⟨T.toArray⟩),x1,.sh (.int ((n+D.length:Nat):Int))],.nx)
 |[],R,n,hn,h,hd,hs=>by
  have e:bv [.sh (.str ⟨T.toArray⟩),x1,.sh (.int n)]=some (false,[.sh (.str ⟨T.toArray⟩),x1,.sh (.int n)]):=by
   cases R with
   |nil=>
    refine xO T x1 n _ rfl hT fun z=>?_
    have:=congrArg List.length h
    simp at this
    omega
   |cons c R=>
    obtain⟨a1,a2,a3⟩:=lJ (by simpa using h)
    exact xN T x1 n _ c rfl hT a2 a1 (hs c rfl)
  rw[bo,e]
  rfl
 |d::D,R,n,hn,h,hd,hs=>by
  obtain⟨a1,a2,a3⟩:=lJ (D:=D++R) (by simpa using h)
  have e:=xM T x1 n _ d rfl hT a2 a1 (hd d (List.mem_cons_self ..))
  rw[bo,e,Option.bind_some]
  simp only[if_true,xP,Option.bind_some]
  have:=xQ T x1 hT D R (n+1) a2 a3 (fun c hc=>hd c (List.mem_cons_of_mem _ hc)) hs
  rw[show n+(d::D).length=n+1+D.length by simp;omega]
  exact this
theorem jW(T D R:List Nat)(n:Nat)(hT:T.length≤1000000)(hn:n≤T.length)(h:T.drop n=D++R)(hd:∀c∈D,Dg c)(hs:EV R):cI [.str ⟨T.toArray⟩,.int n]=some (.sh (.int ((n+D.length:Nat):Int))):=by
 have w:=fq (xQ T (.sh (.int n)) hT D R n hn h hd hs)
 simp only[cI,bP,List.length_cons,List.length_nil,Nat.zero_add,Nat.reduceAdd,bC,gk,ay,aD,ad,av,List.map_cons,List.map_nil,Nat.reduceSub,List.replicate,List.cons_append,List.nil_append,List.getElem?_cons_succ,List.getElem?_cons_zero,PL.settle,frz,frzAll,Option.bind_some,Nat.reduceLT,List.set_cons_succ,List.set_cons_zero,if_true,aF,w,bt,aR,aJ]
theorem Ac(T:List Nat)(n:Nat):qw ⟨T.toArray⟩ (n:Int) (Str.ofString "0")=decide (T[n]? =some 48):=by
 unfold qw;rw[rK];simp
theorem D6(T:List Nat)(n:Nat):qw ⟨T.toArray⟩ (n:Int) (Str.ofString "-")=decide (T[n]? =some 45):=by
 unfold qw;rw[A_];simp
theorem mz:((Str.ofString "0").cps.toList.length=1)=True:=eq_true (by rw[rK];rfl)
theorem nN:((Str.ofString "-").cps.toList.length=1)=True:=eq_true (by rw[A_];rfl)
theorem e9(T:List Nat)(n a b:Nat)(res:Int)(h0:(T[n]? =some 48)=False)(ha:(if T[n]? =some 45 then n+1 else n)=a)(fe:cI [.str ⟨T.toArray⟩,.int a]=some (.sh (.int b)))
  (hr:(if T[a]? =some 48∨¬(1≤(b:Int) - a∧(b:Int) - a≤30)then (n:Int)else b)=res):bj [.str ⟨T.toArray⟩,.int n]=some (.sh (.int res)):=by
 have z:(0≤(n:Int))=True:=eq_true (by omega)
 have za:(0≤(a:Int))=True:=eq_true (by omega)
 have a0:qw ⟨T.toArray⟩ (n:Int) (Str.ofString "0")=false:=(Ac T n).trans (decide_eq_false (of_eq_false h0))
 by_cases hm:T[n]? =some 45
 ·have am:qw ⟨T.toArray⟩ (n:Int) (Str.ofString "-")=true:=(D6 T n).trans (decide_eq_true hm)
  rw[if_pos hm]at ha
  have ea:(n:Int)+1=(a:Int):=by omega
  by_cases q:T[a]? =some 48
  ·have aq:qw ⟨T.toArray⟩ (a:Int) (Str.ofString "0")=true:=(Ac T a).trans (decide_eq_true q)
   rw[if_pos (.inl q)]at hr
   rw[←hr]
   simp only[bj,bP,List.length_cons,List.length_nil,Nat.zero_add,Nat.reduceAdd,bC,ci,ay,aK,cL,da,av,List.map_cons,List.map_nil,Nat.reduceSub,List.replicate,List.cons_append,List.nil_append,List.getElem?_cons_zero,af,pC,Sl.isBr,Bool.false_and,Bool.false_eq_true,ad,ap,Option.map_some,if_false,Option.bind_some,List.getElem?_cons_succ,ax,look,Sl.val,mz,z,and_self,a0,if_true,dY,aF,ag,aE,hot,aV,Bool.not_false,Bool.true_or,Bool.and_true,aB,ea,aD,oX,PL.settle,frz,frzAll,ao,cz,cA,a_,cZ,Bool.or_false,hU,bz,iD,ba,Cm.i,Cm.s,nN,am,Nat.reduceLT,List.set_cons_succ,List.set_cons_zero,fe,za,aq,bt,aR,aJ]
  ·have aq:qw ⟨T.toArray⟩ (a:Int) (Str.ofString "0")=false:=(Ac T a).trans (decide_eq_false q)
   by_cases l1:1≤(b:Int) - a
   ·by_cases l2:(b:Int) - a≤30
    ·rw[if_neg (by simp[q,l1,l2])]at hr
     rw[←hr]
     simp only[bj,bP,List.length_cons,List.length_nil,Nat.zero_add,Nat.reduceAdd,bC,ci,ay,aK,cL,da,av,List.map_cons,List.map_nil,Nat.reduceSub,List.replicate,List.cons_append,List.nil_append,List.getElem?_cons_zero,af,pC,Sl.isBr,Bool.false_and,Bool.false_eq_true,ad,ap,Option.map_some,if_false,Option.bind_some,List.getElem?_cons_succ,ax,look,Sl.val,mz,z,and_self,a0,if_true,dY,aF,ag,aE,hot,aV,Bool.not_false,Bool.true_or,Bool.and_true,aB,ea,aD,oX,PL.settle,frz,frzAll,ao,cz,cA,a_,cZ,Bool.or_false,hU,bz,iD,ba,Cm.i,Cm.s,nN,am,Nat.reduceLT,List.set_cons_succ,List.set_cons_zero,fe,za,aq,l2,decide_true,l1,Bool.not_true,bt,aR,aJ]
    ·rw[if_pos (by simp[q,l1,l2])]at hr
     rw[←hr]
     simp only[bj,bP,List.length_cons,List.length_nil,Nat.zero_add,Nat.reduceAdd,bC,ci,ay,aK,cL,da,av,List.map_cons,List.map_nil,Nat.reduceSub,List.replicate,List.cons_append,List.nil_append,List.getElem?_cons_zero,af,pC,Sl.isBr,Bool.false_and,Bool.false_eq_true,ad,ap,Option.map_some,if_false,Option.bind_some,List.getElem?_cons_succ,ax,look,Sl.val,mz,z,and_self,a0,if_true,dY,aF,ag,aE,hot,aV,Bool.not_false,Bool.true_or,Bool.and_true,aB,ea,aD,oX,PL.settle,frz,frzAll,ao,cz,cA,a_,cZ,Bool.or_false,hU,bz,iD,ba,Cm.i,Cm.s,nN,am,Nat.reduceLT,List.set_cons_succ,List.set_cons_zero,fe,za,aq,l2,decide_false,l1,decide_true,bt,aR,aJ]
   ·rw[if_pos (by simp[q,l1])]at hr
    rw[←hr]
    simp only[bj,bP,List.length_cons,List.length_nil,Nat.zero_add,Nat.reduceAdd,bC,ci,ay,aK,cL,da,av,List.map_cons,List.map_nil,Nat.reduceSub,List.replicate,List.cons_append,List.nil_append,List.getElem?_cons_zero,af,pC,Sl.isBr,Bool.false_and,Bool.false_eq_true,ad,ap,Option.map_some,if_false,Option.bind_some,List.getElem?_cons_succ,ax,look,Sl.val,mz,z,and_self,a0,if_true,dY,aF,ag,aE,hot,aV,Bool.not_false,Bool.true_or,Bool.and_true,aB,ea,aD,oX,PL.settle,frz,frzAll,ao,cz,cA,a_,cZ,Bool.or_false,hU,bz,iD,ba,Cm.i,Cm.s,nN,am,Nat.reduceLT,List.set_cons_succ,List.set_cons_zero,fe,za,aq,l1,decide_false,bt,aR,aJ]
 ·have am:qw ⟨T.toArray⟩ (n:Int) (Str.ofString "-")=false:=(D6 T n).trans (decide_eq_false hm)
  rw[if_neg hm]at ha
  subst ha
  by_cases l1:1≤(b:Int) - n
  ·by_cases l2:(b:Int) - n≤30
   ·rw[if_neg (by simp[h0,l1,l2])]at hr
    rw[←hr]
    simp only[bj,bP,List.length_cons,List.length_nil,Nat.zero_add,Nat.reduceAdd,bC,ci,ay,aK,cL,da,av,List.map_cons,List.map_nil,Nat.reduceSub,List.replicate,List.cons_append,List.nil_append,List.getElem?_cons_zero,af,pC,Sl.isBr,Bool.false_and,Bool.false_eq_true,ad,ap,Option.map_some,if_false,Option.bind_some,List.getElem?_cons_succ,ax,look,Sl.val,mz,z,and_self,a0,if_true,dY,aF,ag,aE,hot,aV,Bool.not_false,Bool.true_or,Bool.and_true,aB,aD,oX,PL.settle,frz,frzAll,ao,cz,cA,a_,cZ,Bool.or_false,hU,bz,iD,ba,Cm.i,Cm.s,nN,am,Nat.reduceLT,List.set_cons_succ,List.set_cons_zero,fe,l2,decide_true,l1,Bool.not_true,bt,aR,aJ]
   ·rw[if_pos (by simp[l1,l2])]at hr
    rw[←hr]
    simp only[bj,bP,List.length_cons,List.length_nil,Nat.zero_add,Nat.reduceAdd,bC,ci,ay,aK,cL,da,av,List.map_cons,List.map_nil,Nat.reduceSub,List.replicate,List.cons_append,List.nil_append,List.getElem?_cons_zero,af,pC,Sl.isBr,Bool.false_and,Bool.false_eq_true,ad,ap,Option.map_some,if_false,Option.bind_some,List.getElem?_cons_succ,ax,look,Sl.val,mz,z,and_self,a0,if_true,dY,aF,ag,aE,hot,aV,Bool.not_false,Bool.true_or,Bool.and_true,aB,aD,oX,PL.settle,frz,frzAll,ao,cz,cA,a_,cZ,Bool.or_false,hU,bz,iD,ba,Cm.i,Cm.s,nN,am,Nat.reduceLT,List.set_cons_succ,List.set_cons_zero,fe,l2,decide_false,l1,decide_true,bt,aR,aJ]
  ·rw[if_pos (by simp[l1])]at hr
   rw[←hr]
   simp only[bj,bP,List.length_cons,List.length_nil,Nat.zero_add,Nat.reduceAdd,bC,ci,ay,aK,cL,da,av,List.map_cons,List.map_nil,Nat.reduceSub,List.replicate,List.cons_append,List.nil_append,List.getElem?_cons_zero,af,pC,Sl.isBr,Bool.false_and,Bool.false_eq_true,ad,ap,Option.map_some,if_false,Option.bind_some,List.getElem?_cons_succ,ax,look,Sl.val,mz,z,and_self,a0,if_true,dY,aF,ag,aE,hot,aV,Bool.not_false,Bool.true_or,Bool.and_true,aB,aD,oX,PL.settle,frz,frzAll,ao,cz,cA,a_,cZ,Bool.or_false,hU,bz,iD,ba,Cm.i,Cm.s,nN,am,Nat.reduceLT,List.set_cons_succ,List.set_cons_zero,fe,l1,decide_false,bt,aR,aJ]
theorem nO(T:List Nat)(n:Nat)(h0:T[n]? =some 48):bj [.str ⟨T.toArray⟩,.int n]=some (.sh (.int ((n+1:Nat):Int))):=by
 have z:(0≤(n:Int))=True:=eq_true (by omega)
 have a0:qw ⟨T.toArray⟩ (n:Int) (Str.ofString "0")=true:=(Ac T n).trans (decide_eq_true h0)
 simp only[bj,bP,List.length_cons,List.length_nil,Nat.zero_add,Nat.reduceAdd,bC,ci,ay,aK,cL,da,av,List.map_cons,List.map_nil,Nat.reduceSub,List.replicate,List.cons_append,List.nil_append,List.getElem?_cons_zero,af,pC,Sl.isBr,Bool.false_and,Bool.false_eq_true,ad,ap,Option.map_some,if_false,Option.bind_some,List.getElem?_cons_succ,ax,look,Sl.val,mz,z,and_self,a0,if_true,dY,aF,ag,aE,hot,aV,Bool.not_false,Bool.true_or,Bool.and_true,aB,aD,oX,PL.settle,frz,frzAll,ao,cz,cA,a_,cZ,Bool.or_false,hU,bz,iD,ba,Cm.i,Cm.s,bt,aR,aJ]
 rfl
theorem mL{T R:List Nat}{n:Nat}(h:T.drop n=R):T[n]? =R.head? :=by
 rw[←h,List.head?_drop]
theorem iS(w:List Nat)(i j:Nat)(h1:i≤j)(h2:j≤w.length):Txt.slice (⟨w.toArray⟩:Str) (some (i:Int)) (some (j:Int))=⟨((w.drop i).take (j - i)).toArray⟩:=by
 have e:(⟨w.toArray⟩:Str).cps.toList=w:=by simp
 show PySem.StrLaws.sliceText _ _ _=_
 rw[PySem.StrLaws.sliceText_plain ⟨by omega,by omega,by rw[e];omega⟩,e]
 rw[show((j:Int) - (i:Int)).toNat=j - i by omega,Int.toNat_natCast]
theorem iC(T:List Nat)(n c:Nat)(h:T[n]? =some c):Txt.slice (⟨T.toArray⟩:Str) (some (n:Int)) (some ((n:Int)+1))=⟨#[c]⟩:=by
 obtain⟨hl,he⟩:=List.getElem?_eq_some_iff.mp h
 have:=iS T n (n+1) (by omega) (by omega)
 rw[show((n:Int)+1)=((n+1:Nat):Int) by omega,this,List.drop_eq_getElem_cons hl,he,Nat.add_sub_cancel_left]
 rfl
theorem qi(T:List Nat)(n:Nat)(h:n=T.length):Txt.slice (⟨T.toArray⟩:Str) (some (n:Int)) (some ((n:Int)+1))=⟨#[]⟩:=by
 subst h
 have l:(⟨T.toArray⟩:Str).length=T.length:=aI T
 have e:Builtin.Str.strSliceIndices (some (T.length:Int)) (some ((T.length:Int)+1)) 1 T.length=Builtin.Str.strSliceIndices (some (T.length:Int)) (some (T.length:Int)) 1 T.length:=by
  have a:¬((T.length:Int)+1 < 0):=by omega
  have b:¬((T.length:Int) < 0):=by omega
  have c:min ((T.length:Int)+1) (T.length:Int)=min (T.length:Int) (T.length:Int):=by omega
  simp[Builtin.Str.strSliceIndices,a,b,c]
 have:Txt.slice (⟨T.toArray⟩:Str) (some (T.length:Int)) (some ((T.length:Int)+1))=Txt.slice (⟨T.toArray⟩:Str) (some (T.length:Int)) (some (T.length:Int)):=by
  show PySem.StrLaws.sliceText _ _ _=PySem.StrLaws.sliceText _ _ _
  unfold PySem.StrLaws.sliceText
  rw[l,e]
 rw[this,iS T T.length T.length (by omega) (by omega),Nat.sub_self]
 rfl
theorem kq(S:Str)(cs:List Nat)(e:S.cps.toList=cs){c:Nat}(b:Bool)(h:decide (c∈cs)=b):(Builtin.Str.occurrences S ⟨#[c]⟩ 0 S.length 1).isEmpty= !b:=by
 have h1:=PySem.StrLaws.found_one S c
 rw[e,h]at h1
 cases b <;> simpa using h1
theorem CG:(Str.ofString "0123456789").cps.toList=[48,49,50,51,52,53,54,55,56,57]:=by decide+kernel
theorem CI(c:Nat):decide (c∈[48,49,50,51,52,53,54,55,56,57])=decide (48≤c∧c≤57):=by
 apply decide_eq_decide.mpr
 simp
 omega
theorem CJ(c:Nat):(sx (.str ⟨#[c]⟩) (.str (Str.ofString "")))=some false:=by
 have e0:Str.ofString ""=⟨#[]⟩:=by decide+kernel
 rw[e0];show some (decide _)=_
 rw[decide_eq_false (fun z=>by have:=congrArg (fun s:Str=>s.cps.size) z;simp at this)]
theorem CK:(sx (.str ⟨#[]⟩) (.str (Str.ofString "")))=some true:=by
 have e0:Str.ofString ""=⟨#[]⟩:=by decide+kernel
 rw[e0];show some (decide _)=_
 rw[decide_eq_true rfl]
section
variable (T:List Nat) (x1 x3 x4:Sl) (n c:Nat)
theorem uz(b:Bool)(hT:(T.length≤1000000)=True)(hc:T[n]? =some c)(h:decide (48≤c∧c≤57)=b):bK [.sh (.str ⟨T.toArray⟩),x1,.sh (.int n),x3,x4]=some (b,[.sh (.str ⟨T.toArray⟩),x1,.sh (.int n),x3,x4]):=by
 have s1:=iC T n c hc
 have e:=CJ c
 have o:=kq _ _ CG b ((CI c).trans h)
 cases b <;> simp only[Bool.not_true,Bool.not_false]at o <;> simp only[bK,bI,a_,ag,cJ,ad,List.getElem?_cons_zero,Sl.isBr,Bool.false_and,Bool.false_eq_true,bn,look,Sl.val,pC,aE,hot,aV,Option.bind_some,Bool.not_false,Bool.true_or,Bool.and_true,if_false,List.getElem?_cons_succ,aI,hT,if_true,s1,jB,bz,e,Option.map_some,bq,mq,pd,aW,hc,o,Bool.not_true]
theorem Ad(hT:(T.length≤1000000)=True)(hn:n=T.length):bK [.sh (.str ⟨T.toArray⟩),x1,.sh (.int n),x3,x4]=some (false,[.sh (.str ⟨T.toArray⟩),x1,.sh (.int n),x3,x4]):=by
 have s1:=qi T n hn
 have e:=CK
 simp only[bK,bI,a_,ag,cJ,ad,List.getElem?_cons_zero,Sl.isBr,Bool.false_and,Bool.false_eq_true,bn,look,Sl.val,pC,aE,hot,aV,Option.bind_some,Bool.not_false,Bool.true_or,Bool.and_true,if_false,List.getElem?_cons_succ,aI,hT,if_true,s1,jB,bz,e,Option.map_some,Bool.not_true,bq,mq,pd]
theorem Ae(x0:Sl):cr [x0,x1,.sh (.int n),x3,x4]=some ([x0,x1,.sh (.int ((n+1:Nat):Int)),x3,x4],.nx):=by
 simp only[cr,aD,ag,ad,List.getElem?_cons_succ,List.getElem?_cons_zero,Sl.isBr,Bool.false_and,Bool.false_eq_true,pC,aE,look,Sl.val,hot,aV,Option.bind_some,Bool.not_false,Bool.true_or,Bool.and_true,if_false,PL.settle,frz,frzAll,List.length_cons,List.length_nil,Nat.zero_add,Nat.reduceAdd,Nat.reduceLT,List.set_cons_succ,List.set_cons_zero,if_true]
 rfl
end
theorem xR(T:List Nat)(x1 x3 x4:Sl)(hT:T.length≤1000000):∀(D R:List Nat) (n:Nat),n≤T.length→T.drop n=D++R→(∀c∈D,Dg c)→EV R→bo bK cr (D.length+1) [.sh (.str ⟨T.toArray⟩),x1,.sh (.int n),x3,x4]=some ([.sh (.str ⟨T.toArray⟩),x1,.sh (.int ((n+D.length:Nat):Int)),x3,x4],.nx)
 |[],R,n,hn,h,hd,hs=>by
  have e:bK [.sh (.str ⟨T.toArray⟩),x1,.sh (.int n),x3,x4]=some (false,[.sh (.str ⟨T.toArray⟩),x1,.sh (.int n),x3,x4]):=by
   cases R with
   |nil=>
    refine Ad T x1 x3 x4 n (eq_true hT) ?_
    have:=congrArg List.length h
    simp at this
    omega
   |cons c R=>
    obtain⟨a1,a2,a3⟩:=lJ (by simpa using h)
    exact uz T x1 x3 x4 n c false (eq_true hT) a1 (decide_eq_false (show ¬(48≤c∧c≤57)from hs c rfl))
  rw[bo,e]
  rfl
 |d::D,R,n,hn,h,hd,hs=>by
  obtain⟨a1,a2,a3⟩:=lJ (D:=D++R) (by simpa using h)
  have e:=uz T x1 x3 x4 n d true (eq_true hT) a1 (decide_eq_true (show 48≤d∧d≤57 from hd d (List.mem_cons_self ..)))
  rw[bo,e,Option.bind_some]
  simp only[if_true,Ae,Option.bind_some]
  have:=xR T x1 x3 x4 hT D R (n+1) a2 a3 (fun c hc=>hd c (List.mem_cons_of_mem _ hc)) hs
  rw[show n+(d::D).length=n+1+D.length by simp;omega]
  exact this
def EW(R:List Nat):List Nat:=R.takeWhile fun c=>decide (48≤c∧c≤57)
theorem xS(R:List Nat):∃Q,R=EW R++Q∧(∀c∈EW R,Dg c)∧EV Q:=by
 refine⟨R.dropWhile fun c=>decide (48≤c∧c≤57),(List.takeWhile_append_dropWhile ..).symm,fun c hc=>?_,fun c hc=>?_⟩
 ·have:=List.all_eq_true.mp (List.all_takeWhile (p:=fun c:Nat=>decide (48≤c∧c≤57)) (l:=R)) c hc
  exact of_decide_eq_true (p:=48≤c∧c≤57) this
 ·have:=List.head?_dropWhile_not (fun c:Nat=>decide (48≤c∧c≤57)) R
  rw[hc]at this
  simp only at this
  intro z
  rw[decide_eq_true (show 48≤c∧c≤57 from z)]at this
  cases this
section
variable (T:List Nat) (n a b:Nat) (hT:(T.length≤1000000)=True) (sg F G:Str)
 (w:∀x1 x3 x4,fF bK cr [.sh (.str ⟨T.toArray⟩),x1,.sh (.int a),x3,x4]=some ([.sh (.str ⟨T.toArray⟩),x1,.sh (.int b),x3,x4],.nx))
include hT w
theorem Af (hs:Txt.slice (⟨T.toArray⟩:Str) (some (n:Int)) (some ((n:Int)+1))=sg) (hb:(sg=Str.ofString "-")=False) (ha:(a:Int)=n) (hz:(b:Int)=n):aL [.str ⟨T.toArray⟩,.int n]=some (.sh (.tuple [.int 1,.int n])):=by
 rw[ha,hz]at w
 simp only[aL,bP,List.length_cons,List.length_nil,Nat.zero_add,Nat.reduceAdd,bC,b8,ay,aD,ad,av,List.map_cons,List.map_nil,Nat.reduceSub,List.replicate,List.cons_append,List.nil_append,List.getElem?_cons_succ,List.getElem?_cons_zero,PL.settle,frz,frzAll,Option.bind_some,Nat.reduceLT,List.set_cons_succ,List.set_cons_zero,if_true,aK,a_,ag,cJ,Sl.isBr,Bool.false_and,Bool.false_eq_true,bn,look,Sl.val,pC,aE,hot,aV,Bool.not_false,Bool.true_or,Bool.and_true,if_false,cP,bz,aB,aF,ek,ef,de,takeP,hV,Option.map_some,cz,bJ,af,ap,cG,ba,Cm.i,Cm.s,bI,bq,jB,aI,hT,hs,bL,hb,decide_false,w,aQ,decide_true,Nat.reduceLeDiff,List.all_cons,ke,List.all_nil,Pt.val,bt,aR,aJ,bg]
theorem Ag (hs:Txt.slice (⟨T.toArray⟩:Str) (some (n:Int)) (some ((n:Int)+1))=sg) (hb:(sg=Str.ofString "-")=False) (ha:(a:Int)=n) (hz:((b:Int)=n)=False) (hF:Txt.slice (⟨T.toArray⟩:Str) (some (n:Int)) (some (b:Int))=F) (c0:Nat) (hc:F.cps.toList[0]? =some c0) (he:(F=Str.ofString "")=False) (lF:F.length≤1000000) (res:PyData)
  (hr:(30 < (F.length:Int)∧res=.none)∨(¬30 < (F.length:Int)∧c0=48∧F≠Str.ofString "0"∧res=.none)∨(¬30 < (F.length:Int)∧(c0≠48∨F=Str.ofString "0")∧∃t,PySem.intText? F=some t∧res=.tuple [.int t,.int b])):aL [.str ⟨T.toArray⟩,.int n]=some (.sh res):=by
 rw[ha]at w
 have h0:Str.ofString "0"=⟨#[48]⟩:=by decide+kernel
 have a0:atI F.cps.toList 0=some c0:=by rw[show(0:Int)=((0:Nat):Int)from rfl,aW,hc]
 have l2:(F.length≤1000000)=True:=eq_true lF
 rcases hr with⟨l,rfl⟩ |⟨l,rfl,z,rfl⟩ |⟨l,z,t,et,rfl⟩
 ·have l':=eq_true l
  simp only[aL,bP,List.length_cons,List.length_nil,Nat.zero_add,Nat.reduceAdd,bC,b8,ay,aD,ad,av,List.map_cons,List.map_nil,Nat.reduceSub,List.replicate,List.cons_append,List.nil_append,List.getElem?_cons_succ,List.getElem?_cons_zero,PL.settle,frz,frzAll,Option.bind_some,Nat.reduceLT,List.set_cons_succ,List.set_cons_zero,if_true,aK,a_,ag,cJ,Sl.isBr,Bool.false_and,Bool.false_eq_true,bn,look,Sl.val,pC,aE,hot,aV,Bool.not_false,Bool.true_or,Bool.and_true,if_false,cP,bz,aB,aF,ek,ef,de,takeP,hV,Option.map_some,cz,bJ,af,ap,cG,ba,Cm.i,Cm.s,bI,bq,jB,aI,hT,hs,bL,hb,decide_false,w,aQ,hz,Nat.reduceLeDiff,List.all_cons,ke,List.all_nil,Pt.val,hF,he,ax,l2,l',decide_true,bt,aR,aJ]
 ·have l':=eq_false l
  rw[h0]at z
  have z':=eq_false z
  simp only[aL,bP,List.length_cons,List.length_nil,Nat.zero_add,Nat.reduceAdd,bC,b8,ay,aD,ad,av,List.map_cons,List.map_nil,Nat.reduceSub,List.replicate,List.cons_append,List.nil_append,List.getElem?_cons_succ,List.getElem?_cons_zero,PL.settle,frz,frzAll,Option.bind_some,Nat.reduceLT,List.set_cons_succ,List.set_cons_zero,if_true,aK,a_,ag,cJ,Sl.isBr,Bool.false_and,Bool.false_eq_true,bn,look,Sl.val,pC,aE,hot,aV,Bool.not_false,Bool.true_or,Bool.and_true,if_false,cP,bz,aB,aF,ek,ef,de,takeP,hV,Option.map_some,cz,bJ,af,ap,cG,ba,Cm.i,Cm.s,bI,bq,h0,jB,aI,hT,hs,bL,hb,decide_false,w,aQ,hz,Nat.reduceLeDiff,List.all_cons,ke,List.all_nil,Pt.val,hF,he,ax,l2,l',a0,decide_true,z',bt,aR,aJ]
 ·have l':=eq_false l
  have l3:(F.length≤640)=True:=eq_true (by omega)
  by_cases q:c0=48
  ·subst q
   have z':(F=⟨#[48]⟩)=True:=eq_true (h0▸z.resolve_left fun k=>k rfl)
   simp only[aL,bP,List.length_cons,List.length_nil,Nat.zero_add,Nat.reduceAdd,bC,b8,ay,aD,ad,av,List.map_cons,List.map_nil,Nat.reduceSub,List.replicate,List.cons_append,List.nil_append,List.getElem?_cons_succ,List.getElem?_cons_zero,PL.settle,frz,frzAll,Option.bind_some,Nat.reduceLT,List.set_cons_succ,List.set_cons_zero,if_true,aK,a_,ag,cJ,Sl.isBr,Bool.false_and,Bool.false_eq_true,bn,look,Sl.val,pC,aE,hot,aV,Bool.not_false,Bool.true_or,Bool.and_true,if_false,cP,bz,aB,aF,ek,ef,de,takeP,hV,Option.map_some,cz,bJ,af,ap,cG,ba,Cm.i,Cm.s,bI,bq,h0,jB,mv,aI,hT,hs,bL,hb,decide_false,w,aQ,hz,Nat.reduceLeDiff,List.all_cons,ke,List.all_nil,Pt.val,hF,he,ax,l2,l',a0,decide_true,z',Bool.not_true,l3,et,bt,aR,aJ,bg]
  ·have q':((⟨#[c0]⟩:Str)=Str.ofString "0")=False:=eq_false fun k=>q (by rw[h0]at k;simpa using k)
   simp only[aL,bP,List.length_cons,List.length_nil,Nat.zero_add,Nat.reduceAdd,bC,b8,ay,aD,ad,av,List.map_cons,List.map_nil,Nat.reduceSub,List.replicate,List.cons_append,List.nil_append,List.getElem?_cons_succ,List.getElem?_cons_zero,PL.settle,frz,frzAll,Option.bind_some,Nat.reduceLT,List.set_cons_succ,List.set_cons_zero,if_true,aK,a_,ag,cJ,Sl.isBr,Bool.false_and,Bool.false_eq_true,bn,look,Sl.val,pC,aE,hot,aV,Bool.not_false,Bool.true_or,Bool.and_true,if_false,cP,bz,aB,aF,ek,ef,de,takeP,hV,Option.map_some,cz,bJ,af,ap,cG,ba,Cm.i,Cm.s,bI,bq,jB,mv,aI,hT,hs,bL,hb,decide_false,w,aQ,hz,Nat.reduceLeDiff,List.all_cons,ke,List.all_nil,Pt.val,hF,he,ax,l2,l',a0,q',l3,et,bt,aR,aJ,bg]
theorem Ah (hs:Txt.slice (⟨T.toArray⟩:Str) (some (n:Int)) (some (a:Int))=Str.ofString "-") (ha:(n:Int)+1=a) (hz:((b:Int)=n)=False) (hF:Txt.slice (⟨T.toArray⟩:Str) (some (a:Int)) (some (b:Int))=F) (hG:Txt.slice (⟨T.toArray⟩:Str) (some (n:Int)) (some (b:Int))=G) (hg:(G=Str.ofString "0")=False) (lF:F.length≤1000000) (lG:¬30 < (F.length:Int)→(G.length≤640)=True) (res:PyData)
  (hr:(F=Str.ofString ""∧res=.none)∨(F≠Str.ofString ""∧∃c0,F.cps.toList[0]? =some c0∧((30 < (F.length:Int)∧res=.none)∨(¬30 < (F.length:Int)∧c0=48∧res=.none)∨(¬30 < (F.length:Int)∧c0≠48∧∃t,PySem.intText? G=some t∧res=.tuple [.int t,.int b])))):aL [.str ⟨T.toArray⟩,.int n]=some (.sh res):=by
 have h0:Str.ofString "0"=⟨#[48]⟩:=by decide+kernel
 have l2:(F.length≤1000000)=True:=eq_true lF
 rcases hr with⟨he,rfl⟩ |⟨he,c0,hc,hr⟩
 ·have he:=eq_true he
  simp only[aL,bP,List.length_cons,List.length_nil,Nat.zero_add,Nat.reduceAdd,bC,b8,ay,aD,ad,av,List.map_cons,List.map_nil,Nat.reduceSub,List.replicate,List.cons_append,List.nil_append,List.getElem?_cons_succ,List.getElem?_cons_zero,PL.settle,frz,frzAll,Option.bind_some,Nat.reduceLT,List.set_cons_succ,List.set_cons_zero,if_true,aK,a_,ag,cJ,Sl.isBr,Bool.false_and,Bool.false_eq_true,bn,look,Sl.val,pC,aE,hot,aV,Bool.not_false,Bool.true_or,Bool.and_true,if_false,cP,bz,aB,aF,ek,ef,de,takeP,hV,Option.map_some,cz,bJ,af,ap,cG,ba,Cm.i,Cm.s,bI,bq,jB,aI,hT,ha,hs,bL,decide_true,w,aQ,hz,decide_false,Nat.reduceLeDiff,List.all_cons,ke,List.all_nil,Pt.val,hF,he,ax,bt,aR,aJ]
 have he:=eq_false he
 have a0:atI F.cps.toList 0=some c0:=by rw[show(0:Int)=((0:Nat):Int)from rfl,aW,hc]
 rcases hr with⟨l,rfl⟩ |⟨l,rfl,rfl⟩ |⟨l,z,t,et,rfl⟩
 ·have l':=eq_true l
  simp only[aL,bP,List.length_cons,List.length_nil,Nat.zero_add,Nat.reduceAdd,bC,b8,ay,aD,ad,av,List.map_cons,List.map_nil,Nat.reduceSub,List.replicate,List.cons_append,List.nil_append,List.getElem?_cons_succ,List.getElem?_cons_zero,PL.settle,frz,frzAll,Option.bind_some,Nat.reduceLT,List.set_cons_succ,List.set_cons_zero,if_true,aK,a_,ag,cJ,Sl.isBr,Bool.false_and,Bool.false_eq_true,bn,look,Sl.val,pC,aE,hot,aV,Bool.not_false,Bool.true_or,Bool.and_true,if_false,cP,bz,aB,aF,ek,ef,de,takeP,hV,Option.map_some,cz,bJ,af,ap,cG,ba,Cm.i,Cm.s,bI,bq,jB,aI,hT,ha,hs,bL,decide_true,w,aQ,hz,decide_false,Nat.reduceLeDiff,List.all_cons,ke,List.all_nil,Pt.val,hF,he,ax,l2,l',bt,aR,aJ]
 ·have l':=eq_false l
  rw[h0]at hg
  simp only[aL,bP,List.length_cons,List.length_nil,Nat.zero_add,Nat.reduceAdd,bC,b8,ay,aD,ad,av,List.map_cons,List.map_nil,Nat.reduceSub,List.replicate,List.cons_append,List.nil_append,List.getElem?_cons_succ,List.getElem?_cons_zero,PL.settle,frz,frzAll,Option.bind_some,Nat.reduceLT,List.set_cons_succ,List.set_cons_zero,if_true,aK,a_,ag,cJ,Sl.isBr,Bool.false_and,Bool.false_eq_true,bn,look,Sl.val,pC,aE,hot,aV,Bool.not_false,Bool.true_or,Bool.and_true,if_false,cP,bz,aB,aF,ek,ef,de,takeP,hV,Option.map_some,cz,bJ,af,ap,cG,ba,Cm.i,Cm.s,bI,bq,h0,jB,aI,hT,ha,hs,bL,decide_true,w,aQ,hz,decide_false,Nat.reduceLeDiff,List.all_cons,ke,List.all_nil,Pt.val,hF,he,ax,l2,l',a0,hG,hg,bt,aR,aJ]
 ·have l':=eq_false l
  have l3:=lG l
  have q':((⟨#[c0]⟩:Str)=Str.ofString "0")=False:=eq_false fun k=>z (by rw[h0]at k;simpa using k)
  simp only[aL,bP,List.length_cons,List.length_nil,Nat.zero_add,Nat.reduceAdd,bC,b8,ay,aD,ad,av,List.map_cons,List.map_nil,Nat.reduceSub,List.replicate,List.cons_append,List.nil_append,List.getElem?_cons_succ,List.getElem?_cons_zero,PL.settle,frz,frzAll,Option.bind_some,Nat.reduceLT,List.set_cons_succ,List.set_cons_zero,if_true,aK,a_,ag,cJ,Sl.isBr,Bool.false_and,Bool.false_eq_true,bn,look,Sl.val,pC,aE,hot,aV,Bool.not_false,Bool.true_or,Bool.and_true,if_false,cP,bz,aB,aF,ek,ef,de,takeP,hV,Option.map_some,cz,bJ,af,ap,cG,ba,Cm.i,Cm.s,bI,bq,jB,mv,aI,hT,ha,hs,bL,decide_true,w,aQ,hz,decide_false,Nat.reduceLeDiff,List.all_cons,ke,List.all_nil,Pt.val,hF,he,ax,l2,l',a0,q',hG,l3,et,bt,aR,aJ,bg]
end
theorem f_(T:List Nat)(n:Nat)(e:bj [.str ⟨T.toArray⟩,.int n]=some (.sh (.int n))):aS [.str ⟨T.toArray⟩,.int n]=some (.sh (.tuple [.int 1,.int n])):=by
 simp only[aS,bP,List.length_cons,List.length_nil,Nat.zero_add,Nat.reduceAdd,bC,eZ,ay,aD,ao,af,ad,av,List.map_cons,List.map_nil,Nat.reduceSub,List.replicate,List.cons_append,List.nil_append,List.getElem?_cons_zero,Sl.isBr,Bool.false_and,Bool.false_eq_true,ap,Option.map_some,if_false,Option.bind_some,List.getElem?_cons_succ,ax,look,Sl.val,e,PL.settle,frz,frzAll,Nat.reduceLT,List.set_cons_succ,List.set_cons_zero,if_true,aF,ek,ef,de,oX,a_,ag,cP,bz,pC,bJ,cJ,bn,hot,aV,takeP,hV,aQ,decide_true,Nat.reduceLeDiff,List.all_cons,ke,List.all_nil,Bool.and_true,Pt.val,bt,aR,aJ,bg]
theorem gb(T:List Nat)(n m:Nat)(t:Int)(x:Str)(hT:(T.length≤1000000)=True)(hne:((m:Int)=(n:Int))=False)(hx:Txt.slice ⟨T.toArray⟩ (some (n:Int)) (some (m:Int))=x)(xl:(x.length≤640)=True)(xt:PySem.intText? x=some t)(e:bj [.str ⟨T.toArray⟩,.int n]=some (.sh (.int m))):aS [.str ⟨T.toArray⟩,.int n]=some (.sh (.tuple [.int t,.int m])):=by
 simp only[aS,bP,List.length_cons,List.length_nil,Nat.zero_add,Nat.reduceAdd,bC,eZ,ay,aD,ao,af,ad,av,List.map_cons,List.map_nil,Nat.reduceSub,List.replicate,List.cons_append,List.nil_append,List.getElem?_cons_zero,Sl.isBr,Bool.false_and,Bool.false_eq_true,ap,Option.map_some,if_false,Option.bind_some,List.getElem?_cons_succ,ax,look,Sl.val,e,PL.settle,frz,frzAll,Nat.reduceLT,List.set_cons_succ,List.set_cons_zero,if_true,aF,ek,ef,de,oX,a_,ag,cP,bz,pC,bJ,cJ,bn,hot,aV,mv,takeP,hV,aQ,hne,decide_false,aI,hT,hx,xl,xt,Nat.reduceLeDiff,List.all_cons,ke,List.all_nil,Bool.and_true,Pt.val,bt,aR,aJ,bg]
section
open PySem.NumText PyProof.Rows PySem.W PySem.W.KIN
theorem Ba:∀(D:List Nat) (v:Nat),(∀c∈D,Dg c)→D.foldl (fun acc c=>acc*10+(c - 48)) v < (v+1)*10 ^ D.length
 |[],v,_=>by simp
 |d::D,v,h=>by
  have ih:=Ba D (v*10+(d - 48)) fun c hc=>h c (List.mem_cons_of_mem _ hc)
  have hd:=h d (List.mem_cons_self ..)
  rw[List.foldl_cons,List.length_cons,Nat.pow_succ]
  refine Nat.lt_of_lt_of_le ih ?_
  have:v*10+(d - 48)+1≤(v+1)*10:=by have:=hd.2;omega
  calc (v*10+(d - 48)+1)*10 ^ D.length≤(v+1)*10*10 ^ D.length:=Nat.mul_le_mul_right _ this
   _=(v+1)*(10 ^ D.length*10):=by rw[Nat.mul_assoc,Nat.mul_comm 10]
theorem Bc(D:List Nat)(h:∀c∈D,Dg c)(l:D.length≤30):digitsVal D < 10 ^ 30:=by
 have:=Ba D 0 h
 rw[Nat.zero_add,Nat.one_mul]at this
 exact Nat.lt_of_lt_of_le this (Nat.pow_le_pow_right (by decide) l)
inductive NumAt (T:List Nat) (n:Nat):Prop
 |ok (k:Int) (m:Nat) (h1:n≤m) (h2:m≤T.length) (hk:k.natAbs < 10 ^ 30) (law:aL [.str ⟨T.toArray⟩,.int n]=some (.sh (.tuple [.int k,.int m]))) (pr:aS [.str ⟨T.toArray⟩,.int n]=some (.sh (.tuple [.int k,.int m])))
 |bad (k:Int) (m c:Nat) (h1:n≤m) (hc:T[m]? =some c) (hd:Dg c∨c=45) (hk:k=0∨k=1) (law:aL [.str ⟨T.toArray⟩,.int n]=some (.sh .none)) (pr:aS [.str ⟨T.toArray⟩,.int n]=some (.sh (.tuple [.int k,.int m])))
theorem ti(T:List Nat)(hT:T.length≤1000000)(n:Nat)(hn:n≤T.length):NumAt T n:=by
 have em:Str.ofString "-"=⟨#[45]⟩:=by decide+kernel
 have ee:Str.ofString ""=⟨([]:List Nat).toArray⟩:=by decide+kernel
 have ez:Str.ofString "0"=⟨[48].toArray⟩:=by decide+kernel
 have hT':=eq_true hT
 have arr:∀{A B:List Nat},(⟨A.toArray⟩:Str)=⟨B.toArray⟩→A=B:=fun h=>by
  have:=congrArg (fun s:Str=>s.cps.toList) h
  simpa using this
 by_cases hm:T[n]? =some 45
 ·obtain⟨hl,_⟩:=List.getElem?_eq_some_iff.mp hm
  obtain⟨R,hR,hD,hS⟩:=xS (T.drop (n+1))
  generalize EW (T.drop (n+1))=D at hR hD
  have fe:=jW T D R (n+1) hT hl hR hD hS
  have w:∀x1 x3 x4,fF bK cr [.sh (.str ⟨T.toArray⟩),x1,.sh (.int ((n+1:Nat):Int)),x3,x4]=_:=fun x1 x3 x4=>fq (xR T x1 x3 x4 hT D R (n+1) hl hR hD hS)
  have lb:n+1+D.length≤T.length:=by
   have:=congrArg List.length hR
   simp only[List.length_drop,List.length_append]at this
   omega
  have n48:(T[n]? =some 48)=False:=eq_false (by rw[hm];decide)
  have hF:Txt.slice (⟨T.toArray⟩:Str) (some ((n+1:Nat):Int)) (some ((n+1+D.length:Nat):Int))=⟨D.toArray⟩:=by
   rw[iS T _ _ (by omega) lb,hR,Nat.add_sub_cancel_left,List.take_left]
  have hdr:T.drop n=45::(D++R):=by
   rw[List.drop_eq_getElem_cons hl,hR]
   rw[List.getElem?_eq_getElem hl]at hm
   rw[Option.some.inj hm]
  have hG:Txt.slice (⟨T.toArray⟩:Str) (some (n:Int)) (some ((n+1+D.length:Nat):Int))=⟨(45::D).toArray⟩:=by
   rw[iS T _ _ (by omega) lb,hdr,show n+1+D.length - n=(45::D).length by simp;omega,←List.cons_append,List.take_left]
  have h1:Txt.slice (⟨T.toArray⟩:Str) (some (n:Int)) (some ((n+1:Nat):Int))=Str.ofString "-":=by
   rw[em,←iC T n 45 hm];rfl
  have gz:((⟨(45::D).toArray⟩:Str)=Str.ofString "0")=False:=eq_false fun z=>by rw[ez]at z;cases arr z
  have law:∀res,_→aL [.str ⟨T.toArray⟩,.int n]=some (.sh res):=fun res hr=>Ah T n (n+1) (n+1+D.length) hT' _ _ w h1 (by omega) (eq_false (by omega)) hF hG gz (by rw[aI];omega) (fun z=>eq_true (by rw[aI]at z ⊢;simp;omega)) res hr
  have bd:∀b:Nat,cI [.str ⟨T.toArray⟩,.int ((n+1:Nat):Int)]=some (.sh (.int b))→(T[n+1]? =some 48∨¬(1≤(b:Int) - (n+1:Nat)∧(b:Int) - (n+1:Nat)≤30))→aS [.str ⟨T.toArray⟩,.int n]=some (.sh (.tuple [.int 1,.int n])):=fun b f h=>
   f_ T n (e9 T n (n+1) b _ n48 (if_pos hm) f (if_pos h))
  rcases D with _ |⟨d0,D'⟩
  ·refine .bad 1 n 45 (Nat.le_refl _) hm (.inr rfl) (.inr rfl) (law _ (.inl ⟨ee.symm,rfl⟩)) (bd _ fe (.inr ?_))
   simp only[List.length_nil]
   omega
  have hne:(⟨(d0::D').toArray⟩:Str)≠Str.ofString "":=fun z=>by rw[ee]at z;cases arr z
  have hc:(⟨(d0::D').toArray⟩:Str).cps.toList[0]? =some d0:=by simp
  have hd0:T[n+1]? =some d0:=by rw[mL hR];rfl
  have dg0:=hD d0 (List.mem_cons_self ..)
  by_cases l:30 < (d0::D').length
  ·refine .bad 1 n 45 (Nat.le_refl _) hm (.inr rfl) (.inr rfl) (law _ (.inr ⟨hne,d0,hc,.inl ⟨by rw[aI];omega,rfl⟩⟩)) (bd _ fe (.inr (by omega)))
  ·have l':¬30 < ((⟨(d0::D').toArray⟩:Str).length:Int):=by rw[aI];omega
   by_cases q:d0=48
   ·exact .bad 1 n 45 (Nat.le_refl _) hm (.inr rfl) (.inr rfl) (law _ (.inr ⟨hne,d0,hc,.inr (.inl ⟨l',q,rfl⟩)⟩)) (bd _ fe (.inl (by rw[hd0,q])))
   ·have it:PySem.intText? ⟨(45::d0::D').toArray⟩=some (-((digitsVal (d0::D'):Nat):Int)):=intText_neg (by simp) hD (by simp) (by rw[aI];simp at l ⊢;omega)
    have dv:=Bc (d0::D') hD (by omega)
    have ne:=e9 T n (n+1) (n+1+(d0::D').length) _ n48 (if_pos hm) fe (if_neg (by rw[hd0];simp at l ⊢;omega))
    exact .ok _ (n+1+(d0::D').length) (by omega) lb (by omega) (law _ (.inr ⟨hne,d0,hc,.inr (.inr ⟨l',q,_,it,rfl⟩)⟩)) (gb T n _ _ _ hT' (eq_false (by omega)) hG (eq_true (by rw[aI];simp at l ⊢;omega)) it ne)
 ·obtain⟨R,hR,hD,hS⟩:=xS (T.drop n)
  generalize EW (T.drop n)=D at hR hD
  have fe:=jW T D R n hT hn hR hD hS
  have w:∀x1 x3 x4,fF bK cr [.sh (.str ⟨T.toArray⟩),x1,.sh (.int (n:Int)),x3,x4]=_:=fun x1 x3 x4=>fq (xR T x1 x3 x4 hT D R n hn hR hD hS)
  have lb:n+D.length≤T.length:=by
   have:=congrArg List.length hR
   simp only[List.length_drop,List.length_append]at this
   omega
  obtain⟨sg,hs,hb⟩:∃sg,Txt.slice (⟨T.toArray⟩:Str) (some (n:Int)) (some ((n:Int)+1))=sg∧(sg=Str.ofString "-")=False:=by
   rcases Nat.lt_or_ge n T.length with z |z
   ·refine⟨_,iC T n T[n] (List.getElem?_eq_getElem z),eq_false fun y=>hm ?_⟩
    rw[em]at y
    rw[List.getElem?_eq_getElem z]
    have:=congrArg (fun s:Str=>s.cps.toList) y
    simp at this
    rw[this]
   ·refine⟨_,qi T n (by omega),eq_false fun y=>?_⟩
    rw[em]at y
    have:=congrArg (fun s:Str=>s.cps.toList) y
    simp at this
  rcases D with _ |⟨d0,D'⟩
  ·have n48:(T[n]? =some 48)=False:=eq_false fun z=>by
    rw[mL hR]at z
    exact hS 48 (by simpa using z) (by unfold Dg;omega)
   refine .ok 1 n (Nat.le_refl _) hn (by decide) (Af T n n (n+0) hT' sg w hs hb rfl rfl) (f_ T n (e9 T n n n _ n48 (if_neg hm) fe (if_pos (.inr (by omega)))))
  have hd0:T[n]? =some d0:=by rw[mL hR];rfl
  have dg0:=hD d0 (List.mem_cons_self ..)
  have hF:Txt.slice (⟨T.toArray⟩:Str) (some (n:Int)) (some ((n+(d0::D').length:Nat):Int))=⟨(d0::D').toArray⟩:=by
   rw[iS T _ _ (by omega) lb,hR,Nat.add_sub_cancel_left,List.take_left]
  have hc:(⟨(d0::D').toArray⟩:Str).cps.toList[0]? =some d0:=by simp
  have lz:1≤(d0::D').length:=by simp
  have law:∀res,_→aL [.str ⟨T.toArray⟩,.int n]=some (.sh res):=fun res hr=>Ag T n n (n+(d0::D').length) hT' sg _ w hs hb rfl (eq_false (by omega)) hF d0 hc (eq_false fun z=>by rw[ee]at z;cases arr z) (by rw[aI];omega) res hr
  by_cases q:d0=48
  ·subst q
   have ne:=nO T n hd0
   have s1:Txt.slice (⟨T.toArray⟩:Str) (some (n:Int)) (some ((n+1:Nat):Int))=⟨#[48]⟩:=by rw[←iC T n 48 hd0];rfl
   have pr:=gb T n (n+1) 0 _ hT' (eq_false (by omega)) s1 (eq_true (by decide)) (by decide+kernel) ne
   rcases D' with _ |⟨d1,D''⟩
   ·exact .ok 0 (n+1) (by omega) lb (by decide) (law _ (.inr (.inr ⟨by rw[aI];simp,.inr ez.symm,0,by decide+kernel,rfl⟩))) pr
   ·have hd1:T[n+1]? =some d1:=by
     obtain⟨_,_,a3⟩:=lJ (D:=d1::(D''++R)) hR
     rw[mL a3];rfl
    refine .bad 0 (n+1) d1 (by omega) hd1 (.inl (hD d1 (by simp))) (.inl rfl) (law _ ?_) pr
    by_cases l:30 < ((⟨(48::d1::D'').toArray⟩:Str).length:Int)
    ·exact .inl ⟨l,rfl⟩
    ·exact .inr (.inl ⟨l,rfl,(fun z=>by rw[ez]at z;cases arr z),rfl⟩)
  ·have n48:(T[n]? =some 48)=False:=eq_false fun z=>q (Option.some.inj (hd0.symm.trans z))
   by_cases l:30 < (d0::D').length
   ·exact .bad 1 n d0 (Nat.le_refl _) hd0 (.inl dg0) (.inr rfl) (law _ (.inl ⟨by rw[aI];omega,rfl⟩)) (f_ T n (e9 T n n _ _ n48 (if_neg hm) fe (if_pos (.inr (by omega)))))
   ·have it:PySem.intText? ⟨(d0::D').toArray⟩=some ((digitsVal (d0::D'):Nat):Int):=by
     have:=intText_digits (x:=⟨(d0::D').toArray⟩) (show AllDigits (d0::D').toArray.toList by rw[show(d0::D').toArray.toList=d0::D' by simp];exact hD) (by simp) (by rw[aI];omega)
     simpa using this
    have dv:=Bc (d0::D') hD (by omega)
    have ne:=e9 T n n (n+(d0::D').length) _ n48 (if_neg hm) fe (if_neg (by rw[n48];simp at l ⊢;omega))
    exact .ok _ (n+(d0::D').length) (by omega) lb (by omega) (law _ (.inr (.inr ⟨by rw[aI];omega,.inl q,_,it,rfl⟩))) (gb T n _ _ _ hT' (eq_false (by omega)) hF (eq_true (by rw[aI];omega)) it ne)
end
def rL(n:Nat):Prop:=97≤n∧n≤122
theorem xT:(Str.ofString "a").cps.toList=[97]:=by decide+kernel
theorem xU:(Str.ofString "z").cps.toList=[122]:=by decide+kernel
theorem kO(n:Nat)(h:rL n):bS [.str ⟨#[n]⟩]=some (.sh (.bool true)):=by
 have l:(⟨#[n]⟩:Str).length=1:=rfl
 have a:decide (n < 97)=false:=decide_eq_false (by have:=h.1;omega)
 have z:decide (122 < n)=false:=decide_eq_false (by have:=h.2;omega)
 simp only[bS,bP,List.length_cons,List.length_nil,Nat.zero_add,bC,g_,aF,kh,gE,ad,av,List.map_cons,List.map_nil,Nat.sub_self,List.replicate,List.cons_append,List.nil_append,List.getElem?_cons_zero,look,Sl.val,ip,Ty.is,ud,Option.bind_some,Option.map_some,ag,bJ,af,Sl.isBr,Bool.false_and,Bool.false_eq_true,ap,if_false,cG,pC,cP,bz,cZ,Bool.or_false,ba,Cm.i,Cm.s,ax,l,Nat.reduceLeDiff,Int.cast_ofNat_Int,if_true,aQ,decide_true,xU,ma,z,Bool.not_false,xT,a,bt,aR,aJ]
theorem im(n:Nat)(h:n < 97):bS [.str ⟨#[n]⟩]=some (.sh (.bool false)):=by
 have l:(⟨#[n]⟩:Str).length=1:=rfl
 have a:decide (n < 97)=true:=decide_eq_true h
 simp only[bS,bP,List.length_cons,List.length_nil,Nat.zero_add,bC,g_,aF,kh,gE,ad,av,List.map_cons,List.map_nil,Nat.sub_self,List.replicate,List.cons_append,List.nil_append,List.getElem?_cons_zero,look,Sl.val,ip,Ty.is,ud,Option.bind_some,Option.map_some,ag,bJ,af,Sl.isBr,Bool.false_and,Bool.false_eq_true,ap,if_false,cG,pC,cP,bz,cZ,Bool.or_false,ba,Cm.i,Cm.s,ax,l,Nat.reduceLeDiff,Int.cast_ofNat_Int,if_true,aQ,decide_true,xU,ma,xT,a,Bool.not_true,bt,aR,aJ]
def vW(p:Pc):PyData:=fj "Piece" [(.str "nail",.str ⟨#[p.1]⟩),(.str "turns",.int p.2),(.str "size",.int 1)]
theorem kr(T:List Nat)(n m c:Nat)(t:Int)(hT:(T.length≤1000000)=True)(hc:T[n]? =some c)(e:aS [.str ⟨T.toArray⟩,.int ((n:Int)+1)]=some (.sh (.tuple [.int t,.int m]))):bA [.str ⟨T.toArray⟩,.int n]=some (.sh (.tuple [vW (c,t),.int m])):=by
 simp only[bA,bP,List.length_cons,List.length_nil,Nat.zero_add,Nat.reduceAdd,bC,gK,ay,aD,ao,af,ad,av,List.map_cons,List.map_nil,Nat.reduceSub,List.replicate,List.cons_append,List.nil_append,List.getElem?_cons_zero,Sl.isBr,Bool.false_and,Bool.false_eq_true,ag,pC,aE,look,Sl.val,hot,aV,Option.bind_some,Bool.not_false,Bool.true_or,Bool.and_true,if_false,ap,Option.map_some,List.getElem?_cons_succ,ax,e,PL.settle,frz,frzAll,Nat.reduceLT,List.set_cons_succ,List.set_cons_zero,if_true,aF,ek,ef,de,jH,bq,i7,takeP,hV,aI,hT,aW,hc,eQ,cN,Nat.reduceLeDiff,List.all_cons,ke,List.all_nil,Pt.val,bt,aR,aJ,bg]
 rfl
theorem py(self:List PyData→Option Sl)(T:List Nat)(n c:Nat)(r:PyData)(hT:(T.length≤1000000)=True)(hc:T[n]? =some c)(hn:bS [.str ⟨#[c]⟩]=some (.sh (.bool true)))(e:bA [.str ⟨T.toArray⟩,.int n]=some (.sh r))(hf:aJ r=true)(z:PyData):b9 self [.str ⟨T.toArray⟩,.int n,z]=some (.sh r):=by
 simp only[b9,bP,List.length_cons,List.length_nil,Nat.zero_add,Nat.reduceAdd,bC,fz,ay,aK,cL,ao,af,ag,ad,av,List.map_cons,List.map_nil,Nat.sub_self,List.replicate,List.cons_append,List.nil_append,List.getElem?_cons_zero,Sl.isBr,Bool.false_and,Bool.false_eq_true,bq,look,Sl.val,hot,aV,if_false,Option.bind_some,List.getElem?_cons_succ,aI,hT,if_true,aW,hc,Option.map_some,ap,ax,hn,dY,aF,aB,e,a_,pC,cP,bz,bt,aR,hf]
theorem eq_40:(Str.ofString "(")=⟨#[40]⟩:=by decide+kernel
theorem uA:(Str.ofString "[")=⟨#[91]⟩:=by decide+kernel
theorem xV:sx (.str ⟨#[40]⟩) (.str (Str.ofString "("))=some true:=by rw[eq_40];show some (decide _)=_;rw[decide_eq_true rfl]
theorem CL:sx (.str ⟨#[91]⟩) (.str (Str.ofString "["))=some true:=by rw[uA];show some (decide _)=_;rw[decide_eq_true rfl]
theorem Ai:sx (.str ⟨#[91]⟩) (.str (Str.ofString "("))=some false:=by rw[eq_40];show some (decide _)=_;rw[decide_eq_false (by decide)]
theorem pz(self:List PyData→Option Sl)(T:List Nat)(n:Nat)(r:PyData)(hT:(T.length≤1000000)=True)(hc:T[n]? =some 40)(z:PyData)(e:b_ self [.str ⟨T.toArray⟩,.int n,z]=some (.sh r))(hf:aJ r=true):b9 self [.str ⟨T.toArray⟩,.int n,z]=some (.sh r):=by
 have hn:=im 40 (by decide)
 have q:=xV
 simp only[b9,bP,List.length_cons,List.length_nil,Nat.zero_add,Nat.reduceAdd,bC,fz,ay,aK,cL,ao,af,ag,ad,av,List.map_cons,List.map_nil,Nat.sub_self,List.replicate,List.cons_append,List.nil_append,List.getElem?_cons_zero,Sl.isBr,Bool.false_and,Bool.false_eq_true,bq,look,Sl.val,hot,aV,if_false,Option.bind_some,List.getElem?_cons_succ,aI,hT,if_true,aW,hc,Option.map_some,ap,ax,hn,dY,aF,aB,a_,pC,cP,bz,q,e,bt,aR,hf]
theorem vN(self:List PyData→Option Sl)(T:List Nat)(n:Nat)(r:PyData)(hT:(T.length≤1000000)=True)(hc:T[n]? =some 91)(z:PyData)(e:cD self [.str ⟨T.toArray⟩,.int n,z]=some (.sh r))(hf:aJ r=true):b9 self [.str ⟨T.toArray⟩,.int n,z]=some (.sh r):=by
 have hn:=im 91 (by decide)
 have q:=CL
 have q4:=Ai
 simp only[b9,bP,List.length_cons,List.length_nil,Nat.zero_add,Nat.reduceAdd,bC,fz,ay,aK,cL,ao,af,ag,ad,av,List.map_cons,List.map_nil,Nat.sub_self,List.replicate,List.cons_append,List.nil_append,List.getElem?_cons_zero,Sl.isBr,Bool.false_and,Bool.false_eq_true,bq,look,Sl.val,hot,aV,if_false,Option.bind_some,List.getElem?_cons_succ,aI,hT,if_true,aW,hc,Option.map_some,ap,ax,hn,dY,aF,aB,a_,pC,cP,bz,q4,q,e,bt,aR,hf]
theorem jX{cs:List Str}{f cn:Str}{kvs:List (PyData×PyData)}{d:PyData}{E:List Sl}{i:Nat}(e:E[i]? =some (.sh (fj cn kvs)))(hc:cs.contains cn=true)(l:iP f kvs=some d):fT cs f (ad i) E=some (.sh d,E):=by
 simp only[fT,ad,e,Option.bind_some,look,Sl.val,hc,if_true,l,hot,aV,Bool.not_false,Bool.true_or]
theorem Aj{f:Str}{d:PyData}{r:List (PyData×PyData)}:iP f ((.str f,d)::r)=some d:=by unfold iP;rw[if_pos rfl]
theorem C_{f g:Str}{d:PyData}{r:List (PyData×PyData)}(h:g≠f):iP f ((.str g,d)::r)=iP f r:=by
 conv=>lhs;unfold iP
 rw[if_neg h]
theorem FO{f a b:Str}{x y d:PyData}{r:List (PyData×PyData)}(h1:a≠f)(h2:b≠f):iP f ((.str a,x)::(.str b,y)::(.str f,d)::r)=some d:=(C_ h1).trans ((C_ h2).trans Aj)
section
variable {a b c e:List PyData→Option Sl} {kvs:List (PyData×PyData)}
theorem xW:kf [("Piece",a),("Parts",b),("Times",c),("Back",e)] [fj "Piece" kvs]=a [fj "Piece" kvs]:=by
 unfold kf fj
 simp only[List.lookup_cons,beq_self_eq_true,Option.bind_some]
theorem xX:kf [("Piece",a),("Parts",b),("Times",c),("Back",e)] [fj "Parts" kvs]=b [fj "Parts" kvs]:=by
 have z:(Str.ofString "Parts" == Str.ofString "Piece")=false:=by decide+kernel
 unfold kf fj
 simp only[List.lookup_cons,z,beq_self_eq_true,Option.bind_some]
theorem xY:kf [("Piece",a),("Parts",b),("Times",c),("Back",e)] [fj "Times" kvs]=c [fj "Times" kvs]:=by
 have z:(Str.ofString "Times" == Str.ofString "Piece")=false:=by decide+kernel
 have y:(Str.ofString "Times" == Str.ofString "Parts")=false:=by decide+kernel
 unfold kf fj
 simp only[List.lookup_cons,z,y,beq_self_eq_true,Option.bind_some]
theorem xZ:kf [("Piece",a),("Parts",b),("Times",c),("Back",e)] [fj "Back" kvs]=e [fj "Back" kvs]:=by
 have z:(Str.ofString "Back" == Str.ofString "Piece")=false:=by decide+kernel
 have y:(Str.ofString "Back" == Str.ofString "Parts")=false:=by decide+kernel
 have x:(Str.ofString "Back" == Str.ofString "Times")=false:=by decide+kernel
 unfold kf fj
 simp only[List.lookup_cons,z,y,x,beq_self_eq_true,Option.bind_some]
end
def Cn(cn:Str):Prop:=cn="Piece"∨cn="Parts"∨cn="Times"∨cn="Back"
theorem tj{a:List PyData→Option Sl}{cn:Str}{kvs:List (PyData×PyData)}(h:Cn cn):kf [("Piece",a),("Parts",a),("Times",a),("Back",a)] [fj cn kvs]=a [fj cn kvs]:=by
 rcases h with rfl |rfl |rfl |rfl
 ·exact xW
 ·exact xX
 ·exact xY
 ·exact xZ
theorem c4{cn:Str}(h:Cn cn):(["Piece","Parts","Times","Back"]:List Str).contains cn=true:=by
 rcases h with rfl |rfl |rfl |rfl <;> decide+kernel
theorem c1(s:Str):([s]:List Str).contains s=true:=by simp
structure Tk (d:PyData) (z:Int):Prop where
 ex:∃cn kvs,d=fj cn kvs∧Cn cn∧iP "size" kvs=some (.int z)
 fl:aJ d=true
theorem Tk.fld{d:PyData}{z:Int}(h:Tk d z){E:List Sl}{i:Nat}(e:E[i]? =some (.sh d)):fT ["Piece","Parts","Times","Back"] "size" (ad i) E=some (.sh (.int z),E):=by
 obtain⟨⟨cn,kvs,rfl,hc,l⟩,_⟩:=h
 exact jX e (c4 hc) l
theorem Tk.sz{d:PyData}{z:Int}(h:Tk d z):aN [d]=some (.sh (.int z)):=by
 have f:=h.fld (E:=[.sh d]) (i:=0) rfl
 have e:aN [d]=cH [d]:=by
  obtain⟨⟨cn,kvs,rfl,hc,l⟩,_⟩:=h
  exact tj hc
 rw[e]
 simp only[cH,bP,List.length_cons,List.length_nil,Nat.zero_add,bC,gj,aF,av,List.map_cons,List.map_nil,Nat.sub_self,List.replicate,List.cons_append,List.nil_append,f,Option.bind_some,bt,aR,aJ,if_true]
def CM(ds:List PyData)(z:Int):PyData:=fj "Parts" [(.str "kept",.tuple ds),(.str "size",.int z)]
def Da(d:PyData)(k z:Int):PyData:=fj "Times" [(.str "body",d),(.str "number",.int k),(.str "size",.int z)]
def Db(d e:PyData)(z:Int):PyData:=fj "Back" [(.str "one",d),(.str "other",e),(.str "size",.int z)]
theorem D7(p:Pc):Tk (vW p) 1:=⟨⟨_,_,rfl,.inl rfl,FO (by decide+kernel) (by decide+kernel)⟩,rfl⟩
theorem D8{ds:List PyData}(z:Int)(h:bg ds=true):Tk (CM ds z) z:=⟨⟨_,_,rfl,.inr (.inl rfl),(C_ (by decide+kernel)).trans Aj⟩,by simp[CM,aJ,mh,kU,m6,qH,h]⟩
theorem uB{d:PyData}(k z:Int)(h:aJ d=true):Tk (Da d k z) z:=⟨⟨_,_,rfl,.inr (.inr (.inl rfl)),FO (by decide+kernel) (by decide+kernel)⟩,by simp[Da,aJ,mh,kU,m6,qH,h]⟩
theorem x9{d e:PyData}(z:Int)(h:aJ d=true)(h':aJ e=true):Tk (Db d e z) z:=⟨⟨_,_,rfl,.inr (.inr (.inr rfl)),FO (by decide+kernel) (by decide+kernel)⟩,by simp[Db,aJ,mh,kU,m6,qH,h,h']⟩
theorem x_{d:PyData}{z:Int}(h:Tk d z):vV aN d=some z:=by unfold vV;rw[h.sz]
structure It where
 d:PyData
 z:Int
 c:List Pc
def Gs(p:Pc):It:=⟨vW p,1,[p]⟩
def Ak(x:It)(k:Int)(c:List Pc):It:=⟨Da x.d k (x.z*cm k),x.z*cm k,c⟩
def vX(x y:It):It:=⟨Db x.d y.d (2*(x.z+y.z)),2*(x.z+y.z),x.c++y.c++NH.contr x.c++NH.contr y.c⟩
def rT(r:List It):It:=⟨CM (r.map It.d) (r.map It.z).sum,(r.map It.z).sum,r.flatMap It.c⟩
theorem pA{d:PyData}{k:Int}(h:aJ d=true):aJ (.tuple [d,.int k])=true:=by simp[aJ,bg,h]
theorem ya(s:Str)(c:Nat)(h:s.cps.toList=[c])(T:List Nat)(n:Nat):qw ⟨T.toArray⟩ (n:Int) s=decide (T[n]? =some c):=by
 unfold qw;rw[h];simp
theorem md(s:Str)(c:Nat)(T:List Nat)(n:Nat)(h:s.cps.toList=[c])(hc:T[n]? =some c):bE [.str s,.str ⟨T.toArray⟩,.int n]=some (.sh (.int ((n:Int)+1))):=by
 have z:(0≤(n:Int))=True:=eq_true (by omega)
 have a0:qw ⟨T.toArray⟩ (n:Int) s=true:=(ya s c h T n).trans (decide_eq_true hc)
 have o:(s.cps.toList.length=1)=True:=eq_true (by rw[h];rfl)
 simp only[bE,bP,List.length_cons,List.length_nil,Nat.zero_add,Nat.reduceAdd,bC,lq,ay,aK,cA,cL,da,av,List.map_cons,List.map_nil,Nat.sub_self,List.replicate,List.cons_append,List.nil_append,List.getElem?_cons_succ,List.getElem?_cons_zero,af,ad,Sl.isBr,Bool.false_and,Bool.false_eq_true,ap,Option.map_some,if_false,Option.bind_some,ax,look,Sl.val,o,z,and_self,a0,if_true,dY,Bool.not_true,aB,aF,ag,pC,aE,hot,aV,Bool.not_false,Bool.true_or,Bool.and_true,bt,aR,aJ]
theorem ku (self:List PyData→Option Sl) (T:Str) (I dep J k m z:Int) (d:PyData) (hf:aJ d=true) (hz:vV aN d=some z) (hm:dA z (cm k)=true) (e1:self [.str T,.int (I+1),.int (dep+1)]=some (.sh (.tuple [d,.int J]))) (e2:bE [.str ")",.str T,.int J]=some (.sh (.int (J+1)))) (e3:aS [.str T,.int (J+1)]=some (.sh (.tuple [.int k,.int m]))):b_ self [.str T,.int I,.int dep]=some (.sh (.tuple [Da d k (z*cm k),.int m])):=by
 have ff:=(uB k (z*cm k) hf).fl
 unfold Da at ff ⊢
 have ft:aJ (.tuple [d,.int J])=true:=pA hf
 simp only[b_,bP,List.length_cons,List.length_nil,Nat.zero_add,Nat.reduceAdd,bC,gO,ay,aD,ao,af,ad,av,List.map_cons,List.map_nil,Nat.reduceSub,List.replicate,List.cons_append,List.nil_append,List.getElem?_cons_zero,Sl.isBr,Bool.false_and,Bool.false_eq_true,ag,pC,aE,look,Sl.val,hot,aV,Option.bind_some,Bool.not_false,Bool.true_or,Bool.and_true,if_false,ap,Option.map_some,List.getElem?_cons_succ,ax,e1,PL.settle,frz,frzAll,Nat.reduceLT,List.set_cons_succ,List.set_cons_zero,if_true,bq,aF,ek,ef,de,jH,e_,takeP,hV,cN,e2,e3,eQ,hz,hf,Bool.true_and,hm,Nat.reduceLeDiff,List.all_cons,ke,List.all_nil,Pt.val,bt,aR,aJ,bg]
 exact if_pos ff
theorem qj (self:List PyData→Option Sl) (T:Str) (I dep J M z y:Int) (d e:PyData) (hf:aJ d=true) (hg:aJ e=true) (hz:vV aN d=some z) (hy:vV aN e=some y) (e1:self [.str T,.int (I+1),.int (dep+1)]=some (.sh (.tuple [d,.int J]))) (e2:bE [.str ",",.str T,.int J]=some (.sh (.int (J+1)))) (e3:self [.str T,.int (J+1),.int (dep+1)]=some (.sh (.tuple [e,.int M]))) (e4:bE [.str "]",.str T,.int M]=some (.sh (.int (M+1)))):cD self [.str T,.int I,.int dep]=some (.sh (.tuple [Db d e (2*(z+y)),.int (M+1)])):=by
 have ff:=(x9 (2*(z+y)) hf hg).fl
 unfold Db at ff ⊢
 have ft:aJ (.tuple [d,.int J])=true:=pA hf
 have fu:aJ (.tuple [e,.int M])=true:=pA hg
 simp only[cD,bP,List.length_cons,List.length_nil,Nat.zero_add,Nat.reduceAdd,bC,ix,ay,aD,ao,af,ad,av,List.map_cons,List.map_nil,Nat.reduceSub,List.replicate,List.cons_append,List.nil_append,List.getElem?_cons_zero,Sl.isBr,Bool.false_and,Bool.false_eq_true,ag,pC,aE,look,Sl.val,hot,aV,Option.bind_some,Bool.not_false,Bool.true_or,Bool.and_true,if_false,ap,Option.map_some,List.getElem?_cons_succ,ax,e1,PL.settle,frz,frzAll,Nat.reduceLT,List.set_cons_succ,List.set_cons_zero,if_true,bq,aF,ek,ef,de,jH,fJ,takeP,hV,cN,e2,e3,eQ,hz,hy,hf,hg,e4,Nat.reduceLeDiff,List.all_cons,ke,List.all_nil,Pt.val,bt,aR,aJ,bg]
 exact if_pos ff
theorem tm:(Str.ofString ")").cps.toList=[41]:=by decide+kernel
theorem tz:(Str.ofString ",").cps.toList=[44]:=by decide+kernel
theorem tB:(Str.ofString "]").cps.toList=[93]:=by decide+kernel
theorem Bd{c:Nat}(b:Bool)(h:decide (c∈[41,44,93])=b):(Builtin.Str.occurrences (Str.ofString "),]") ⟨#[c]⟩ 0 (Str.ofString "),]").length 1).isEmpty= !b:=by
 have h1:=PySem.StrLaws.found_one (Str.ofString "),]") c
 have e:(Str.ofString "),]").cps.toList=[41,44,93]:=by decide+kernel
 rw[e,h]at h1
 cases b <;> simpa using h1
section
variable (self:List PyData→Option Sl)
theorem qk(T:List Nat)(x1 x2 x3 x5:Sl)(n N c:Nat)(b:Bool)(hN:T.length=N)(hT:(N≤1000000)=True)(hn:n < N)(hc:T[n]? =some c)(h:decide (c∈[41,44,93])=b):aX self [.sh (.str ⟨T.toArray⟩),x1,x2,x3,.sh (.int n),x5]=some (!b,[.sh (.str ⟨T.toArray⟩),x1,x2,x3,.sh (.int n),x5]):=by
 have e1:((n:Int) < (N:Int))=True:=eq_true (by omega)
 have e2:=Bd b h
 cases b <;> simp only[Bool.not_true,Bool.not_false]at e2 <;> simp only[aX,bI,a_,ag,ad,List.getElem?_cons_succ,List.getElem?_cons_zero,Sl.isBr,Bool.false_and,Bool.false_eq_true,bJ,af,ap,Option.map_some,if_false,cG,bz,look,Sl.val,ba,Cm.i,Cm.s,Option.bind_some,ax,aI,hN,hT,if_true,e1,decide_true,bq,hot,aV,pC,mq,pd,aW,hc,e2,Bool.not_true,Bool.not_false]
theorem Al(T:List Nat)(x1 x2 x3 x5:Sl)(n N:Nat)(hN:T.length=N)(hT:(N≤1000000)=True)(hn:¬n < N):aX self [.sh (.str ⟨T.toArray⟩),x1,x2,x3,.sh (.int n),x5]=some (false,[.sh (.str ⟨T.toArray⟩),x1,x2,x3,.sh (.int n),x5]):=by
 have e1:((n:Int) < (N:Int))=False:=eq_false (by omega)
 simp only[aX,bI,a_,ag,ad,List.getElem?_cons_succ,List.getElem?_cons_zero,Sl.isBr,Bool.false_and,Bool.false_eq_true,bJ,af,ap,Option.map_some,if_false,cG,bz,look,Sl.val,ba,Cm.i,Cm.s,Option.bind_some,ax,aI,hN,hT,if_true,e1,decide_false,bq,hot,aV,pC,mq,pd]
theorem uC(T:List Nat)(x1:Sl)(z o:PyData)(ds:List PyData)(n m:Int)(x5:Sl)(e:b9 self [.str ⟨T.toArray⟩,.int n,z]=some (.sh (.tuple [o,.int m])))(hl:(ds.length < 1000000)=True):bu self [.sh (.str ⟨T.toArray⟩),x1,.sh z,.ow ds,.sh (.int n),x5]=some ([.sh (.str ⟨T.toArray⟩),x1,.sh z,.ow (ds++[o]),.sh (.int m),.sh (.tuple [o,.int m])],.nx):=by
 simp only[bu,ay,aD,ao,af,ad,List.getElem?_cons_zero,Sl.isBr,Bool.false_and,Bool.false_eq_true,ap,Option.map_some,if_false,Option.bind_some,List.getElem?_cons_succ,ax,look,Sl.val,e,PL.settle,frz,frzAll,List.length_cons,List.length_nil,Nat.zero_add,Nat.reduceAdd,Nat.reduceLT,List.set_cons_succ,List.set_cons_zero,if_true,fV,dm,ag,pC,bq,hot,aV,eQ,hl,cN]
end
theorem yb:∀r:List It,(∀x∈r,Tk x.d x.z)→yG aN (r.map It.d)=some (r.map It.z)
 |[],_=>rfl
 |x::r,h=>by
  have ih:=yb r fun q hq=>h q (List.mem_cons_of_mem _ hq)
  rw[List.map_cons,yG,(h x (List.mem_cons_self ..)).sz]
  simp only[ih,Option.map_some,List.map_cons]
theorem ql:∀r:List It,(∀x∈r,Tk x.d x.z)→bg (r.map It.d)=true
 |[],_=>rfl
 |x::r,h=>by rw[List.map_cons,bg,(h x (List.mem_cons_self ..)).fl,ql r fun q hq=>h q (List.mem_cons_of_mem _ hq)];rfl
theorem oK (self:List PyData→Option Sl) (T:Str) (I dep J z:Int) (ds:List PyData) (x5:Sl) (hd:dep≤30) (hf:aJ (CM ds z)=true) (hz:fH aN [.list ds]=some [(.str "kept",.tuple ds),(.str "size",.int z)]) (w:fF (aX self) (bu self) [.sh (.str T),.sh (.int I),.sh (.int dep),.ow [],.sh (.int I),.no]=some ([.sh (.str T),.sh (.int I),.sh (.int dep),.ow ds,.sh (.int J),x5],.nx)):bP 3 6 (eN self) [.str T,.int I,.int dep]=some (.sh (.tuple [CM ds z,.int J])):=by
 have l:(30 < dep)=False:=eq_false (by omega)
 unfold CM at hf ⊢
 simp only[bP,List.length_cons,List.length_nil,Nat.zero_add,Nat.reduceAdd,bC,eN,ay,aK,a_,ag,ad,av,List.map_cons,List.map_nil,Nat.reduceSub,List.replicate,List.cons_append,List.nil_append,List.getElem?_cons_succ,List.getElem?_cons_zero,Sl.isBr,Bool.false_and,Bool.false_eq_true,pC,bz,look,Sl.val,ba,Cm.i,Cm.s,Option.bind_some,if_false,l,decide_false,Option.map_some,aB,aD,cj,bi,Nat.reduceLeDiff,if_true,PL.settle,frz,frzAll,aF,ek,ef,de,jH,af,ap,takeP,hV,Nat.reduceLT,List.set_cons_succ,List.set_cons_zero,w,ax,hz,List.all_cons,ke,List.all_nil,Bool.and_true,Pt.val,bt,aR,aJ,bg]
 exact if_pos hf
theorem Am{self:List PyData→Option Sl}{d:PyData}{z:Int}{ds:List PyData}(h:Tk d z)(h1:0 < z)(h2:z≤4000)(e:self [d]=some (.ow ds))(hf:bg ds=true):sT self [d]=some (.ow ds):=by
 have f:=h.fld (E:=[.sh d]) (i:=0) rfl
 have e0:sT self [d]=cC self [d]:=by
  obtain⟨⟨cn,kvs,rfl,hc,l⟩,_⟩:=h
  exact tj hc
 have l1:(4000 < z)=False:=eq_false (by omega)
 have l2:(0 < z)=True:=eq_true h1
 rw[e0]
 simp only[cC,bP,List.length_cons,List.length_nil,Nat.zero_add,bC,gv,ay,aK,a_,ag,av,List.map_cons,List.map_nil,Nat.sub_self,List.replicate,List.cons_append,List.nil_append,f,Sl.isBr,Bool.false_and,Bool.false_eq_true,pC,bz,look,Sl.val,ba,Cm.i,Cm.s,Option.bind_some,if_false,l1,decide_false,Option.map_some,aB,aF,oX,fW,ad,cj,bi,Nat.reduceLeDiff,if_true,l2,decide_true,List.getElem?_cons_zero,e,bt,aR,hf]
theorem An{self:List PyData→Option Sl}{d:PyData}(h:Tk d 0):sT self [d]=some (.ow []):=by
 have f:=h.fld (E:=[.sh d]) (i:=0) rfl
 have e0:sT self [d]=cC self [d]:=by
  obtain⟨⟨cn,kvs,rfl,hc,l⟩,_⟩:=h
  exact tj hc
 rw[e0]
 simp only[cC,bP,List.length_cons,List.length_nil,Nat.zero_add,bC,gv,ay,aK,a_,ag,av,List.map_cons,List.map_nil,Nat.sub_self,List.replicate,List.cons_append,List.nil_append,f,Sl.isBr,Bool.false_and,Bool.false_eq_true,pC,bz,look,Sl.val,ba,Cm.i,Cm.s,Option.bind_some,if_false,Int.reduceLT,decide_false,Option.map_some,aB,aF,oX,cj,bi,Nat.reduceLeDiff,if_true,bt,aR,bg]
structure Co (n:Nat) (x:It):Prop where
 tk:Tk x.d x.z
 nn:0≤x.z
 co:x.z≤4000→sT (cM n) [x.d]=some (.ow (x.c.map cK))∧(x.c.length:Int)=x.z
theorem Co.mk'{n:Nat}{x:It}(tk:Tk x.d x.z)(nn:0≤x.z)(hl:x.z≤4000→(x.c.length:Int)=x.z)(h:0 < x.z→x.z≤4000→cM n [x.d]=some (.ow (x.c.map cK))):Co n x:=by
 refine⟨tk,nn,fun h4=>⟨?_,hl h4⟩⟩
 by_cases z:x.z=0
 ·have hc:x.c=[]:=List.eq_nil_of_length_eq_zero (by have:=hl h4;omega)
  rw[hc]
  rw[z]at tk
  exact An tk
 ·exact Am tk (by omega) h4 (h (by omega) h4) (d_ _)
theorem D9(n:Nat)(p:Pc):Co (n+1) (Gs p):=by
 refine .mk' (D7 p) (show(0:Int)≤1 by decide) (fun _=>rfl) fun _ _=>?_
 have e2:cM (n+1) [vW p]=eW [vW p]:=xW
 have f1:fT ["Piece"] "nail" (ad 0) [.sh (vW p)]=some (.sh (.str ⟨#[p.1]⟩),[.sh (vW p)]):=jX rfl (c1 _) Aj
 have f2:fT ["Piece"] "turns" (ad 0) [.sh (vW p)]=some (.sh (.int p.2),[.sh (vW p)]):=jX rfl (c1 _) ((C_ (by decide+kernel)).trans Aj)
 show cM (n+1) [vW p]=_
 rw[e2]
 simp only[eW,bP,List.length_cons,List.length_nil,Nat.zero_add,bC,gH,aF,cj,aw,c8,av,List.map_cons,List.map_nil,Nat.sub_self,List.replicate,List.cons_append,List.nil_append,f1,frz,bi,Option.map_some,Option.bind_some,f2,Nat.reduceAdd,Nat.reduceLeDiff,if_true,bt,aR,bg,aJ,Bool.and_true,Gs,cK]
theorem uD(self:List PyData→Option Sl)(x0:Sl):∀(r:List It) (acc:List Pc) (a:Sl),(∀x∈r,self [x.d]=some (.ow (x.c.map cK)))→acc.length+(r.flatMap It.c).length≤900000→∃a',dL di (dk self) (r.map It.d) [x0,.ow (acc.map cK),a]=some ([x0,.ow ((acc++r.flatMap It.c).map cK),a'],.nx)
 |[],acc,a,_,_=>⟨a,by rw[List.flatMap_nil,List.append_nil];rfl⟩
 |x::r,acc,a,h,hl=>by
  have hs:=h x (List.mem_cons_self ..)
  have h1:((acc.map cK).length+(x.c.map cK).length≤1000000)=True:=eq_true (by rw[List.length_map,List.length_map];simp at hl;omega)
  have ff:=d_ x.c
  have st:(di x.d [x0,.ow (acc.map cK),a]).bind (dk self)=some ([x0,.ow ((acc++x.c).map cK),.sh x.d],.nx):=by
   rw[List.map_append]
   generalize x.c.map cK=q at hs h1 ff
   simp only[di,dZ,List.length_cons,List.length_nil,Nat.zero_add,Nat.reduceAdd,Nat.reduceLT,List.set_cons_succ,List.set_cons_zero,if_true,dk,Option.bind_some,fV,mK,List.getElem?_cons_succ,List.getElem?_cons_zero,fW,ad,look,Sl.val,hs,Option.map_some,h1]
  obtain⟨a',e⟩:=uD self x0 r (acc++x.c) (.sh x.d) (fun q hq=>h q (List.mem_cons_of_mem _ hq)) (by simp at hl ⊢;omega)
  refine⟨a',?_⟩
  rw[List.map_cons,dL,st]
  rw[List.flatMap_cons,←List.append_assoc]
  exact e
theorem yc:∀r:List It,(∀x∈r,(x.c.length:Int)=x.z)→((r.flatMap It.c).length:Int)=(r.map It.z).sum
 |[],_=>rfl
 |x::r,h=>by
  have ih:=yc r fun q hq=>h q (List.mem_cons_of_mem _ hq)
  have:=h x (List.mem_cons_self ..)
  rw[List.flatMap_cons,List.length_append,List.map_cons,List.sum_cons,←ih,←this]
  omega
theorem tD:∀r:List It,(∀x∈r,0≤x.z)→0≤(r.map It.z).sum
 |[],_=>Int.le_refl _
 |x::r,h=>by
  have ih:=tD r fun q hq=>h q (List.mem_cons_of_mem _ hq)
  have:=h x (List.mem_cons_self ..)
  rw[List.map_cons,List.sum_cons]
  omega
theorem yd:∀r:List It,(∀x∈r,0≤x.z)→∀x∈r,x.z≤(r.map It.z).sum
 |[],_,_,hx=>nomatch hx
 |y::r,h,x,hx=>by
  have s:=tD r fun q hq=>h q (List.mem_cons_of_mem _ hq)
  rw[List.map_cons,List.sum_cons]
  rcases List.mem_cons.mp hx with e |e
  ·rw[e];omega
  ·have:=yd r (fun q hq=>h q (List.mem_cons_of_mem _ hq)) x e
   have:=h y (List.mem_cons_self ..)
   omega
theorem D_{n:Nat}{r:List It}(h:∀x∈r,Co n x):Co (n+1) (rT r):=by
 have nn:∀x∈r,0≤x.z:=fun x hx=>(h x hx).nn
 have hf:=ql r fun x hx=>(h x hx).tk
 have sm:(rT r).z≤4000→∀x∈r,x.z≤4000:=fun z x hx=>Int.le_trans (yd r nn x hx) z
 have hl:(rT r).z≤4000→((rT r).c.length:Int)=(rT r).z:=fun z=>yc r fun x hx=>((h x hx).co (sm z x hx)).2
 refine .mk' (D8 _ hf) (tD r nn) hl fun z0 z4=>?_
 have e2:cM (n+1) [(rT r).d]=eX (sT (cM n)) [(rT r).d]:=xX
 rw[e2]
 have l4:=hl z4
 obtain⟨a',l⟩:=uD (sT (cM n)) (.sh (rT r).d) r [] .no (fun x hx=>((h x hx).co (sm z4 x hx)).1) (by
  have:(r.flatMap It.c).length=(rT r).c.length:=rfl
  simp only[List.length_nil]
  omega)
 rw[List.nil_append]at l
 have k:fT ["Parts"] "kept" (ad 0) [.sh (rT r).d,.ow [],.no]=some (.sh (.tuple (r.map It.d)),[.sh (rT r).d,.ow [],.no]):=jX rfl (c1 _) Aj
 have l':dL di (dk (sT (cM n))) (r.map It.d) [.sh (rT r).d,.ow [],.no]=_:=l
 have fy:bg ((rT r).c.map cK)=true:=d_ _
 have cc:(rT r).c=r.flatMap It.c:=rfl
 rw[cc]at fy ⊢
 generalize r.map It.d=q at k l'
 generalize (r.flatMap It.c).map cK=y at l' fy ⊢
 simp only[eX,bP,List.length_cons,List.length_nil,Nat.zero_add,bC,gI,ay,aD,cj,bi,av,List.map_cons,List.map_nil,Nat.reduceSub,List.replicate,List.cons_append,List.nil_append,Option.bind_some,Nat.reduceLeDiff,if_true,PL.settle,frz,frzAll,Nat.reduceAdd,Nat.reduceLT,List.set_cons_succ,List.set_cons_zero,kd,zy,aF,ad,k,l',List.getElem?_cons_succ,List.getElem?_cons_zero,Option.map_some,bt,aR,fy]
def rp(c:List Pc)(k:Int):List Pc:=if k < 0 then (List.replicate (-k).toNat (NH.contr c)).flatten else (List.replicate k.toNat c).flatten
theorem mM{α:Type}(k:Nat)(l:List α):(List.replicate k l).flatten.length=k*l.length:=by simp
theorem tE(c:List Pc)(k:Int):((rp c k).length:Int)=c.length*cm k:=by
 unfold rp cm
 split
 ·rename_i h
  rw[mM,NH.bN,Int.natCast_mul,Int.toNat_of_nonneg (by omega),Int.mul_comm]
 ·rename_i h
  rw[mM,Int.natCast_mul,Int.toNat_of_nonneg (by omega),Int.mul_comm]
theorem rM(c:List Pc)(k:Int)(h1:0 < c.length)(h:(c.length:Int)*cm k≤4000)(h2:0 < (c.length:Int)*cm k):dE [.list (c.map cK),.int k]=some (.ow ((rp c k).map cK)):=by
 have ak:0≤cm k:=by unfold cm;split <;> omega
 have kb:cm k≤4000:=by
  have:1*cm k≤(c.length:Int)*cm k:=Int.mul_le_mul_of_nonneg_right (by omega) ak
  omega
 have cb:(c.length:Int)≤4000:=by
  have a1:1≤cm k:=by
   rcases Int.lt_or_le (cm k) 1 with z |z
   ·have:cm k=0:=by omega
    rw[this]at h2
    simp at h2
   ·exact z
  have:(c.length:Int)*1≤(c.length:Int)*cm k:=Int.mul_le_mul_of_nonneg_left a1 (by omega)
  omega
 have lm:(c.length*(cm k).toNat≤1000000)=True:=eq_true (by
  have:((c.length*(cm k).toNat:Nat):Int)=(c.length:Int)*cm k:=by rw[Int.natCast_mul,Int.toNat_of_nonneg ak]
  omega)
 have k1:(-1000000≤cm k)=True:=eq_true (by omega)
 have k2:(cm k≤1000000)=True:=eq_true (by omega)
 by_cases hk:k < 0
 ·have ea:cm k= -k:=if_pos hk
  have er:rp c k=(List.replicate (-k).toNat (NH.contr c)).flatten:=if_pos hk
  have ec:=jV c (by omega)
  have lc:(NH.contr c).length=c.length:=NH.bN c
  rw[ea]at lm k1 k2
  rw[er]
  simp only[dE,bP,List.length_cons,List.length_nil,Nat.zero_add,Nat.reduceAdd,bC,h9,aF,ag,oX,a_,ad,av,List.map_cons,List.map_nil,Nat.sub_self,List.replicate,List.cons_append,List.nil_append,List.getElem?_cons_succ,List.getElem?_cons_zero,Sl.isBr,Bool.false_and,Bool.false_eq_true,pC,bz,look,Sl.val,ba,Cm.i,Cm.s,Option.bind_some,if_false,hk,decide_true,Option.map_some,ao,af,ap,ax,ec,if_true,bJ,nW,dX,hot,aV,Bool.not_false,Bool.true_or,Bool.and_true,List.length_map,lc,lm,k1,k2,and_self,mJ,bt,aR,d_]
 ·have ea:cm k=k:=if_neg hk
  have er:rp c k=(List.replicate k.toNat c).flatten:=if_neg hk
  rw[ea]at lm k1 k2
  rw[er]
  simp only[dE,bP,List.length_cons,List.length_nil,Nat.zero_add,Nat.reduceAdd,bC,h9,aF,ag,oX,a_,ad,av,List.map_cons,List.map_nil,Nat.sub_self,List.replicate,List.cons_append,List.nil_append,List.getElem?_cons_succ,List.getElem?_cons_zero,Sl.isBr,Bool.false_and,Bool.false_eq_true,pC,bz,look,Sl.val,ba,Cm.i,Cm.s,Option.bind_some,if_false,hk,decide_false,Option.map_some,ao,af,ap,ax,bJ,nW,dX,hot,aV,Bool.not_false,Bool.true_or,Bool.and_true,List.length_map,lm,k1,k2,and_self,decide_true,mJ,if_true,bt,aR,d_]
theorem Ea{n:Nat}{x:It}{k:Int}{c:List Pc}(h:Co n x)(hc:x.z*cm k≤4000→c=rp x.c k):Co (n+1) (Ak x k c):=by
 have ak:0≤cm k:=by unfold cm;split <;> omega
 have z4:x.z*cm k≤4000→0 < x.z*cm k→x.z≤4000:=fun a b=>by
  have a1:1≤cm k:=by
   rcases Int.lt_or_le (cm k) 1 with z |z
   ·have:cm k=0:=by omega
    rw[this]at b
    simp at b
   ·exact z
  have:x.z*1≤x.z*cm k:=Int.mul_le_mul_of_nonneg_left a1 h.nn
  omega
 have lr:x.z*cm k≤4000→((rp x.c k).length:Int)=x.z*cm k:=fun a=>by
  rw[tE]
  by_cases b:0 < x.z*cm k
  ·rw[(h.co (z4 a b)).2]
  ·have b0:x.z*cm k=0:=by have:=Int.mul_nonneg h.nn ak;omega
   rcases Int.mul_eq_zero.mp b0 with q |q
   ·have:=(h.co (by omega)).2
    rw[this]
   ·rw[q];simp
 refine .mk' (uB k _ h.tk.fl) (Int.mul_nonneg h.nn ak) (fun a=>by
  show(c.length:Int)=x.z*cm k
  rw[hc a];exact lr a) fun z0 z4'=>?_
 have a0:0 < x.z*cm k:=z0
 have a4:x.z*cm k≤4000:=z4'
 obtain⟨e1,e2⟩:=h.co (z4 a4 a0)
 have p1:0 < x.c.length:=by
  rcases Nat.eq_zero_or_pos x.c.length with q |q
  ·rw[q]at e2
   rw[←e2]at a0
   simp at a0
  ·exact q
 have er:=rM x.c k p1 (by rw[e2];exact a4) (by rw[e2];exact a0)
 have e3:cM (n+1) [(Ak x k c).d]=eY (sT (cM n)) [(Ak x k c).d]:=xY
 rw[e3]
 have f1:fT ["Times"] "body" (ad 0) [.sh (Ak x k c).d]=some (.sh x.d,[.sh (Ak x k c).d]):=jX rfl (c1 _) Aj
 have f2:fT ["Times"] "number" (ad 0) [.sh (Ak x k c).d]=some (.sh (.int k),[.sh (Ak x k c).d]):=jX rfl (c1 _) ((C_ (by decide+kernel)).trans Aj)
 have cc:(Ak x k c).c=rp x.c k:=hc a4
 have fy:=d_ (rp x.c k)
 rw[cc]
 generalize (rp x.c k).map cK=y at er fy ⊢
 simp only[eY,bP,List.length_cons,List.length_nil,Nat.zero_add,bC,gJ,aF,ao,af,fW,av,List.map_cons,List.map_nil,Nat.sub_self,List.replicate,List.cons_append,List.nil_append,f1,look,Sl.val,Option.bind_some,e1,Option.map_some,Sl.isBr,Bool.false_and,Bool.false_eq_true,ap,if_false,f2,ax,er,bt,aR,fy,if_true]
theorem CN(a b:List Pc)(h:a.length+b.length≤10000):bW [.list (a.map cK),.list (b.map cK)]=some (.ow ((a++b++NH.contr a++NH.contr b).map cK)):=by
 have e1:=jV a (by omega)
 have e2:=jV b (by omega)
 have la:(NH.contr a).length=a.length:=NH.bN a
 have lb:(NH.contr b).length=b.length:=NH.bN b
 have l1:(a.length+b.length≤1000000)=True:=eq_true (by omega)
 have l2:((a++b).length+(NH.contr a).length≤1000000)=True:=eq_true (by rw[List.length_append];omega)
 have l3:((a++b++NH.contr a).length+(NH.contr b).length≤1000000)=True:=eq_true (by rw[List.length_append,List.length_append];omega)
 simp only[bW,bP,List.length_cons,List.length_nil,Nat.zero_add,Nat.reduceAdd,bC,eM,aF,ag,ad,av,List.map_cons,List.map_nil,Nat.sub_self,List.replicate,List.cons_append,List.nil_append,List.getElem?_cons_zero,Sl.isBr,Bool.false_and,Bool.false_eq_true,aE,look,Sl.val,hot,aV,if_false,Option.bind_some,List.getElem?_cons_succ,Bool.not_false,Bool.true_or,Bool.and_true,List.length_map,l1,decide_true,←List.map_append,if_true,ao,af,ap,Option.map_some,ax,e1,l2,e2,l3,bt,aR,d_]
theorem Eb{n:Nat}{x y:It}(h:Co n x)(k:Co n y):Co (n+1) (vX x y):=by
 have hx:=h.nn
 have hy:=k.nn
 have nn:(vX x y).z=2*(x.z+y.z):=rfl
 refine .mk' (x9 _ h.tk.fl k.tk.fl) (by omega) (fun a=>?_) fun z0 z4=>?_
 ·have e1:=(h.co (by omega)).2
  have e2:=(k.co (by omega)).2
  show((x.c++y.c++NH.contr x.c++NH.contr y.c).length:Int)=_
  simp only[List.length_append,NH.bN]
  omega
 ·obtain⟨e1,q1⟩:=h.co (by omega)
  obtain⟨e2,q2⟩:=k.co (by omega)
  have er:=CN x.c y.c (by omega)
  have e3:cM (n+1) [(vX x y).d]=fL (sT (cM n)) [(vX x y).d]:=xZ
  rw[e3]
  have f1:fT ["Back"] "one" (ad 0) [.sh (vX x y).d]=some (.sh x.d,[.sh (vX x y).d]):=jX rfl (c1 _) Aj
  have f2:fT ["Back"] "other" (ad 0) [.sh (vX x y).d]=some (.sh y.d,[.sh (vX x y).d]):=jX rfl (c1 _) ((C_ (by decide+kernel)).trans Aj)
  have fy:=d_ (vX x y).c
  have er':bW [.list (x.c.map cK),.list (y.c.map cK)]=some (.ow ((vX x y).c.map cK)):=er
  generalize (vX x y).c.map cK=w at er' fy ⊢
  simp only[fL,bP,List.length_cons,List.length_nil,Nat.zero_add,bC,iu,aF,ao,af,fW,av,List.map_cons,List.map_nil,Nat.sub_self,List.replicate,List.cons_append,List.nil_append,f1,look,Sl.val,Option.bind_some,e1,Option.map_some,Sl.isBr,Bool.false_and,Bool.false_eq_true,ap,if_false,f2,e2,ax,er',bt,aR,fy,if_true]
abbrev mO:Str:=Str.ofString "NoText"
section
variable (s:Str) (c:Nat) (T:List Nat) (n:Nat)
theorem nP(h:s.cps.toList=[c])(hc:T[n]? =some c):bR [.str s,.str ⟨T.toArray⟩,.int n]=none:=by
 have z:(0≤(n:Int))=True:=eq_true (by omega)
 have a0:qw ⟨T.toArray⟩ (n:Int) s=true:=(ya s c h T n).trans (decide_eq_true hc)
 have o:(s.cps.toList.length=1)=True:=eq_true (by rw[h];rfl)
 simp only[bR,jL,List.length_cons,List.length_nil,Nat.zero_add,Nat.reduceAdd,jT,nS,cA,cL,da,av,List.map_cons,List.map_nil,Nat.sub_self,List.replicate,List.cons_append,List.nil_append,List.getElem?_cons_succ,List.getElem?_cons_zero,af,ad,Sl.isBr,Bool.false_and,Bool.false_eq_true,ap,Option.map_some,if_false,Option.bind_some,ax,look,Sl.val,o,z,and_self,a0,if_true,dY,Bool.not_true,Option.map_none]
theorem nQ(h:s.cps.toList=[c])(hc:T[n]? ≠some c):bR [.str s,.str ⟨T.toArray⟩,.int n]=some mO:=by
 have z:(0≤(n:Int))=True:=eq_true (by omega)
 have a0:qw ⟨T.toArray⟩ (n:Int) s=false:=(ya s c h T n).trans (decide_eq_false hc)
 have o:(s.cps.toList.length=1)=True:=eq_true (by rw[h];rfl)
 simp only[bR,jL,List.length_cons,List.length_nil,Nat.zero_add,Nat.reduceAdd,jT,nS,cA,cL,da,av,List.map_cons,List.map_nil,Nat.sub_self,List.replicate,List.cons_append,List.nil_append,List.getElem?_cons_succ,List.getElem?_cons_zero,af,ad,Sl.isBr,Bool.false_and,Bool.false_eq_true,ap,Option.map_some,if_false,Option.bind_some,ax,look,Sl.val,o,z,and_self,a0,if_true,dY,Bool.not_false,jJ]
end
section
variable (self:List PyData→Option Sl) (rs:List PyData→Option Str) (T:Str) (I dep J M z y:Int) (d e:PyData)
theorem Ec(h:rs [.str T,.int (I+1),.int (dep+1)]=some mO):ce self rs [.str T,.int I,.int dep]=some mO:=by
 simp only[ce,jL,List.length_cons,List.length_nil,Nat.zero_add,Nat.reduceAdd,fP,kE,df,af,ad,av,List.map_cons,List.map_nil,Nat.reduceSub,List.replicate,List.cons_append,List.nil_append,List.getElem?_cons_zero,Sl.isBr,Bool.false_and,Bool.false_eq_true,ag,pC,aE,look,Sl.val,hot,aV,Option.bind_some,Bool.not_false,Bool.true_or,Bool.and_true,if_false,ap,Option.map_some,List.getElem?_cons_succ,ax,h,if_true]
theorem CO (r:Option Str) (h:rs [.str T,.int (I+1),.int (dep+1)]=none) (e1:self [.str T,.int (I+1),.int (dep+1)]=some (.sh (.tuple [d,.int J]))) (hb:bR [.str ")",.str T,.int J]=r):ce self rs [.str T,.int I,.int dep]=r:=by
 subst hb
 generalize hr:bR [.str ")",.str T,.int J]=r
 cases r <;> simp only[ce,jL,List.length_cons,List.length_nil,Nat.zero_add,Nat.reduceAdd,fP,kE,df,af,ad,av,List.map_cons,List.map_nil,Nat.reduceSub,List.replicate,List.cons_append,List.nil_append,List.getElem?_cons_zero,Sl.isBr,Bool.false_and,Bool.false_eq_true,ag,pC,aE,look,Sl.val,hot,aV,Option.bind_some,Bool.not_false,Bool.true_or,Bool.and_true,if_false,ap,Option.map_some,List.getElem?_cons_succ,ax,h,Option.map_none,fU,aD,ao,e1,PL.settle,frz,frzAll,Nat.reduceLT,List.set_cons_succ,List.set_cons_zero,if_true,kj,bq,cN,hr]
theorem Ed(h:rs [.str T,.int (I+1),.int (dep+1)]=some mO):bO self rs [.str T,.int I,.int dep]=some mO:=by
 simp only[bO,jL,List.length_cons,List.length_nil,Nat.zero_add,Nat.reduceAdd,eK,kE,df,af,ad,av,List.map_cons,List.map_nil,Nat.reduceSub,List.replicate,List.cons_append,List.nil_append,List.getElem?_cons_zero,Sl.isBr,Bool.false_and,Bool.false_eq_true,ag,pC,aE,look,Sl.val,hot,aV,Option.bind_some,Bool.not_false,Bool.true_or,Bool.and_true,if_false,ap,Option.map_some,List.getElem?_cons_succ,ax,h,if_true]
theorem FP (h:rs [.str T,.int (I+1),.int (dep+1)]=none) (e1:self [.str T,.int (I+1),.int (dep+1)]=some (.sh (.tuple [d,.int J]))) (hb:bR [.str ",",.str T,.int J]=some mO):bO self rs [.str T,.int I,.int dep]=some mO:=by
 simp only[bO,jL,List.length_cons,List.length_nil,Nat.zero_add,Nat.reduceAdd,eK,kE,df,af,ad,av,List.map_cons,List.map_nil,Nat.reduceSub,List.replicate,List.cons_append,List.nil_append,List.getElem?_cons_zero,Sl.isBr,Bool.false_and,Bool.false_eq_true,ag,pC,aE,look,Sl.val,hot,aV,Option.bind_some,Bool.not_false,Bool.true_or,Bool.and_true,if_false,ap,Option.map_some,List.getElem?_cons_succ,ax,h,Option.map_none,fU,aD,ao,e1,PL.settle,frz,frzAll,Nat.reduceLT,List.set_cons_succ,List.set_cons_zero,if_true,kj,bq,cN,hb]
theorem FQ (h:rs [.str T,.int (I+1),.int (dep+1)]=none) (e1:self [.str T,.int (I+1),.int (dep+1)]=some (.sh (.tuple [d,.int J]))) (hb:bR [.str ",",.str T,.int J]=none) (e2:bE [.str ",",.str T,.int J]=some (.sh (.int (J+1)))) (h2:rs [.str T,.int (J+1),.int (dep+1)]=some mO):bO self rs [.str T,.int I,.int dep]=some mO:=by
 simp only[bO,jL,List.length_cons,List.length_nil,Nat.zero_add,Nat.reduceAdd,eK,kE,df,af,ad,av,List.map_cons,List.map_nil,Nat.reduceSub,List.replicate,List.cons_append,List.nil_append,List.getElem?_cons_zero,Sl.isBr,Bool.false_and,Bool.false_eq_true,ag,pC,aE,look,Sl.val,hot,aV,Option.bind_some,Bool.not_false,Bool.true_or,Bool.and_true,if_false,ap,Option.map_some,List.getElem?_cons_succ,ax,h,Option.map_none,fU,aD,ao,e1,PL.settle,frz,frzAll,Nat.reduceLT,List.set_cons_succ,List.set_cons_zero,if_true,kj,bq,cN,hb,e2,h2]
theorem Ee (r:Option Str) (hf:aJ d=true) (hg:aJ e=true) (hz:vV aN d=some z) (hy:vV aN e=some y) (h:rs [.str T,.int (I+1),.int (dep+1)]=none) (e1:self [.str T,.int (I+1),.int (dep+1)]=some (.sh (.tuple [d,.int J]))) (hb:bR [.str ",",.str T,.int J]=none) (e2:bE [.str ",",.str T,.int J]=some (.sh (.int (J+1)))) (h2:rs [.str T,.int (J+1),.int (dep+1)]=none) (e3:self [.str T,.int (J+1),.int (dep+1)]=some (.sh (.tuple [e,.int M]))) (hb2:bR [.str "]",.str T,.int M]=r):bO self rs [.str T,.int I,.int dep]=r:=by
 subst hb2
 generalize hr:bR [.str "]",.str T,.int M]=r
 cases r <;> simp only[bO,jL,List.length_cons,List.length_nil,Nat.zero_add,Nat.reduceAdd,eK,kE,df,af,ad,av,List.map_cons,List.map_nil,Nat.reduceSub,List.replicate,List.cons_append,List.nil_append,List.getElem?_cons_zero,Sl.isBr,Bool.false_and,Bool.false_eq_true,ag,pC,aE,look,Sl.val,hot,aV,Option.bind_some,Bool.not_false,Bool.true_or,Bool.and_true,if_false,ap,Option.map_some,List.getElem?_cons_succ,ax,h,Option.map_none,fU,aD,ao,e1,PL.settle,frz,frzAll,Nat.reduceLT,List.set_cons_succ,List.set_cons_zero,if_true,kj,bq,cN,hb,e2,h2,e3,jH,eQ,fJ,hz,hy,hf,hg,hr]
end
theorem rN(n:Nat)(h:¬rL n):bS [.str ⟨#[n]⟩]=some (.sh (.bool false)):=by
 by_cases q:n < 97
 ·exact im n q
 ·have l:(⟨#[n]⟩:Str).length=1:=rfl
  have a:decide (n < 97)=false:=decide_eq_false q
  have z:decide (122 < n)=true:=decide_eq_true (by unfold rL at h;omega)
  simp only[bS,bP,List.length_cons,List.length_nil,Nat.zero_add,bC,g_,aF,kh,gE,ad,av,List.map_cons,List.map_nil,Nat.sub_self,List.replicate,List.cons_append,List.nil_append,List.getElem?_cons_zero,look,Sl.val,ip,Ty.is,ud,Option.bind_some,Option.map_some,ag,bJ,af,Sl.isBr,Bool.false_and,Bool.false_eq_true,ap,if_false,cG,pC,cP,bz,cZ,Bool.or_false,ba,Cm.i,Cm.s,ax,l,Nat.reduceLeDiff,Int.cast_ofNat_Int,if_true,aQ,decide_true,xU,ma,z,Bool.not_true,xT,a,Bool.not_false,bt,aR,aJ]
section
variable (self:List PyData→Option Sl) (rs:List PyData→Option Str) (T:List Nat) (n c:Nat) (hT:(T.length≤1000000)=True) (hc:T[n]? =some c) (z:PyData)
include hT hc
theorem Ef(hn:rL c)(r:PyData)(e:bA [.str ⟨T.toArray⟩,.int n]=some (.sh r))(hf:aJ r=true):bh self rs [.str ⟨T.toArray⟩,.int n,z]=none:=by
 have hn:=kO c hn
 simp only[bh,jL,List.length_cons,List.length_nil,Nat.zero_add,Nat.reduceAdd,du,fU,aK,cL,ao,af,ag,ad,av,List.map_cons,List.map_nil,Nat.sub_self,List.replicate,List.cons_append,List.nil_append,List.getElem?_cons_zero,Sl.isBr,Bool.false_and,Bool.false_eq_true,bq,look,Sl.val,hot,aV,if_false,Option.bind_some,List.getElem?_cons_succ,aI,hT,if_true,aW,hc,Option.map_some,ap,ax,hn,dY,aF,aB,e,Option.map_none]
theorem CP(q:c=40)(r:Option Str)(h:ce self rs [.str ⟨T.toArray⟩,.int n,z]=r)(g:PyData)(hh:r=none→b_ self [.str ⟨T.toArray⟩,.int n,z]=some (.sh g)∧aJ g=true):bh self rs [.str ⟨T.toArray⟩,.int n,z]=r:=by
 subst q
 have hn:=im 40 (by decide)
 have q:=xV
 cases r with
 |some x=>simp only[bh,jL,List.length_cons,List.length_nil,Nat.zero_add,Nat.reduceAdd,du,fU,aK,cL,ao,af,ag,ad,av,List.map_cons,List.map_nil,Nat.sub_self,List.replicate,List.cons_append,List.nil_append,List.getElem?_cons_zero,Sl.isBr,Bool.false_and,Bool.false_eq_true,bq,look,Sl.val,hot,aV,if_false,Option.bind_some,List.getElem?_cons_succ,aI,hT,if_true,aW,hc,Option.map_some,ap,ax,hn,dY,aF,aB,kE,nS,a_,pC,eq_40,cP,bz,bL,decide_true,df,h]
 |none=>
  obtain⟨e,hf⟩:=hh rfl
  simp only[bh,jL,List.length_cons,List.length_nil,Nat.zero_add,Nat.reduceAdd,du,fU,aK,cL,ao,af,ag,ad,av,List.map_cons,List.map_nil,Nat.sub_self,List.replicate,List.cons_append,List.nil_append,List.getElem?_cons_zero,Sl.isBr,Bool.false_and,Bool.false_eq_true,bq,look,Sl.val,hot,aV,if_false,Option.bind_some,List.getElem?_cons_succ,aI,hT,if_true,aW,hc,Option.map_some,ap,ax,hn,dY,aF,aB,kE,nS,a_,pC,eq_40,cP,bz,bL,decide_true,df,h,Option.map_none,e]
theorem Eg(q:c=91)(r:Option Str)(h:bO self rs [.str ⟨T.toArray⟩,.int n,z]=r)(g:PyData)(hh:r=none→cD self [.str ⟨T.toArray⟩,.int n,z]=some (.sh g)∧aJ g=true):bh self rs [.str ⟨T.toArray⟩,.int n,z]=r:=by
 subst q
 have hn:=im 91 (by decide)
 have n1:(91=40)=False:=by decide
 cases r with
 |some x=>simp only[bh,jL,List.length_cons,List.length_nil,Nat.zero_add,Nat.reduceAdd,du,fU,aK,cL,ao,af,ag,ad,av,List.map_cons,List.map_nil,Nat.sub_self,List.replicate,List.cons_append,List.nil_append,List.getElem?_cons_zero,Sl.isBr,Bool.false_and,Bool.false_eq_true,bq,look,Sl.val,hot,aV,if_false,Option.bind_some,List.getElem?_cons_succ,aI,hT,if_true,aW,hc,Option.map_some,ap,ax,hn,dY,aF,aB,kE,nS,a_,pC,eq_40,cP,bz,bL,pT,n1,decide_false,uA,decide_true,df,h]
 |none=>
  obtain⟨e,hf⟩:=hh rfl
  simp only[bh,jL,List.length_cons,List.length_nil,Nat.zero_add,Nat.reduceAdd,du,fU,aK,cL,ao,af,ag,ad,av,List.map_cons,List.map_nil,Nat.sub_self,List.replicate,List.cons_append,List.nil_append,List.getElem?_cons_zero,Sl.isBr,Bool.false_and,Bool.false_eq_true,bq,look,Sl.val,hot,aV,if_false,Option.bind_some,List.getElem?_cons_succ,aI,hT,if_true,aW,hc,Option.map_some,ap,ax,hn,dY,aF,aB,kE,nS,a_,pC,eq_40,cP,bz,bL,pT,n1,decide_false,uA,decide_true,df,h,Option.map_none,e]
theorem Eh(hn:¬rL c)(q1:(c=40)=False)(q2:(c=91)=False):bh self rs [.str ⟨T.toArray⟩,.int n,z]=some mO:=by
 have hn:=rN c hn
 simp only[bh,jL,List.length_cons,List.length_nil,Nat.zero_add,Nat.reduceAdd,du,fU,aK,cL,ao,af,ag,ad,av,List.map_cons,List.map_nil,Nat.sub_self,List.replicate,List.cons_append,List.nil_append,List.getElem?_cons_zero,Sl.isBr,Bool.false_and,Bool.false_eq_true,bq,look,Sl.val,hot,aV,if_false,Option.bind_some,List.getElem?_cons_succ,aI,hT,if_true,aW,hc,Option.map_some,ap,ax,hn,dY,aF,aB,kE,nS,a_,pC,eq_40,cP,bz,bL,pT,q1,decide_false,uA,q2,jJ]
end
theorem me:(Str.ofString "([").cps.toList=[40,91]:=by decide+kernel
theorem tF:(Str.ofString "abcdefghijklmnopqrstuvwxyz").cps.toList=[97,98,99,100,101,102,103,104,105,106,107,108,109,110,111,112,113,114,115,116,117,118,119,120,121,122]:=by decide+kernel
theorem tI(c:Nat):decide (c∈[97,98,99,100,101,102,103,104,105,106,107,108,109,110,111,112,113,114,115,116,117,118,119,120,121,122])=decide (97≤c∧c≤122):=by
 apply decide_eq_decide.mpr
 simp
 omega
def vO(p:Pc):PyData:=.tuple [.str "piece",.str ⟨#[p.1]⟩,.int p.2]
def tJ(l:List PyData)(k:Int):PyData:=.tuple [.str "times",h7 l,.int k]
def CQ(l m:List PyData):PyData:=.tuple [.str "back",h7 l,h7 m]
section
variable (self:List PyData→Option Sl) (T:List Nat) (n c:Nat) (dep:Int) (hT:(T.length≤1000000)=True)
include hT
theorem mP(x2 x3 x4:Sl)(b:Bool)(hc:T[n]? =some c)(h:decide (c∈[41,44,93])=b):bH self [.sh (.str ⟨T.toArray⟩),.sh (.int n),x2,x3,x4]=some (!b,[.sh (.str ⟨T.toArray⟩),.sh (.int n),x2,x3,x4]):=by
 obtain⟨hn,_⟩:=List.getElem?_eq_some_iff.mp hc
 have e1:((n:Int) < (T.length:Int))=True:=eq_true (by omega)
 have e2:=Bd b h
 cases b <;> simp only[Bool.not_true,Bool.not_false]at e2 <;> simp only[bH,bI,a_,ag,ad,List.getElem?_cons_succ,List.getElem?_cons_zero,Sl.isBr,Bool.false_and,Bool.false_eq_true,bJ,af,ap,Option.map_some,if_false,cG,bz,look,Sl.val,ba,Cm.i,Cm.s,Option.bind_some,ax,aI,hT,if_true,e1,decide_true,bq,hot,aV,pC,mq,pd,aW,hc,e2,Bool.not_true,Bool.not_false]
theorem uE(x2 x3 x4:Sl)(hn:¬n < T.length):bH self [.sh (.str ⟨T.toArray⟩),.sh (.int n),x2,x3,x4]=some (false,[.sh (.str ⟨T.toArray⟩),.sh (.int n),x2,x3,x4]):=by
 have e1:((n:Int) < (T.length:Int))=False:=eq_false (by omega)
 simp only[bH,bI,a_,ag,ad,List.getElem?_cons_succ,List.getElem?_cons_zero,Sl.isBr,Bool.false_and,Bool.false_eq_true,bJ,af,ap,Option.map_some,if_false,cG,bz,look,Sl.val,ba,Cm.i,Cm.s,Option.bind_some,ax,aI,hT,if_true,e1,decide_false,bq,hot,aV,pC,mq,pd]
variable (hc:T[n]? =some c) (acc:List PyData) (x4:Sl)
include hc
theorem Be(hl:rL c)(t:Int)(m:Nat)(la:(acc.length < 1000000)=True)(e:aL [.str ⟨T.toArray⟩,.int ((n:Int)+1)]=some (.sh (.tuple [.int t,.int m]))):aT self [.sh (.str ⟨T.toArray⟩),.sh (.int n),.sh (.int dep),.ow acc,x4]=some ([.sh (.str ⟨T.toArray⟩),.sh (.int m),.sh (.int dep),.ow (acc++[vO (c,t)]),.sh (.tuple [vO (c,t),.int m])],.nx):=by
 have o1:=kq _ _ me (c:=c) false (decide_eq_false (by unfold rL at hl;simp;omega))
 have o2:=kq _ _ tF (c:=c) true ((tI c).trans (decide_eq_true hl))
 simp only[Bool.not_true,Bool.not_false]at o1 o2
 simp only[aT,ay,aK,bI,a_,ag,ad,List.getElem?_cons_zero,Sl.isBr,Bool.false_and,Bool.false_eq_true,bq,look,Sl.val,hot,aV,if_false,Option.bind_some,List.getElem?_cons_succ,aI,hT,if_true,aW,hc,Option.map_some,pC,mq,bz,pd,o1,Bool.not_true,ba,Cm.i,Cm.s,aD,ao,af,ap,PL.settle,frz,frzAll,aE,Bool.not_false,Bool.true_or,Bool.and_true,cY,c8,aw,bi,aB,ax,o2,e,List.length_cons,List.length_nil,Nat.zero_add,Nat.reduceAdd,Nat.reduceLT,List.set_cons_succ,List.set_cons_zero,eQ,Nat.reduceLeDiff,cN,aF,fV,dm,la,vO]
theorem Bf(hl:rL c)(e:aL [.str ⟨T.toArray⟩,.int ((n:Int)+1)]=some (.sh .none)):∃E',aT self [.sh (.str ⟨T.toArray⟩),.sh (.int n),.sh (.int dep),.ow acc,x4]=some (E',.rt (.sh .none)):=by
 have o1:=kq _ _ me (c:=c) false (decide_eq_false (by unfold rL at hl;simp;omega))
 have o2:=kq _ _ tF (c:=c) true ((tI c).trans (decide_eq_true hl))
 simp only[Bool.not_true,Bool.not_false]at o1 o2
 refine⟨[.sh (.str ⟨T.toArray⟩),.sh (.int n),.sh (.int dep),.ow acc,.sh .none],?_⟩
 simp only[aT,ay,aK,bI,a_,ag,ad,List.getElem?_cons_zero,Sl.isBr,Bool.false_and,Bool.false_eq_true,bq,look,Sl.val,hot,aV,if_false,Option.bind_some,List.getElem?_cons_succ,aI,hT,if_true,aW,hc,Option.map_some,pC,mq,bz,pd,o1,Bool.not_true,ba,Cm.i,Cm.s,aD,ao,af,ap,PL.settle,frz,frzAll,aE,Bool.not_false,Bool.true_or,Bool.and_true,cY,c8,aw,bi,aB,ax,o2,e,List.length_cons,List.length_nil,Nat.zero_add,Nat.reduceAdd,Nat.reduceLT,List.set_cons_succ,List.set_cons_zero,Option.bind_none,Option.map_none,aF,fV,dm]
theorem Bg(hl:¬rL c)(hb:(c≠40∧c≠91)∨¬dep < 31):∃E',aT self [.sh (.str ⟨T.toArray⟩),.sh (.int n),.sh (.int dep),.ow acc,x4]=some (E',.rt (.sh .none)):=by
 have o2:=kq _ _ tF (c:=c) false ((tI c).trans (decide_eq_false hl))
 simp only[Bool.not_true,Bool.not_false]at o2
 refine⟨[.sh (.str ⟨T.toArray⟩),.sh (.int n),.sh (.int dep),.ow acc,.sh .none],?_⟩
 by_cases q:c∈[40,91]
 ·have o1:=kq _ _ me (c:=c) true (decide_eq_true q)
  have l:(dep < 31)=False:=eq_false (hb.resolve_left fun z=>by simp at q;omega)
  simp only[Bool.not_true,Bool.not_false]at o1
  simp only[aT,ay,aK,bI,a_,ag,ad,List.getElem?_cons_zero,Sl.isBr,Bool.false_and,Bool.false_eq_true,bq,look,Sl.val,hot,aV,if_false,Option.bind_some,List.getElem?_cons_succ,aI,hT,if_true,aW,hc,Option.map_some,pC,mq,bz,pd,o1,Bool.not_false,ba,Cm.i,Cm.s,l,decide_false,aD,ao,af,ap,PL.settle,frz,frzAll,aE,Bool.true_or,Bool.and_true,cY,Bool.not_true,c8,aw,bi,aB,ax,o2,List.length_cons,List.length_nil,Nat.zero_add,Nat.reduceAdd,Nat.reduceLT,List.set_cons_succ,List.set_cons_zero,aF,fV,dm]
 ·have o1:=kq _ _ me (c:=c) false (decide_eq_false q)
  simp only[Bool.not_true,Bool.not_false]at o1
  simp only[aT,ay,aK,bI,a_,ag,ad,List.getElem?_cons_zero,Sl.isBr,Bool.false_and,Bool.false_eq_true,bq,look,Sl.val,hot,aV,if_false,Option.bind_some,List.getElem?_cons_succ,aI,hT,if_true,aW,hc,Option.map_some,pC,mq,bz,pd,o1,Bool.not_true,ba,Cm.i,Cm.s,aD,ao,af,ap,PL.settle,frz,frzAll,aE,Bool.not_false,Bool.true_or,Bool.and_true,cY,c8,aw,bi,aB,ax,o2,List.length_cons,List.length_nil,Nat.zero_add,Nat.reduceAdd,Nat.reduceLT,List.set_cons_succ,List.set_cons_zero,aF,fV,dm]
theorem Bh(hb:c=40∨c=91)(hd:dep < 31)(l:PyData)(hf:aJ l=true)(m:Int)(la:(acc.length < 1000000)=True)(e:aO self [.str ⟨T.toArray⟩,.int n,.int dep]=some (.sh (.tuple [l,.int m]))):aT self [.sh (.str ⟨T.toArray⟩),.sh (.int n),.sh (.int dep),.ow acc,x4]=some ([.sh (.str ⟨T.toArray⟩),.sh (.int m),.sh (.int dep),.ow (acc++[l]),.sh (.tuple [l,.int m])],.nx):=by
 have o1:=kq _ _ me (c:=c) true (decide_eq_true (by simp;omega))
 have ft:aJ (.tuple [l,.int m])=true:=pA hf
 have hd':=eq_true hd
 simp only[Bool.not_true,Bool.not_false]at o1
 simp only[aT,ay,aK,bI,a_,ag,ad,List.getElem?_cons_zero,Sl.isBr,Bool.false_and,Bool.false_eq_true,bq,look,Sl.val,hot,aV,if_false,Option.bind_some,List.getElem?_cons_succ,aI,hT,if_true,aW,hc,Option.map_some,pC,mq,bz,pd,o1,Bool.not_false,ba,Cm.i,Cm.s,hd',decide_true,aD,ao,af,ap,PL.settle,frz,frzAll,aE,Bool.true_or,Bool.and_true,cY,Bool.not_true,c8,aw,bi,aB,ax,e,List.length_cons,List.length_nil,Nat.zero_add,Nat.reduceAdd,Nat.reduceLT,List.set_cons_succ,List.set_cons_zero,aF,fV,dm,eQ,la,cN]
theorem Bi(hb:c=40∨c=91)(hd:dep < 31)(e:aO self [.str ⟨T.toArray⟩,.int n,.int dep]=some (.sh .none)):∃E',aT self [.sh (.str ⟨T.toArray⟩),.sh (.int n),.sh (.int dep),.ow acc,x4]=some (E',.rt (.sh .none)):=by
 have o1:=kq _ _ me (c:=c) true (decide_eq_true (by simp;omega))
 have hd':=eq_true hd
 simp only[Bool.not_true,Bool.not_false]at o1
 refine⟨[.sh (.str ⟨T.toArray⟩),.sh (.int n),.sh (.int dep),.ow acc,.sh .none],?_⟩
 simp only[aT,ay,aK,bI,a_,ag,ad,List.getElem?_cons_zero,Sl.isBr,Bool.false_and,Bool.false_eq_true,bq,look,Sl.val,hot,aV,if_false,Option.bind_some,List.getElem?_cons_succ,aI,hT,if_true,aW,hc,Option.map_some,pC,mq,bz,pd,o1,Bool.not_false,ba,Cm.i,Cm.s,hd',decide_true,aD,ao,af,ap,PL.settle,frz,frzAll,aE,Bool.true_or,Bool.and_true,cY,Bool.not_true,c8,aw,bi,aB,ax,e,List.length_cons,List.length_nil,Nat.zero_add,Nat.reduceAdd,Nat.reduceLT,List.set_cons_succ,List.set_cons_zero,aF,fV,dm]
end
section
variable (self:List PyData→Option Sl) (T:List Nat) (n c:Nat) (dep:Int) (hT:(T.length≤1000000)=True) (hc:T[n]? =some c)
include hT hc
theorem Ek(e:self [.str ⟨T.toArray⟩,.int ((n:Int)+1),.int (dep+1)]=some (.sh .none)):aO self [.str ⟨T.toArray⟩,.int n,.int dep]=some (.sh .none):=by
 simp only[aO,bP,List.length_cons,List.length_nil,Nat.zero_add,Nat.reduceAdd,bC,bV,ay,aD,ao,af,ad,av,List.map_cons,List.map_nil,Nat.reduceSub,List.replicate,List.cons_append,List.nil_append,List.getElem?_cons_zero,Sl.isBr,Bool.false_and,Bool.false_eq_true,ag,pC,aE,look,Sl.val,hot,aV,Option.bind_some,Bool.not_false,Bool.true_or,Bool.and_true,if_false,ap,Option.map_some,List.getElem?_cons_succ,ax,e,PL.settle,frz,frzAll,Nat.reduceLT,List.set_cons_succ,List.set_cons_zero,if_true,aK,cz,a_,bz,cY,cP,aF,aB,bq,bI,cJ,bn,c8,aw,bi,jB,aQ,bt,aR,aJ]
theorem FR(hd:dep=30)(a:PyData)(j:Int)(hf:aJ a=true)(e:self [.str ⟨T.toArray⟩,.int ((n:Int)+1),.int (dep+1)]=some (.sh (.tuple [a,.int j]))):aO self [.str ⟨T.toArray⟩,.int n,.int dep]=some (.sh .none):=by
 have ft:aJ (.tuple [a,.int j])=true:=pA hf
 subst hd
 simp only[show(30:Int)+1=31 from rfl,aO,bP,List.length_cons,List.length_nil,Nat.zero_add,Nat.reduceAdd,bC,bV,ay,aD,ao,af,ad,av,List.map_cons,List.map_nil,Nat.reduceSub,List.replicate,List.cons_append,List.nil_append,List.getElem?_cons_zero,Sl.isBr,Bool.false_and,Bool.false_eq_true,ag,pC,aE,look,Sl.val,hot,aV,Option.bind_some,Bool.not_false,Bool.true_or,Bool.and_true,if_false,ap,Option.map_some,List.getElem?_cons_succ,ax,PL.settle,frz,frzAll,aK,cz,a_,bz,cY,cP,aF,aB,bq,bI,cJ,bn,c8,aw,bi,jB,bt,aR,if_true]at e ⊢
 simp only[e,Option.map_some,Option.bind_some,List.length_cons,List.length_nil,Nat.zero_add,Nat.reduceAdd,Nat.reduceLT,List.set_cons_succ,List.set_cons_zero,if_true,List.getElem?_cons_succ,List.getElem?_cons_zero,Bool.false_eq_true,aQ,decide_true,if_false,aJ]
variable (hd:(dep=30)=False) (a:PyData) (j:Nat) (hf:aJ a=true) (e:self [.str ⟨T.toArray⟩,.int ((n:Int)+1),.int (dep+1)]=some (.sh (.tuple [a,.int j]))) (sg:Str) (hs:Txt.slice (⟨T.toArray⟩:Str) (some (j:Int)) (some ((j:Int)+1))=sg)
include hd hf e hs
theorem El (q:c=40) (h:sg=⟨#[41]⟩) (res:PyData) (k:Int) (m:Int) (hr:(aL [.str ⟨T.toArray⟩,.int ((j:Int)+1)]=some (.sh .none)∧res=.none)∨(aL [.str ⟨T.toArray⟩,.int ((j:Int)+1)]=some (.sh (.tuple [.int k,.int m]))∧res=.tuple [.tuple [.str "times",a,.int k],.int m])):aO self [.str ⟨T.toArray⟩,.int n,.int dep]=some (.sh res):=by
 have ft:aJ (.tuple [a,.int j])=true:=pA hf
 subst q h
 have q1:((⟨#[40]⟩:Str)=Str.ofString "(")=True:=eq_true eq_40.symm
 have q2:((⟨#[41]⟩:Str)=Str.ofString ")")=True:=eq_true (by decide+kernel)
 rcases hr with⟨en,rfl⟩ |⟨en,rfl⟩
 ·simp only[aO,bP,List.length_cons,List.length_nil,Nat.zero_add,Nat.reduceAdd,bC,bV,ay,aD,ao,af,ad,av,List.map_cons,List.map_nil,Nat.reduceSub,List.replicate,List.cons_append,List.nil_append,List.getElem?_cons_zero,Sl.isBr,Bool.false_and,Bool.false_eq_true,ag,pC,aE,look,Sl.val,hot,aV,Option.bind_some,Bool.not_false,Bool.true_or,Bool.and_true,if_false,ap,Option.map_some,List.getElem?_cons_succ,ax,e,PL.settle,frz,frzAll,Nat.reduceLT,List.set_cons_succ,List.set_cons_zero,if_true,aK,cz,a_,bz,cY,cP,aF,aB,bq,bI,cJ,bn,c8,aw,bi,jB,aQ,hd,decide_false,cN,aI,hT,aW,hc,bL,q1,decide_true,hs,q2,en,bt,aR,aJ]
 ·simp only[aO,bP,List.length_cons,List.length_nil,Nat.zero_add,Nat.reduceAdd,bC,bV,ay,aD,ao,af,ad,av,List.map_cons,List.map_nil,Nat.reduceSub,List.replicate,List.cons_append,List.nil_append,List.getElem?_cons_zero,Sl.isBr,Bool.false_and,Bool.false_eq_true,ag,pC,aE,look,Sl.val,hot,aV,Option.bind_some,Bool.not_false,Bool.true_or,Bool.and_true,if_false,ap,Option.map_some,List.getElem?_cons_succ,ax,e,PL.settle,frz,frzAll,Nat.reduceLT,List.set_cons_succ,List.set_cons_zero,if_true,aK,cz,a_,bz,cY,cP,aF,aB,bq,bI,cJ,bn,c8,aw,bi,jB,aQ,hd,decide_false,cN,aI,hT,aW,hc,bL,q1,decide_true,hs,q2,en,eQ,Nat.reduceLeDiff,bt,aR,aJ,bg,hf]
theorem FS (q:c=40) (h:(sg=Str.ofString ")")=False):aO self [.str ⟨T.toArray⟩,.int n,.int dep]=some (.sh .none):=by
 have ft:aJ (.tuple [a,.int j])=true:=pA hf
 subst q
 have q1:((⟨#[40]⟩:Str)=Str.ofString "(")=True:=eq_true eq_40.symm
 simp only[aO,bP,List.length_cons,List.length_nil,Nat.zero_add,Nat.reduceAdd,bC,bV,ay,aD,ao,af,ad,av,List.map_cons,List.map_nil,Nat.reduceSub,List.replicate,List.cons_append,List.nil_append,List.getElem?_cons_zero,Sl.isBr,Bool.false_and,Bool.false_eq_true,ag,pC,aE,look,Sl.val,hot,aV,Option.bind_some,Bool.not_false,Bool.true_or,Bool.and_true,if_false,ap,Option.map_some,List.getElem?_cons_succ,ax,e,PL.settle,frz,frzAll,Nat.reduceLT,List.set_cons_succ,List.set_cons_zero,if_true,aK,cz,a_,bz,cY,cP,aF,aB,bq,bI,cJ,bn,c8,aw,bi,jB,aQ,hd,decide_false,cN,aI,hT,aW,hc,bL,q1,decide_true,hs,h,bt,aR,aJ]
theorem FT (q:c=91) (h:(sg=Str.ofString ",")=False):aO self [.str ⟨T.toArray⟩,.int n,.int dep]=some (.sh .none):=by
 have ft:aJ (.tuple [a,.int j])=true:=pA hf
 subst q
 have q1:((⟨#[91]⟩:Str)=Str.ofString "(")=False:=eq_false (by decide+kernel)
 simp only[aO,bP,List.length_cons,List.length_nil,Nat.zero_add,Nat.reduceAdd,bC,bV,ay,aD,ao,af,ad,av,List.map_cons,List.map_nil,Nat.reduceSub,List.replicate,List.cons_append,List.nil_append,List.getElem?_cons_zero,Sl.isBr,Bool.false_and,Bool.false_eq_true,ag,pC,aE,look,Sl.val,hot,aV,Option.bind_some,Bool.not_false,Bool.true_or,Bool.and_true,if_false,ap,Option.map_some,List.getElem?_cons_succ,ax,e,PL.settle,frz,frzAll,Nat.reduceLT,List.set_cons_succ,List.set_cons_zero,if_true,aK,cz,a_,bz,cY,cP,aF,aB,bq,bI,cJ,bn,c8,aw,bi,jB,aQ,hd,decide_false,cN,aI,hT,aW,hc,bL,q1,hs,h,bt,aR,aJ]
theorem FU (q:c=91) (h:sg=Str.ofString ",") (e2:self [.str ⟨T.toArray⟩,.int ((j:Int)+1),.int (dep+1)]=some (.sh .none)):aO self [.str ⟨T.toArray⟩,.int n,.int dep]=some (.sh .none):=by
 have ft:aJ (.tuple [a,.int j])=true:=pA hf
 subst q h
 have q1:((⟨#[91]⟩:Str)=Str.ofString "(")=False:=eq_false (by decide+kernel)
 simp only[aO,bP,List.length_cons,List.length_nil,Nat.zero_add,Nat.reduceAdd,bC,bV,ay,aD,ao,af,ad,av,List.map_cons,List.map_nil,Nat.reduceSub,List.replicate,List.cons_append,List.nil_append,List.getElem?_cons_zero,Sl.isBr,Bool.false_and,Bool.false_eq_true,ag,pC,aE,look,Sl.val,hot,aV,Option.bind_some,Bool.not_false,Bool.true_or,Bool.and_true,if_false,ap,Option.map_some,List.getElem?_cons_succ,ax,e,PL.settle,frz,frzAll,Nat.reduceLT,List.set_cons_succ,List.set_cons_zero,if_true,aK,cz,a_,bz,cY,cP,aF,aB,bq,bI,cJ,bn,c8,aw,bi,jB,aQ,hd,decide_false,cN,aI,hT,aW,hc,bL,q1,hs,decide_true,Bool.not_true,e2,Option.bind_none,bt,aR,aJ]
variable (b:PyData) (m:Nat) (hg:aJ b=true) (e2:self [.str ⟨T.toArray⟩,.int ((j:Int)+1),.int (dep+1)]=some (.sh (.tuple [b,.int m]))) (sg2:Str) (hs2:Txt.slice (⟨T.toArray⟩:Str) (some (m:Int)) (some ((m:Int)+1))=sg2)
include hg e2 hs2
theorem FV (q:c=91) (h:sg=Str.ofString ",") (h2:(sg2=Str.ofString "]")=False):aO self [.str ⟨T.toArray⟩,.int n,.int dep]=some (.sh .none):=by
 have ft:aJ (.tuple [a,.int j])=true:=pA hf
 have fu:aJ (.tuple [b,.int m])=true:=pA hg
 subst q h
 have q1:((⟨#[91]⟩:Str)=Str.ofString "(")=False:=eq_false (by decide+kernel)
 simp only[aO,bP,List.length_cons,List.length_nil,Nat.zero_add,Nat.reduceAdd,bC,bV,ay,aD,ao,af,ad,av,List.map_cons,List.map_nil,Nat.reduceSub,List.replicate,List.cons_append,List.nil_append,List.getElem?_cons_zero,Sl.isBr,Bool.false_and,Bool.false_eq_true,ag,pC,aE,look,Sl.val,hot,aV,Option.bind_some,Bool.not_false,Bool.true_or,Bool.and_true,if_false,ap,Option.map_some,List.getElem?_cons_succ,ax,e,PL.settle,frz,frzAll,Nat.reduceLT,List.set_cons_succ,List.set_cons_zero,if_true,aK,cz,a_,bz,cY,cP,aF,aB,bq,bI,cJ,bn,c8,aw,bi,jB,aQ,hd,decide_false,cN,aI,hT,aW,hc,bL,q1,hs,decide_true,Bool.not_true,e2,hs2,h2,bt,aR,aJ]
theorem FW (q:c=91) (h:sg=Str.ofString ",") (h2:sg2=Str.ofString "]"):aO self [.str ⟨T.toArray⟩,.int n,.int dep]=some (.sh (.tuple [.tuple [.str "back",a,b],.int ((m:Int)+1)])):=by
 have ft:aJ (.tuple [a,.int j])=true:=pA hf
 have fu:aJ (.tuple [b,.int m])=true:=pA hg
 subst q h h2
 have q1:((⟨#[91]⟩:Str)=Str.ofString "(")=False:=eq_false (by decide+kernel)
 simp only[aO,bP,List.length_cons,List.length_nil,Nat.zero_add,Nat.reduceAdd,bC,bV,ay,aD,ao,af,ad,av,List.map_cons,List.map_nil,Nat.reduceSub,List.replicate,List.cons_append,List.nil_append,List.getElem?_cons_zero,Sl.isBr,Bool.false_and,Bool.false_eq_true,ag,pC,aE,look,Sl.val,hot,aV,Option.bind_some,Bool.not_false,Bool.true_or,Bool.and_true,if_false,ap,Option.map_some,List.getElem?_cons_succ,ax,e,PL.settle,frz,frzAll,Nat.reduceLT,List.set_cons_succ,List.set_cons_zero,if_true,aK,cz,a_,bz,cY,cP,aF,aB,bq,bI,cJ,bn,c8,aw,bi,jB,aQ,hd,decide_false,cN,aI,hT,aW,hc,bL,q1,hs,decide_true,Bool.not_true,e2,hs2,eQ,Nat.reduceLeDiff,bt,aR,aJ,bg,hf,hg]
end
def CS(c:List Pc):Prop:=∀p∈c,rL p.1
theorem nR{c:List Pc}(h:CS c):CS (NH.contr c):=fun p hp=>by
 obtain⟨q,hq,rfl⟩:=List.mem_map.mp (show p∈c.reverse.map (fun p=>((p.1,-p.2):Pc))from hp)
 exact h q (List.mem_reverse.mp hq)
theorem Em{c:List Pc}(k:Int)(h:CS c):CS (rp c k):=by
 unfold rp
 split
 ·intro p hp
  obtain⟨l,hl,hpl⟩:=List.mem_flatten.mp hp
  rw[(List.mem_replicate.mp hl).2]at hpl
  exact nR h p hpl
 ·intro p hp
  obtain⟨l,hl,hpl⟩:=List.mem_flatten.mp hp
  rw[(List.mem_replicate.mp hl).2]at hpl
  exact h p hpl
theorem ye{c:List Pc}(h:CS c):NailsOk c:=fun p hp=>by have:=h p hp;unfold rL at this;omega
theorem yf:(Str.ofString "times"=Str.ofString "piece")=False:=eq_false (by decide+kernel)
theorem En:(Str.ofString "back"=Str.ofString "piece")=False:=eq_false (by decide+kernel)
theorem FX:(Str.ofString "back"=Str.ofString "times")=False:=eq_false (by decide+kernel)
theorem CT:(Str.ofString "times"=Str.ofString "back")=False:=eq_false (by decide+kernel)
theorem kx{l:List PyData}(h:bg l=true):aJ (h7 l)=true:=by simp[aJ,mh,kU,m6,qH,bg,h]
section
variable (self:List PyData→Option Sl) (x0:Sl) (m z y k:Int) (l l':List PyData)
theorem yg(p:Pc):bx self [x0,.sh (.int m),.sh (vO p)]=some ([x0,.sh (.int (m+1)),.sh (vO p)],.nx):=by
 simp only[bx,aK,a_,ag,ad,vO,List.getElem?_cons_succ,List.getElem?_cons_zero,Sl.isBr,Bool.false_and,Bool.false_eq_true,pC,bq,look,Sl.val,hot,aV,Option.bind_some,if_false,eQ,Option.map_some,cP,bz,bL,decide_true,aD,aE,Bool.not_false,Bool.true_or,Bool.and_true,PL.settle,frz,frzAll,bJ,af,ap,nW,ao,dX,Int.reduceNeg,List.length_cons,List.length_nil,Nat.zero_add,Nat.reduceAdd,Nat.reduceLT,List.set_cons_succ,List.set_cons_zero,if_true,k8,ax,cN]
theorem yh(hf:aJ (h7 l)=true)(e:self [h7 l]=some (.sh (.int z)))(hm:dA (cm k) z=true):bx self [x0,.sh (.int m),.sh (tJ l k)]=some ([x0,.sh (.int (m+cm k*z)),.sh (tJ l k)],.nx):=by
 unfold tJ
 generalize h7 l=a at *
 unfold cm at *
 by_cases q:k < 0
 ·have q':=eq_true q
  simp only[q,if_true]at hm
  simp only[bx,aK,a_,ag,ad,List.getElem?_cons_succ,List.getElem?_cons_zero,Sl.isBr,Bool.false_and,Bool.false_eq_true,pC,bq,look,Sl.val,hot,aV,Option.bind_some,if_false,eQ,Option.map_some,cP,bz,bL,yf,decide_false,aD,aE,Bool.not_false,Bool.true_or,Bool.and_true,PL.settle,frz,frzAll,bJ,af,ap,nW,ao,dX,Int.reduceNeg,List.length_cons,List.length_nil,Nat.zero_add,Nat.reduceAdd,Nat.reduceLT,List.set_cons_succ,List.set_cons_zero,if_true,decide_true,k8,ax,q',cN,e,hm]
 ·have q':=eq_false q
  simp only[q,if_false]at hm
  simp only[bx,aK,a_,ag,ad,List.getElem?_cons_succ,List.getElem?_cons_zero,Sl.isBr,Bool.false_and,Bool.false_eq_true,pC,bq,look,Sl.val,hot,aV,Option.bind_some,if_false,eQ,Option.map_some,cP,bz,bL,yf,decide_false,aD,aE,Bool.not_false,Bool.true_or,Bool.and_true,PL.settle,frz,frzAll,bJ,af,ap,nW,ao,dX,Int.reduceNeg,List.length_cons,List.length_nil,Nat.zero_add,Nat.reduceAdd,Nat.reduceLT,List.set_cons_succ,List.set_cons_zero,if_true,decide_true,k8,ax,q',cN,e,hm]
theorem yi(hf:aJ (h7 l)=true)(hg:aJ (h7 l')=true)(e:self [h7 l]=some (.sh (.int z)))(e2:self [h7 l']=some (.sh (.int y))):bx self [x0,.sh (.int m),.sh (CQ l l')]=some ([x0,.sh (.int (m+2*(z+y))),.sh (CQ l l')],.nx):=by
 have hm:dA 2 (z+y)=true:=gG (by decide) (by decide)
 unfold CQ
 generalize h7 l=a at *
 generalize h7 l'=b at *
 simp only[bx,aK,a_,ag,ad,List.getElem?_cons_succ,List.getElem?_cons_zero,Sl.isBr,Bool.false_and,Bool.false_eq_true,pC,bq,look,Sl.val,hot,aV,Option.bind_some,if_false,eQ,Option.map_some,cP,bz,bL,En,decide_false,aD,aE,Bool.not_false,Bool.true_or,Bool.and_true,PL.settle,frz,frzAll,bJ,af,ap,nW,ao,dX,Int.reduceNeg,List.length_cons,List.length_nil,Nat.zero_add,Nat.reduceAdd,Nat.reduceLT,List.set_cons_succ,List.set_cons_zero,if_true,FX,k8,ax,cN,e,e2,hm]
end
section
variable (self:List PyData→Option Sl) (x0 x3 x4 x5:Sl) (acc c c':List Pc) (k:Int) (l l':List PyData) (la:acc.length≤100000)
include la
theorem yj(p:Pc):aZ self [x0,.ow (acc.map cK),.sh (vO p),x3,x4,x5]=some ([x0,.ow ((acc++[p]).map cK),.sh (vO p),x3,x4,x5],.nx):=by
 have h1:(acc.length < 1000000)=True:=eq_true (by omega)
 rw[List.map_append]
 simp only[aZ,aK,a_,ag,ad,vO,List.getElem?_cons_succ,List.getElem?_cons_zero,Sl.isBr,Bool.false_and,Bool.false_eq_true,pC,bq,look,Sl.val,hot,aV,Option.bind_some,if_false,eQ,Option.map_some,cP,bz,bL,decide_true,fV,dm,c8,aw,frz,bi,ay,aD,ao,af,ap,PL.settle,frzAll,aE,ba,Cm.i,Cm.s,bJ,pQ,dX,gE,mD,aB,cN,k8,List.length_cons,List.length_nil,Nat.zero_add,Nat.reduceAdd,Nat.reduceLeDiff,if_true,List.length_map,h1,List.set_cons_succ,List.set_cons_zero,ax,List.map_cons,List.map_nil]
 rfl
theorem yk(hf:aJ (h7 l)=true)(hg:aJ (h7 l')=true)(e:self [h7 l]=some (.ow (c.map cK)))(e2:self [h7 l']=some (.ow (c'.map cK)))(lc:c.length+c'.length≤300):aZ self [x0,.ow (acc.map cK),.sh (CQ l l'),x3,x4,x5]=some ([x0,.ow ((acc++(c++c'++NH.contr c++NH.contr c')).map cK),.sh (CQ l l'),.ow (c.map cK),.ow (c'.map cK),x5],.nx):=by
 have c1:=gC c (by omega)
 have c2:=gC c' (by omega)
 have n1:(NH.contr c).length=c.length:=NH.bN c
 have n2:(NH.contr c').length=c'.length:=NH.bN c'
 have h1:(acc.length+c.length≤1000000)=True:=eq_true (by omega)
 have h2:(acc.length+c.length+c'.length≤1000000)=True:=eq_true (by omega)
 have h3:(acc.length+c.length+c'.length+c.length≤1000000)=True:=eq_true (by omega)
 have h4:(acc.length+c.length+c'.length+c.length+c'.length≤1000000)=True:=eq_true (by omega)
 unfold CQ
 generalize h7 l=a at *
 generalize h7 l'=b at *
 rw[show acc++(c++c'++NH.contr c++NH.contr c')=acc++c++c'++NH.contr c++NH.contr c' by simp]
 simp only[aZ,aK,a_,ag,ad,List.getElem?_cons_succ,List.getElem?_cons_zero,Sl.isBr,Bool.false_and,Bool.false_eq_true,pC,bq,look,Sl.val,hot,aV,Option.bind_some,if_false,eQ,Option.map_some,cP,bz,bL,En,decide_false,fV,dm,c8,aw,frz,bi,ay,aD,ao,af,ap,PL.settle,frzAll,aE,ba,Cm.i,Cm.s,bJ,pQ,dX,gE,mD,aB,cN,k8,List.length_cons,List.length_nil,Nat.zero_add,Nat.reduceAdd,Nat.reduceLeDiff,if_true,List.length_map,List.set_cons_succ,List.set_cons_zero,decide_true,ax,e,Nat.reduceLT,e2,Option.any_some,Bool.not_false,Bool.true_or,Bool.and_true,h1,←List.map_append,List.length_append,h2,c1,n1,h3,c2,n2,h4]
theorem Ao(hf:aJ (h7 l)=true):aZ self [x0,.ow (acc.map cK),.sh (tJ l 0),x3,x4,x5]=some ([x0,.ow (acc.map cK),.sh (tJ l 0),x3,x4,x5],.nx):=by
 unfold tJ
 generalize h7 l=a at *
 simp only[aZ,aK,a_,ag,ad,List.getElem?_cons_succ,List.getElem?_cons_zero,Sl.isBr,Bool.false_and,Bool.false_eq_true,pC,bq,look,Sl.val,hot,aV,Option.bind_some,if_false,eQ,Option.map_some,cP,bz,bL,yf,decide_false,fV,dm,c8,aw,frz,bi,ay,aD,ao,af,ap,PL.settle,frzAll,aE,ba,Cm.i,Cm.s,bJ,pQ,dX,Int.reduceNeg,gE,mD,aB,cN,k8,List.length_cons,List.length_nil,Nat.zero_add,Nat.reduceAdd,Nat.reduceLeDiff,if_true,List.set_cons_succ,List.set_cons_zero,CT,ax,Int.reduceLT]
theorem Ap(hf:aJ (h7 l)=true)(hk:0 < k)(m:Int)(hm:(if 300 < k then 300 else k)=m)(e:self [h7 l]=some (.ow (c.map cK)))(lc:c.length≤300):aZ self [x0,.ow (acc.map cK),.sh (tJ l k),x3,x4,x5]=some ([x0,.ow ((acc++(List.replicate m.toNat c).flatten).map cK),.sh (tJ l k),x3,x4,x5],.nx):=by
 have m1:0 < m∧m≤300:=by rw[←hm];split <;> omega
 have lm:c.length*m.toNat≤300*300:=Nat.mul_le_mul lc (by omega)
 have h1:(c.length*m.toNat≤1000000)=True:=eq_true (by omega)
 have h2:(-1000000≤m)=True:=eq_true (by omega)
 have h3:(m≤1000000)=True:=eq_true (by omega)
 have h4:(acc.length+m.toNat*c.length≤1000000)=True:=eq_true (by rw[Nat.mul_comm];omega)
 have hk':=eq_true hk
 unfold tJ
 generalize h7 l=a at *
 simp only[aZ,aK,a_,ag,ad,List.getElem?_cons_succ,List.getElem?_cons_zero,Sl.isBr,Bool.false_and,Bool.false_eq_true,pC,bq,look,Sl.val,hot,aV,Option.bind_some,if_false,eQ,Option.map_some,cP,bz,bL,yf,decide_false,fV,dm,c8,aw,frz,bi,ay,aD,ao,af,ap,PL.settle,frzAll,aE,ba,Cm.i,Cm.s,bJ,pQ,dX,gE,mD,aB,cN,k8,List.length_cons,List.length_nil,Nat.zero_add,Nat.reduceAdd,Nat.reduceLeDiff,if_true,List.length_map,List.set_cons_succ,List.set_cons_zero,CT,ax,e,Nat.reduceLT,hk',decide_true,hm,Bool.not_false,Bool.true_or,Bool.and_true,h1,h2,h3,and_self,mJ,Option.any_some,mM,h4,←List.map_append]
theorem Aq(hf:aJ (h7 l)=true)(hk:k < 0)(m:Int)(hm:(if 300 < -k then 300 else -k)=m)(e:self [h7 l]=some (.ow (c.map cK)))(lc:c.length≤300):aZ self [x0,.ow (acc.map cK),.sh (tJ l k),x3,x4,x5]=some ([x0,.ow ((acc++(List.replicate m.toNat (NH.contr c)).flatten).map cK),.sh (tJ l k),x3,x4,.ow ((NH.contr c).map cK)],.nx):=by
 have m1:0 < m∧m≤300:=by rw[←hm];split <;> omega
 have n1:(NH.contr c).length=c.length:=NH.bN c
 have c1:=gC c (by omega)
 have lm:c.length*m.toNat≤300*300:=Nat.mul_le_mul lc (by omega)
 have h1:(c.length*m.toNat≤1000000)=True:=eq_true (by omega)
 have h2:(-1000000≤m)=True:=eq_true (by omega)
 have h3:(m≤1000000)=True:=eq_true (by omega)
 have h4:(acc.length+m.toNat*c.length≤1000000)=True:=eq_true (by rw[Nat.mul_comm];omega)
 have hk':=eq_true hk
 have hk2:(0 < k)=False:=eq_false (by omega)
 unfold tJ
 generalize h7 l=a at *
 simp only[aZ,aK,a_,ag,ad,List.getElem?_cons_succ,List.getElem?_cons_zero,Sl.isBr,Bool.false_and,Bool.false_eq_true,pC,bq,look,Sl.val,hot,aV,Option.bind_some,if_false,eQ,Option.map_some,cP,bz,bL,yf,decide_false,fV,dm,c8,aw,frz,bi,ay,aD,ao,af,ap,PL.settle,frzAll,aE,ba,Cm.i,Cm.s,bJ,pQ,dX,gE,mD,aB,cN,k8,List.length_cons,List.length_nil,Nat.zero_add,Nat.reduceAdd,Nat.reduceLeDiff,if_true,List.length_map,List.set_cons_succ,List.set_cons_zero,CT,ax,e,Nat.reduceLT,hk2,Bool.not_false,Bool.true_or,Bool.and_true,mJ,hk',decide_true,c1,hm,Option.any_some,n1,h1,h2,h3,and_self,mM,h4,←List.map_append]
end
structure G where
 l:PyData
 d:PyData
 c:List Pc
def G.x(g:G):It:=⟨g.d,g.c.length,g.c⟩
structure GI (h:Nat) (g:G):Prop where
 co:∀n:Nat,Co (n+2*h+1) g.x
 lt:CS g.c
 fl:aJ g.l=true
 bd:g.c.length≤(10 ^ 36) ^ h
 ct:∀(n:Nat) (x0:Sl) (m:Int),bx (bZ (n+h)) [x0,.sh (.int m),.sh g.l]=some ([x0,.sh (.int (m+g.c.length)),.sh g.l],.nx)
 ld:g.c.length≤300→∀(n:Nat) (x0 x3 x4 x5:Sl) (acc:List Pc),acc.length≤100000→∃x3' x4' x5',aZ (bG (n+h)) [x0,.ow (acc.map cK),.sh g.l,x3,x4,x5]=some ([x0,.ow ((acc++g.c).map cK),.sh g.l,x3',x4',x5'],.nx)
def qm(r:List G):It:=⟨CM (r.map G.d) ((r.flatMap G.c).length:Int),(r.flatMap G.c).length,r.flatMap G.c⟩
theorem ym(r:List G):qm r=rT (r.map G.x):=by
 have e:((r.map G.x).map It.z).sum=((r.flatMap G.c).length:Int):=by
  induction r with
  |nil=>rfl
  |cons j r ih=>
   rw[List.map_cons,List.map_cons,List.sum_cons,ih,List.flatMap_cons,List.length_append]
   show(j.c.length:Int)+_=_
   omega
 unfold rT
 rw[e,List.flatMap_map,List.map_map]
 rfl
structure RI (h:Nat) (r:List G):Prop where
 co:∀n:Nat,Co (n+2*h+2) (qm r)
 lt:CS (r.flatMap G.c)
 fl:bg (r.map G.l)=true
 bd:(r.flatMap G.c).length≤r.length*(10 ^ 36) ^ h
 ct:∀n:Nat,bZ (n+h+1) [h7 (r.map G.l)]=some (.sh (.int (r.flatMap G.c).length))
 ld:(r.flatMap G.c).length≤300→∀n:Nat,bG (n+h+1) [h7 (r.map G.l)]=some (.ow ((r.flatMap G.c).map cK))
theorem Bj(self:List PyData→Option Sl)(x0:Sl):∀(r:List G) (m:Int) (a:Sl),(∀g∈r,∀m,bx self [x0,.sh (.int m),.sh g.l]=some ([x0,.sh (.int (m+g.c.length)),.sh g.l],.nx))→∃a',dL fO (bx self) (r.map G.l) [x0,.sh (.int m),a]=some ([x0,.sh (.int (m+(r.flatMap G.c).length)),a'],.nx)
 |[],m,a,_=>⟨a,by simp[dL]⟩
 |g::r,m,a,h=>by
  have e:=h g (List.mem_cons_self ..) m
  obtain⟨a',ih⟩:=Bj self x0 r (m+g.c.length) (.sh g.l) fun q hq=>h q (List.mem_cons_of_mem _ hq)
  refine⟨a',?_⟩
  have st:(fO g.l [x0,.sh (.int m),a]).bind (bx self)=some ([x0,.sh (.int (m+g.c.length)),.sh g.l],.nx):=by
   rw[←e]
   rfl
  rw[List.map_cons,dL,st,List.flatMap_cons,List.length_append,Int.natCast_add,←Int.add_assoc]
  exact ih
theorem Bk(self:List PyData→Option Sl)(x0:Sl):∀(r:List G) (acc:List Pc) (a x3 x4 x5:Sl),(∀g∈r,∀(x3 x4 x5:Sl) (acc:List Pc),acc.length≤100000→∃x3' x4' x5',aZ self [x0,.ow (acc.map cK),.sh g.l,x3,x4,x5]=some ([x0,.ow ((acc++g.c).map cK),.sh g.l,x3',x4',x5'],.nx))→acc.length+(r.flatMap G.c).length≤100000→∃a' x3' x4' x5',dL e8 (aZ self) (r.map G.l) [x0,.ow (acc.map cK),a,x3,x4,x5]=some ([x0,.ow ((acc++r.flatMap G.c).map cK),a',x3',x4',x5'],.nx)
 |[],acc,a,x3,x4,x5,_,_=>⟨a,x3,x4,x5,by rw[List.flatMap_nil,List.append_nil];rfl⟩
 |g::r,acc,a,x3,x4,x5,h,hl=>by
  rw[List.flatMap_cons,List.length_append]at hl
  obtain⟨y3,y4,y5,e⟩:=h g (List.mem_cons_self ..) x3 x4 x5 acc (by omega)
  obtain⟨a',z3,z4,z5,ih⟩:=Bk self x0 r (acc++g.c) (.sh g.l) y3 y4 y5 (fun q hq=>h q (List.mem_cons_of_mem _ hq)) (by rw[List.length_append];omega)
  refine⟨a',z3,z4,z5,?_⟩
  have st:(e8 g.l [x0,.ow (acc.map cK),a,x3,x4,x5]).bind (aZ self)=some ([x0,.ow ((acc++g.c).map cK),.sh g.l,y3,y4,y5],.nx):=by
   rw[←e]
   rfl
  rw[List.map_cons,dL,st,List.flatMap_cons,←List.append_assoc]
  exact ih
theorem yn:∀(r:List G) (B:Nat),(∀g∈r,g.c.length≤B)→(r.flatMap G.c).length≤r.length*B
 |[],B,_=>by simp
 |g::r,B,h=>by
  have ih:=yn r B fun q hq=>h q (List.mem_cons_of_mem _ hq)
  have:=h g (List.mem_cons_self ..)
  rw[List.flatMap_cons,List.length_append,List.length_cons,Nat.succ_mul]
  omega
theorem uF:∀(r:List G),∀g∈r,g.c.length≤(r.flatMap G.c).length
 |g'::r,g,h=>by
  rw[List.flatMap_cons,List.length_append]
  rcases List.mem_cons.mp h with e |e
  ·rw[e];omega
  ·have:=uF r g e;omega
theorem uG{h:Nat}{r:List G}(hg:∀g∈r,GI h g):RI h r:=by
 have fA:∀r:List G,(∀g∈r,GI h g)→bg (r.map G.l)=true:=fun r=>by
  induction r with
  |nil=>exact fun _=>rfl
  |cons g r ih=>exact fun hg=>by rw[List.map_cons,bg,(hg g (List.mem_cons_self ..)).fl,ih fun q hq=>hg q (List.mem_cons_of_mem _ hq)];rfl
 have fl:=fA r hg
 refine⟨fun n=>?_,fun p hp=>?_,fl,yn r _ fun g h=>(hg g h).bd,fun n=>?_,fun l n=>?_⟩
 ·rw[ym]
  refine D_ (n:=n+2*h+1) fun x hx=>?_
  obtain⟨g,hm,rfl⟩:=List.mem_map.mp hx
  exact(hg g hm).co n
 ·obtain⟨g,hm,hp⟩:=List.mem_flatMap.mp hp
  exact(hg g hm).lt p hp
 ·obtain⟨a',w⟩:=Bj (bZ (n+h)) (.sh (h7 (r.map G.l))) r 0 .no fun g hm m=>(hg g hm).ct n _ m
  rw[Int.zero_add]at w
  have ff:=kx fl
  show bP 1 3 (fw (bZ (n+h))) _=_
  generalize ((r.flatMap G.c).length:Int)=z at *
  generalize r.map G.l=ds at *
  simp only[bP,List.length_cons,List.length_nil,Nat.zero_add,bC,fw,ay,aD,pC,av,List.map_cons,List.map_nil,Nat.reduceSub,List.replicate,List.cons_append,List.nil_append,PL.settle,frz,frzAll,Option.bind_some,Nat.reduceAdd,Nat.reduceLT,List.set_cons_succ,List.set_cons_zero,if_true,kd,xD,ad,aF,List.getElem?_cons_zero,w,List.getElem?_cons_succ,bt,aR,aJ]
 ·obtain⟨a',y3,y4,y5,w⟩:=Bk (bG (n+h)) (.sh (h7 (r.map G.l))) r [] .no .no .no .no (fun g hm x3 x4 x5 acc la=>(hg g hm).ld (Nat.le_trans (uF r g hm) l) n _ x3 x4 x5 acc la) (by simp only[List.length_nil];omega)
  rw[List.nil_append]at w
  have w':dL e8 (aZ (bG (n+h))) (r.map G.l) [.sh (h7 (r.map G.l)),.ow [],.no,.no,.no,.no]=_:=w
  have ff:=kx fl
  have fy:=d_ (r.flatMap G.c)
  show bP 1 6 (fZ (bG (n+h))) _=_
  generalize (r.flatMap G.c).map cK=y at *
  generalize r.map G.l=ds at *
  simp only[bP,List.length_cons,List.length_nil,Nat.zero_add,bC,fZ,ay,aD,cj,bi,av,List.map_cons,List.map_nil,Nat.reduceSub,List.replicate,List.cons_append,List.nil_append,Option.bind_some,Nat.reduceLeDiff,if_true,PL.settle,frz,frzAll,Nat.reduceAdd,Nat.reduceLT,List.set_cons_succ,List.set_cons_zero,kd,xD,ad,aF,List.getElem?_cons_zero,w',List.getElem?_cons_succ,Option.map_some,bt,aR,fy]
def Gu(p:Pc):G:=⟨vO p,vW p,[p]⟩
theorem Eo(h:Nat){p:Pc}(hl:rL p.1):GI h (Gu p):=by
 refine⟨fun n=>D9 (n+2*h) p,fun q hq=>by rw[List.mem_singleton.mp hq];exact hl,rfl,?_,fun n x0 m=>yg _ x0 m p,fun _ n x0 x3 x4 x5 acc la=>⟨x3,x4,x5,yj _ x0 x3 x4 x5 acc la p⟩⟩
 exact Nat.one_le_iff_ne_zero.mpr (Nat.ne_of_gt (Nat.pow_pos (by decide)))
def FY(r:List G)(k:Int):G:=⟨tJ (r.map G.l) k,Da (qm r).d k ((r.flatMap G.c).length*cm k),rp (r.flatMap G.c) k⟩
def EY(r s:List G):G:=⟨CQ (r.map G.l) (s.map G.l),Db (qm r).d (qm s).d (2*(((r.flatMap G.c).length:Int)+(s.flatMap G.c).length)),r.flatMap G.c++s.flatMap G.c++NH.contr (r.flatMap G.c)++NH.contr (s.flatMap G.c)⟩
theorem qo(k:Int):cm k=(k.natAbs:Int):=by unfold cm;split <;> omega
theorem yo(c:List Pc)(k:Int):(rp c k).length=c.length*k.natAbs:=by
 have:=tE c k
 rw[qo]at this
 exact_mod_cast this
theorem big(h:Nat)(hh:h≤30)(m:Nat)(hm:m≤1000000*(10 ^ 36) ^ h):m < 2 ^ 20000:=by
 have:(10 ^ 36) ^ h≤(10 ^ 36) ^ 30:=Nat.pow_le_pow_right (by decide) hh
 have a:m≤1000000*(10 ^ 36) ^ 30:=Nat.le_trans hm (Nat.mul_le_mul_left _ this)
 have b:1000000*(10 ^ 36) ^ 30 < 2 ^ 4000:=by decide+kernel
 exact Nat.lt_of_le_of_lt a (Nat.lt_trans b (Nat.pow_lt_pow_right (by decide) (by decide)))
theorem Ep{h:Nat}{r:List G}{k:Int}(R:RI h r)(hk:k.natAbs < 10 ^ 30)(lr:r.length≤1000000)(hh:h≤29):GI (h+1) (FY r k):=by
 have ez:((rp (r.flatMap G.c) k).length:Int)=(r.flatMap G.c).length*cm k:=tE _ k
 have lc:(r.flatMap G.c).length≤1000000*(10 ^ 36) ^ h:=Nat.le_trans R.bd (Nat.mul_le_mul_right _ lr)
 have ff:=kx R.fl
 refine⟨fun n=>?_,Em k R.lt,?_,?_,fun n x0 m=>?_,fun l n x0 x3 x4 x5 acc la=>?_⟩
 ·have e:(FY r k).x=Ak (qm r) k (rp (r.flatMap G.c) k):=by
   show(⟨_,((rp (r.flatMap G.c) k).length:Int),_⟩:It)=_
   rw[ez];rfl
  rw[e]
  exact Ea (R.co n) fun _=>rfl
 ·show aJ (.tuple [.str "times",h7 (r.map G.l),.int k])=true
  simp only[aJ,bg,ff,Bool.and_self]at ff ⊢
  simp[ff]
 ·show(rp (r.flatMap G.c) k).length≤_
  rw[yo,Nat.pow_succ]
  calc (r.flatMap G.c).length*k.natAbs≤(1000000*(10 ^ 36) ^ h)*10 ^ 30:=Nat.mul_le_mul lc (Nat.le_of_lt hk)
   _=(10 ^ 36) ^ h*10 ^ 36:=by rw[Nat.mul_comm 1000000,Nat.mul_assoc]
 ·have om:dA (cm k) ((r.flatMap G.c).length:Int)=true:=uy (by rw[qo];exact Nat.lt_of_lt_of_le (show((k.natAbs:Int)).natAbs < 10 ^ 30 by omega) (Nat.le_trans (by decide:10 ^ 30≤2 ^ 200) (Nat.pow_le_pow_right (by decide) (by decide)))) (by rw[Int.natAbs_natCast];exact big h (by omega) _ lc)
  have:=yh (bZ (n+h+1)) x0 m _ k (r.map G.l) ff (R.ct n) om
  rw[Int.mul_comm,←ez]at this
  exact this
 ·have l':(rp (r.flatMap G.c) k).length≤300:=l
  rw[yo]at l'
  show ∃x3' x4' x5',aZ (bG (n+h+1)) [x0,.ow (acc.map cK),.sh (tJ (r.map G.l) k),x3,x4,x5]=some ([x0,.ow ((acc++rp (r.flatMap G.c) k).map cK),.sh (tJ (r.map G.l) k),x3',x4',x5'],.nx)
  by_cases k0:k=0
  ·subst k0
   refine⟨x3,x4,x5,?_⟩
   have:=Ao (bG (n+h+1)) x0 x3 x4 x5 acc (r.map G.l) la ff
   rw[show rp (r.flatMap G.c) 0=[] by simp[rp],List.append_nil]
   exact this
  ·have lc3:(r.flatMap G.c).length≤300:=by
    have:(r.flatMap G.c).length*1≤(r.flatMap G.c).length*k.natAbs:=Nat.mul_le_mul_left _ (by omega)
    omega
   have e:=R.ld lc3 n
   have m_:∀m:Nat,(m=k.natAbs∨(300 < k.natAbs∧m=300))→∀c:List Pc,c.length=(r.flatMap G.c).length→(List.replicate m c).flatten=(List.replicate k.natAbs c).flatten:=fun m hm c hc=>by
    rcases hm with hm |⟨hm,e3⟩
    ·rw[hm]
    ·have c0:c=[]:=by
      refine List.eq_nil_of_length_eq_zero ?_
      rcases Nat.eq_zero_or_pos c.length with z |z
      ·exact z
      ·have:1*k.natAbs≤(r.flatMap G.c).length*k.natAbs:=Nat.mul_le_mul_right _ (by omega)
       omega
     rw[c0]
     simp
   by_cases kn:k < 0
   ·refine⟨x3,x4,.ow ((NH.contr (r.flatMap G.c)).map cK),?_⟩
    have:=Aq (bG (n+h+1)) x0 x3 x4 x5 acc _ k (r.map G.l) la ff kn _ rfl e lc3
    rw[m_ _ (by split <;> omega) _ (NH.bN _)]at this
    rw[show rp (r.flatMap G.c) k=(List.replicate k.natAbs (NH.contr (r.flatMap G.c))).flatten by unfold rp;rw[if_pos kn,show(-k).toNat=k.natAbs by omega]]
    exact this
   ·refine⟨x3,x4,x5,?_⟩
    have:=Ap (bG (n+h+1)) x0 x3 x4 x5 acc _ k (r.map G.l) la ff (by omega) _ rfl e lc3
    rw[m_ _ (by split <;> omega) _ rfl]at this
    rw[show rp (r.flatMap G.c) k=(List.replicate k.natAbs (r.flatMap G.c)).flatten by unfold rp;rw[if_neg kn,show k.toNat=k.natAbs by omega]]
    exact this
theorem Er{h:Nat}{r s:List G}(R:RI h r)(S:RI h s)(lr:r.length≤1000000)(ls:s.length≤1000000):GI (h+1) (EY r s):=by
 have ez:((r.flatMap G.c++s.flatMap G.c++NH.contr (r.flatMap G.c)++NH.contr (s.flatMap G.c)).length:Int)=2*(((r.flatMap G.c).length:Int)+(s.flatMap G.c).length):=by
  simp only[List.length_append,NH.bN]
  omega
 have lc:(r.flatMap G.c).length≤1000000*(10 ^ 36) ^ h:=Nat.le_trans R.bd (Nat.mul_le_mul_right _ lr)
 have lc2:(s.flatMap G.c).length≤1000000*(10 ^ 36) ^ h:=Nat.le_trans S.bd (Nat.mul_le_mul_right _ ls)
 have ff:=kx R.fl
 have fg:=kx S.fl
 refine⟨fun n=>?_,fun p hp=>?_,?_,?_,fun n x0 m=>?_,fun l n x0 x3 x4 x5 acc la=>?_⟩
 ·have e:(EY r s).x=vX (qm r) (qm s):=by
   show(⟨_,((r.flatMap G.c++s.flatMap G.c++NH.contr (r.flatMap G.c)++NH.contr (s.flatMap G.c)).length:Int),_⟩:It)=_
   rw[ez];rfl
  rw[e]
  exact Eb (R.co n) (S.co n)
 ·have hp:p∈r.flatMap G.c++s.flatMap G.c++NH.contr (r.flatMap G.c)++NH.contr (s.flatMap G.c):=hp
  simp only[List.mem_append]at hp
  rcases hp with((hp |hp) |hp) |hp
  ·exact R.lt p hp
  ·exact S.lt p hp
  ·exact nR R.lt p hp
  ·exact nR S.lt p hp
 ·show aJ (.tuple [.str "back",h7 (r.map G.l),h7 (s.map G.l)])=true
  simp only[aJ,bg,ff,fg,Bool.and_self]at ff fg ⊢
  simp[ff,fg]
 ·have e:(EY r s).c.length=2*((r.flatMap G.c).length+(s.flatMap G.c).length):=by
   show(r.flatMap G.c++s.flatMap G.c++NH.contr (r.flatMap G.c)++NH.contr (s.flatMap G.c)).length=_
   simp only[List.length_append,NH.bN]
   omega
  rw[e,Nat.pow_succ]
  generalize (10 ^ 36) ^ h=B at *
  omega
 ·have:=yi (bZ (n+h+1)) x0 m _ _ (r.map G.l) (s.map G.l) ff fg (R.ct n) (S.ct n)
  rw[←ez]at this
  exact this
 ·have l':(r.flatMap G.c++s.flatMap G.c++NH.contr (r.flatMap G.c)++NH.contr (s.flatMap G.c)).length≤300:=l
  simp only[List.length_append,NH.bN]at l'
  exact⟨_,_,x5,yk (bG (n+h+1)) x0 x3 x4 x5 acc _ _ (r.map G.l) (s.map G.l) la ff fg (R.ld (by omega) n) (S.ld (by omega) n) (by omega)⟩
theorem vP(c:iU)(b:cy)(r:i8)(k:Nat)(E:List Sl):db c b r (k+1) E=(c E).bind fun a=>if a.1 then (match r a.2 with
  |some x=>some x
  |none=>match b a.2 with
   |some (E2,.nx)=>db c b r k E2
   |some (E2,.ct)=>db c b r k E2
   |_=>none)else none:=rfl
section
variable (T:List Nat) (h:Nat) (L P:List PyData→Option Sl) (Q:List PyData→Option Str) (dep:Int)
inductive PartAt (n:Nat):Prop
 |ok (g:G) (m:Nat) (hg:GI h g) (h1:n < m) (h2:m≤T.length)
   (law:∀(acc:List PyData) (x4:Sl),acc.length < 1000000→∃x4',aT L [.sh (.str ⟨T.toArray⟩),.sh (.int n),.sh (.int dep),.ow acc,x4]=some ([.sh (.str ⟨T.toArray⟩),.sh (.int m),.sh (.int dep),.ow (acc++[g.l]),x4'],.nx))
   (pr:b9 P [.str ⟨T.toArray⟩,.int n,.int dep]=some (.sh (.tuple [g.d,.int m])))
   (rn:bh P Q [.str ⟨T.toArray⟩,.int n,.int dep]=none)
 |now (law:∀(acc:List PyData) (x4:Sl),∃E',aT L [.sh (.str ⟨T.toArray⟩),.sh (.int n),.sh (.int dep),.ow acc,x4]=some (E',.rt (.sh .none)))
   (rn:bh P Q [.str ⟨T.toArray⟩,.int n,.int dep]=some mO)
 |next (d:PyData) (m c:Nat) (hc:T[m]? =some c) (hd:Dg c∨c=45)
   (law:∀(acc:List PyData) (x4:Sl),∃E',aT L [.sh (.str ⟨T.toArray⟩),.sh (.int n),.sh (.int dep),.ow acc,x4]=some (E',.rt (.sh .none)))
   (pr:b9 P [.str ⟨T.toArray⟩,.int n,.int dep]=some (.sh (.tuple [d,.int m])))
   (rn:bh P Q [.str ⟨T.toArray⟩,.int n,.int dep]=none)
abbrev rA:i8:=df (bh P Q) (af false (ad 0) (af false (ad 4) (af false (ad 2) ap)))
theorem rO(x1 x3 x5:Sl)(n:Nat)(r:Option Str)(e:bh P Q [.str ⟨T.toArray⟩,.int n,.int dep]=r):rA P Q [.sh (.str ⟨T.toArray⟩),x1,.sh (.int dep),x3,.sh (.int n),x5]=r.map fun s=>(s,[.sh (.str ⟨T.toArray⟩),x1,.sh (.int dep),x3,.sh (.int n),x5]):=by
 unfold rA
 simp only[df,af,ad,List.getElem?_cons_zero,Sl.isBr,Bool.false_and,Bool.false_eq_true,ap,Option.map_some,if_false,Option.bind_some,List.getElem?_cons_succ,ax,look,Sl.val,e]
inductive RowRun (n:Nat):Prop
 |good (r:List G) (j:Nat) (hg:∀g∈r,GI h g) (h1:n≤j) (h2:j≤T.length) (hr:r.length≤j - n)
   (law:∀(acc:List PyData) (x4:Sl),acc.length+(T.length - n) < 1000000→∃x4' F,bo (bH L) (aT L) F [.sh (.str ⟨T.toArray⟩),.sh (.int n),.sh (.int dep),.ow acc,x4]=some ([.sh (.str ⟨T.toArray⟩),.sh (.int j),.sh (.int dep),.ow (acc++r.map G.l),x4'],.nx))
   (pr:∀(acc:List PyData) (x1 x5:Sl),acc.length+(T.length - n) < 1000000→∃x5' F,bo (aX P) (bu P) F [.sh (.str ⟨T.toArray⟩),x1,.sh (.int dep),.ow acc,.sh (.int n),x5]=some ([.sh (.str ⟨T.toArray⟩),x1,.sh (.int dep),.ow (acc++r.map G.d),.sh (.int j),x5'],.nx))
   (rn:∀(F:Nat) (acc:List PyData) (x1 x5:Sl),acc.length+(T.length - n) < 1000000→db (aX P) (bu P) (rA P Q) F [.sh (.str ⟨T.toArray⟩),x1,.sh (.int dep),.ow acc,.sh (.int n),x5]=none)
 |bad (law:∀(acc:List PyData) (x4:Sl),acc.length+(T.length - n) < 1000000→∃E' F,bo (bH L) (aT L) F [.sh (.str ⟨T.toArray⟩),.sh (.int n),.sh (.int dep),.ow acc,x4]=some (E',.rt (.sh .none)))
   (rn:∀(acc:List PyData) (x1 x5:Sl),acc.length+(T.length - n) < 1000000→∃F E',db (aX P) (bu P) (rA P Q) F [.sh (.str ⟨T.toArray⟩),x1,.sh (.int dep),.ow acc,.sh (.int n),x5]=some (mO,E'))
theorem uH(hT:T.length≤900000)(hp:∀n c,T[n]? =some c→¬c∈[41,44,93]→PartAt T h L P Q dep n)(n:Nat)(hn:n≤T.length):RowRun T h L P Q dep n:=by
 have hT':(T.length≤1000000)=True:=eq_true (by omega)
 have stop:(∀(x2 x3 x4:Sl),bH L [.sh (.str ⟨T.toArray⟩),.sh (.int n),x2,x3,x4]=some (false,[.sh (.str ⟨T.toArray⟩),.sh (.int n),x2,x3,x4]))→(∀(x1 x2 x3 x5:Sl),aX P [.sh (.str ⟨T.toArray⟩),x1,x2,x3,.sh (.int n),x5]=some (false,[.sh (.str ⟨T.toArray⟩),x1,x2,x3,.sh (.int n),x5]))→RowRun T h L P Q dep n:=fun a b=>by
  refine .good [] n (fun _ z=>nomatch z) (Nat.le_refl _) hn (Nat.zero_le _) (fun acc x4 _=>⟨x4,1,?_⟩) (fun acc x1 x5 _=>⟨x5,1,?_⟩) fun F acc x1 x5 _=>?_
  ·rw[bo,a,List.map_nil,List.append_nil];rfl
  ·rw[bo,b,List.map_nil,List.append_nil];rfl
  ·cases F with
   |zero=>rfl
   |succ F=>rw[vP,b];rfl
 by_cases hlt:n < T.length
 ·have hc:T[n]? =some T[n]:=List.getElem?_eq_getElem hlt
  generalize T[n]=c at hc
  by_cases q:c∈[41,44,93]
  ·exact stop (fun x2 x3 x4=>mP L T n c hT' x2 x3 x4 true hc (decide_eq_true q)) fun x1 x2 x3 x5=>qk P T x1 x2 x3 x5 n _ c true rfl hT' hlt hc (decide_eq_true q)
  ·have cl:∀x2 x3 x4:Sl,bH L [.sh (.str ⟨T.toArray⟩),.sh (.int n),x2,x3,x4]=some (true,[.sh (.str ⟨T.toArray⟩),.sh (.int n),x2,x3,x4]):=fun x2 x3 x4=>mP L T n c hT' x2 x3 x4 false hc (decide_eq_false q)
   have cp:∀x1 x2 x3 x5:Sl,aX P [.sh (.str ⟨T.toArray⟩),x1,x2,x3,.sh (.int n),x5]=some (true,[.sh (.str ⟨T.toArray⟩),x1,x2,x3,.sh (.int n),x5]):=fun x1 x2 x3 x5=>qk P T x1 x2 x3 x5 n _ c false rfl hT' hlt hc (decide_eq_false q)
   rcases hp n c hc q with⟨g,m,hg,h1,h2,law,pr,rn⟩ |⟨law,rn⟩ |⟨d,m,c',hc',hd',law,pr,rn⟩
   ·have pg:∀(acc:List PyData) (x1 x5:Sl),acc.length+(T.length - n) < 1000000→_:=fun acc x1 x5 la=>uC P T x1 (.int dep) g.d acc n m x5 pr (eq_true (by omega))
    rcases uH hT hp m h2 with⟨r,j,hr,j1,j2,jr,law',pr',rn'⟩ |⟨law',rn'⟩
    ·refine .good (g::r) j (fun x hx=>(List.mem_cons.mp hx).elim (fun e=>e▸hg) fun e=>hr x e) (by omega) j2 (by rw[List.length_cons];omega) (fun acc x4 la=>?_) (fun acc x1 x5 la=>?_) fun F acc x1 x5 la=>?_
     ·obtain⟨y,e⟩:=law acc x4 (by omega)
      obtain⟨x4',F,e'⟩:=law' (acc++[g.l]) y (by rw[List.length_append];simp;omega)
      refine⟨x4',F+1,?_⟩
      rw[bo,cl,Option.bind_some]
      simp only[if_true,e,Option.bind_some]
      rw[e',List.map_cons,List.append_assoc]
      rfl
     ·have e:=pg acc x1 x5 la
      obtain⟨x5',F,e'⟩:=pr' (acc++[g.d]) x1 (.sh (.tuple [g.d,.int m])) (by rw[List.length_append];simp;omega)
      refine⟨x5',F+1,?_⟩
      rw[bo,cp,Option.bind_some]
      simp only[if_true,e,Option.bind_some]
      rw[e',List.map_cons,List.append_assoc]
      rfl
     ·cases F with
      |zero=>rfl
      |succ F=>
       have e:=pg acc x1 x5 la
       have e2:=rO T P Q dep x1 (.ow acc) x5 n none rn
       have e3:=rn' F (acc++[g.d]) x1 (.sh (.tuple [g.d,.int m])) (by rw[List.length_append];simp;omega)
       rw[vP,cp,Option.bind_some]
       simp only[if_true,e2,Option.map_none,e]
       exact e3
    ·refine .bad (fun acc x4 la=>?_) fun acc x1 x5 la=>?_
     ·obtain⟨y,e⟩:=law acc x4 (by omega)
      obtain⟨E',F,e'⟩:=law' (acc++[g.l]) y (by rw[List.length_append];simp;omega)
      refine⟨E',F+1,?_⟩
      rw[bo,cl,Option.bind_some]
      simp only[if_true,e,Option.bind_some]
      exact e'
     ·have e:=pg acc x1 x5 la
      have e2:=rO T P Q dep x1 (.ow acc) x5 n none rn
      obtain⟨F,E',e3⟩:=rn' (acc++[g.d]) x1 (.sh (.tuple [g.d,.int m])) (by rw[List.length_append];simp;omega)
      refine⟨F+1,E',?_⟩
      rw[vP,cp,Option.bind_some]
      simp only[if_true,e2,Option.map_none,e]
      exact e3
   ·refine .bad (fun acc x4 la=>?_) fun acc x1 x5 la=>?_
    ·obtain⟨E',e⟩:=law acc x4
     refine⟨E',1,?_⟩
     rw[bo,cl,Option.bind_some]
     simp only[if_true,e,Option.bind_some]
    ·have e2:=rO T P Q dep x1 (.ow acc) x5 n _ rn
     refine⟨1,[.sh (.str ⟨T.toArray⟩),x1,.sh (.int dep),.ow acc,.sh (.int n),x5],?_⟩
     rw[vP,cp,Option.bind_some]
     simp only[if_true,e2,Option.map_some]
   ·refine .bad (fun acc x4 la=>?_) fun acc x1 x5 la=>?_
    ·obtain⟨E',e⟩:=law acc x4
     refine⟨E',1,?_⟩
     rw[bo,cl,Option.bind_some]
     simp only[if_true,e,Option.bind_some]
    ·have e:=uC P T x1 (.int dep) d acc n m x5 pr (eq_true (by omega))
     have e2:=rO T P Q dep x1 (.ow acc) x5 n none rn
     obtain⟨hl',_⟩:=List.getElem?_eq_some_iff.mp hc'
     have nl:¬rL c':=by unfold rL;unfold Dg at hd';omega
     have r2:=Eh P Q T m c' hT' hc' (.int dep) nl (eq_false (by unfold Dg at hd';omega)) (eq_false (by unfold Dg at hd';omega))
     have e3:=rO T P Q dep x1 (.ow (acc++[d])) (.sh (.tuple [d,.int m])) m _ r2
     have cp':=qk P T x1 (.sh (.int dep)) (.ow (acc++[d])) (.sh (.tuple [d,.int m])) m _ c' false rfl hT' hl' hc' (decide_eq_false (by unfold Dg at hd';simp;omega))
     refine⟨2,[.sh (.str ⟨T.toArray⟩),x1,.sh (.int dep),.ow (acc++[d]),.sh (.int m),.sh (.tuple [d,.int m])],?_⟩
     rw[vP,cp,Option.bind_some]
     simp only[if_true,e2,Option.map_none,e]
     rw[vP,cp',Option.bind_some]
     simp only[Bool.not_false,if_true,e3,Option.map_some]
 ·exact stop (fun x2 x3 x4=>uE L T n hT' x2 x3 x4 hlt) fun x1 x2 x3 x5=>Al P T x1 x2 x3 x5 n _ rfl hT' hlt
termination_by T.length - n
end
section
variable (self:List PyData→Option Sl) (rs:List PyData→Option Str) (T:Str) (I dep J:Int) (ds:List PyData) (x4 x5:Sl) (E':List Sl)
theorem rP(hf:bg ds=true)(w:fF (bH self) (aT self) [.sh (.str T),.sh (.int I),.sh (.int dep),.ow [],.no]=some ([.sh (.str T),.sh (.int J),.sh (.int dep),.ow ds,x4],.nx)):bP 3 5 (fB self) [.str T,.int I,.int dep]=some (.sh (.tuple [h7 ds,.int J])):=by
 have ff:=kx hf
 simp only[bP,List.length_cons,List.length_nil,Nat.zero_add,Nat.reduceAdd,bC,fB,ay,aD,cj,bi,av,List.map_cons,List.map_nil,Nat.reduceSub,List.replicate,List.cons_append,List.nil_append,Option.bind_some,Nat.reduceLeDiff,if_true,PL.settle,frz,frzAll,Nat.reduceLT,List.set_cons_succ,List.set_cons_zero,aF,c8,aw,ur,ad,Option.map_some,w,List.getElem?_cons_succ,List.getElem?_cons_zero,bt,aR,aJ,bg,Bool.and_true]
 exact if_pos ff
theorem rQ(w:fF (bH self) (aT self) [.sh (.str T),.sh (.int I),.sh (.int dep),.ow [],.no]=some (E',.rt (.sh .none))):bP 3 5 (fB self) [.str T,.int I,.int dep]=some (.sh .none):=by
 simp only[bP,List.length_cons,List.length_nil,Nat.zero_add,Nat.reduceAdd,bC,fB,ay,aD,cj,bi,av,List.map_cons,List.map_nil,Nat.reduceSub,List.replicate,List.cons_append,List.nil_append,Option.bind_some,Nat.reduceLeDiff,if_true,PL.settle,frz,frzAll,Nat.reduceLT,List.set_cons_succ,List.set_cons_zero,aF,c8,aw,ad,Option.map_some,w,bt,aR,aJ]
theorem Ar(hd:30 < dep):jL 3 6 (cE self rs) [.str T,.int I,.int dep]=some mO:=by
 have l:(30 < dep)=True:=eq_true hd
 simp only[jL,List.length_cons,List.length_nil,Nat.zero_add,Nat.reduceAdd,cE,kE,nS,a_,ag,ad,av,List.map_cons,List.map_nil,Nat.reduceSub,List.replicate,List.cons_append,List.nil_append,List.getElem?_cons_succ,List.getElem?_cons_zero,Sl.isBr,Bool.false_and,Bool.false_eq_true,pC,bz,look,Sl.val,ba,Cm.i,Cm.s,Option.bind_some,if_false,l,decide_true,Option.map_some,jJ,if_true]
theorem As(hd:dep≤30)(w:ja (aX self) (bu self) (rA self rs) [.sh (.str T),.sh (.int I),.sh (.int dep),.ow [],.sh (.int I),.no]=none):jL 3 6 (cE self rs) [.str T,.int I,.int dep]=none:=by
 have l:(30 < dep)=False:=eq_false (by omega)
 unfold rA at w
 simp only[jL,List.length_cons,List.length_nil,Nat.zero_add,Nat.reduceAdd,cE,kE,nS,a_,ag,ad,av,List.map_cons,List.map_nil,Nat.reduceSub,List.replicate,List.cons_append,List.nil_append,List.getElem?_cons_succ,List.getElem?_cons_zero,Sl.isBr,Bool.false_and,Bool.false_eq_true,pC,bz,look,Sl.val,ba,Cm.i,Cm.s,Option.bind_some,if_false,l,decide_false,Option.map_some,fU,aK,aB,aD,cj,bi,Nat.reduceLeDiff,if_true,PL.settle,frz,frzAll,Nat.reduceLT,List.set_cons_succ,List.set_cons_zero,w,Option.map_none]
theorem At(hd:dep≤30)(w:ja (aX self) (bu self) (rA self rs) [.sh (.str T),.sh (.int I),.sh (.int dep),.ow [],.sh (.int I),.no]=some (mO,E')):jL 3 6 (cE self rs) [.str T,.int I,.int dep]=some mO:=by
 have l:(30 < dep)=False:=eq_false (by omega)
 unfold rA at w
 simp only[jL,List.length_cons,List.length_nil,Nat.zero_add,Nat.reduceAdd,cE,kE,nS,a_,ag,ad,av,List.map_cons,List.map_nil,Nat.reduceSub,List.replicate,List.cons_append,List.nil_append,List.getElem?_cons_succ,List.getElem?_cons_zero,Sl.isBr,Bool.false_and,Bool.false_eq_true,pC,bz,look,Sl.val,ba,Cm.i,Cm.s,Option.bind_some,if_false,l,decide_false,Option.map_some,fU,aK,aB,aD,cj,bi,Nat.reduceLeDiff,if_true,PL.settle,frz,frzAll,Nat.reduceLT,List.set_cons_succ,List.set_cons_zero,w]
end
theorem Au{c:iU}{b:cy}{r:i8}{E:List Sl}(h:∀F,db c b r F E=none):ja c b r E=none:=by
 unfold ja
 refine dif_neg ?_
 rintro⟨k,x,e⟩
 rw[h k]at e
 cases e
inductive RowAt (T:List Nat) (k n:Nat):Prop
 |good (r:List G) (j:Nat) (hg:∀g∈r,GI k g) (h1:n≤j) (h2:j≤T.length) (hr:r.length≤j - n)
   (law:bT (k+3) [.str ⟨T.toArray⟩,.int n,.int (30 - k)]=some (.sh (.tuple [h7 (r.map G.l),.int j])))
   (pr:a9 (k+3) [.str ⟨T.toArray⟩,.int n,.int (30 - k)]=some (.sh (.tuple [(qm r).d,.int j])))
   (rn:bp (k+3) [.str ⟨T.toArray⟩,.int n,.int (30 - k)]=none)
 |bad (law:bT (k+3) [.str ⟨T.toArray⟩,.int n,.int (30 - k)]=some (.sh .none))
   (rn:bp (k+3) [.str ⟨T.toArray⟩,.int n,.int (30 - k)]=some mO)
theorem yp(T:List Nat)(hT:T.length≤900000)(k n:Nat)(hn:n≤T.length)(hp:∀n c,T[n]? =some c→¬c∈[41,44,93]→PartAt T k (bT (k+2)) (a9 (k+2)) (bp (k+2)) (30 - k) n):RowAt T k n:=by
 have hd:(30 - (k:Int))≤30:=by omega
 rcases uH T k (bT (k+2)) (a9 (k+2)) (bp (k+2)) (30 - k) hT hp n hn with⟨r,j,hg,h1,h2,hr,law,pr,rn⟩ |⟨law,rn⟩
 ·have R:=uG hg
  have C:=R.co 0
  obtain⟨x4,F,e⟩:=law [] .no (by simp only[List.length_nil];omega)
  obtain⟨x5,F',e'⟩:=pr [] (.sh (.int n)) .no (by simp only[List.length_nil];omega)
  have q:=Au fun F=>rn F [] (.sh (.int n)) .no (by simp only[List.length_nil];omega)
  refine .good r j hg h1 h2 hr ?_ ?_ (As _ _ ⟨T.toArray⟩ n _ hd q)
  ·exact rP _ ⟨T.toArray⟩ n _ j _ x4 R.fl (fq e)
  ·have ht:∀x∈r.map G.x,Tk x.d x.z:=fun x hx=>by
    obtain⟨g,hm,rfl⟩:=List.mem_map.mp hx
    exact((hg g hm).co 0).tk
   have hf:=ql _ ht
   have sz:=yb _ ht
   have ed:(r.map G.x).map It.d=r.map G.d:=by rw[List.map_map];rfl
   have es:((r.map G.x).map It.z).sum=((r.flatMap G.c).length:Int):=congrArg It.z (ym r).symm
   rw[ed]at hf sz
   refine oK (a9 (k+2)) ⟨T.toArray⟩ n _ j ((r.flatMap G.c).length:Int) (r.map G.d) x5 hd C.tk.fl ?_ (fq e')
   have hl2:decide ((r.map G.d).length≤1000000)=true:=decide_eq_true (by rw[List.length_map];omega)
   unfold fH
   simp only[sz,Option.bind_some,hf,hl2,Bool.and_self,if_true,es]
 ·obtain⟨E',F,e⟩:=law [] .no (by simp only[List.length_nil];omega)
  obtain⟨F',E2,e'⟩:=rn [] (.sh (.int n)) .no (by simp only[List.length_nil];omega)
  exact .bad (rQ _ ⟨T.toArray⟩ n _ E' (fq e)) (At _ _ ⟨T.toArray⟩ n _ E2 hd (vE e'))
theorem yq(T:List Nat)(hT:T.length≤900000)(L:List PyData→Option Sl)(n:Nat)(hn:n≤T.length)(acc:List PyData)(x4:Sl)(fa:bg acc=true)(la:acc.length+(T.length - n) < 1000000):
  (∃E' F,bo (bH L) (aT L) F [.sh (.str ⟨T.toArray⟩),.sh (.int n),.sh (.int 31),.ow acc,x4]=some (E',.rt (.sh .none)))∨∃(ds:List PyData) (j:Nat) (x4':Sl) (F:Nat),bg ds=true∧bo (bH L) (aT L) F [.sh (.str ⟨T.toArray⟩),.sh (.int n),.sh (.int 31),.ow acc,x4]=some ([.sh (.str ⟨T.toArray⟩),.sh (.int j),.sh (.int 31),.ow ds,x4'],.nx):=by
 have hT':(T.length≤1000000)=True:=eq_true (by omega)
 by_cases hlt:n < T.length
 ·have hc:T[n]? =some T[n]:=List.getElem?_eq_getElem hlt
  generalize T[n]=c at hc
  by_cases q:c∈[41,44,93]
  ·refine .inr ⟨acc,n,x4,1,fa,?_⟩
   rw[bo,mP L T n c hT' _ _ _ true hc (decide_eq_true q)]
   rfl
  ·have cl:=mP L T n c hT' (.sh (.int 31)) (.ow acc) x4 false hc (decide_eq_false q)
   have fin:(∃E',aT L [.sh (.str ⟨T.toArray⟩),.sh (.int n),.sh (.int 31),.ow acc,x4]=some (E',.rt (.sh .none)))→∃E' F,bo (bH L) (aT L) F [.sh (.str ⟨T.toArray⟩),.sh (.int n),.sh (.int 31),.ow acc,x4]=some (E',.rt (.sh .none)):=fun⟨E',e⟩=>by
    refine⟨E',1,?_⟩
    rw[bo,cl,Option.bind_some]
    simp only[Bool.not_false,if_true,e,Option.bind_some]
   by_cases hl:rL c
   ·have g1:((n:Int)+1)=((n+1:Nat):Int):=by omega
    rcases ti T (by omega) (n+1) (by omega)with⟨t,m,m1,m2,hk,law,pr⟩ |⟨t,m,c',m1,hc',hd,hk,law,pr⟩
    ·have e:=Be L T n c 31 hT' hc acc x4 hl t m (eq_true (by omega)) (by rw[g1];exact law)
     have f2:bg (acc++[vO (c,t)])=true:=by rw[k9,fa];rfl
     rcases yq T hT L m m2 (acc++[vO (c,t)]) (.sh (.tuple [vO (c,t),.int m])) f2 (by rw[List.length_append];simp;omega)with⟨E',F,w⟩ |⟨ds,j,y,F,fd,w⟩
     ·refine .inl ⟨E',F+1,?_⟩
      rw[bo,cl,Option.bind_some]
      simp only[Bool.not_false,if_true,e,Option.bind_some]
      exact w
     ·refine .inr ⟨ds,j,y,F+1,fd,?_⟩
      rw[bo,cl,Option.bind_some]
      simp only[Bool.not_false,if_true,e,Option.bind_some]
      exact w
    ·exact .inl (fin (Bf L T n c 31 hT' hc acc x4 hl (by rw[g1];exact law)))
   ·exact .inl (fin (Bg L T n c 31 hT' hc acc x4 hl (.inr (by decide))))
 ·refine .inr ⟨acc,n,x4,1,fa,?_⟩
  rw[bo,uE L T n hT' _ _ _ hlt]
  rfl
termination_by T.length - n
theorem CU(T:List Nat)(hT:T.length≤900000)(m n:Nat)(hn:n≤T.length):bT (m+1) [.str ⟨T.toArray⟩,.int n,.int 31]=some (.sh .none)∨∃a j,aJ a=true∧bT (m+1) [.str ⟨T.toArray⟩,.int n,.int 31]=some (.sh (.tuple [a,.int j])):=by
 rcases yq T hT (bT m) n hn [] .no rfl (by simp only[List.length_nil];omega)with⟨E',F,w⟩ |⟨ds,j,y,F,fd,w⟩
 ·exact .inl (rQ _ ⟨T.toArray⟩ n _ E' (fq w))
 ·exact .inr ⟨h7 ds,j,kx fd,rP _ ⟨T.toArray⟩ n _ j _ y fd (fq w)⟩
theorem yr(T:List Nat)(j:Nat)(hj:j≤T.length)(S:Str)(c:Nat)(e:S=⟨#[c]⟩)(h:T[j]? ≠some c):∃sg,Txt.slice (⟨T.toArray⟩:Str) (some (j:Int)) (some ((j:Int)+1))=sg∧(sg=S)=False:=by
 subst e
 rcases Nat.lt_or_ge j T.length with z |z
 ·refine⟨_,iC T j T[j] (List.getElem?_eq_getElem z),eq_false fun y=>h ?_⟩
  rw[List.getElem?_eq_getElem z]
  have:=congrArg (fun s:Str=>s.cps.toList) y
  simp at this
  rw[this]
 ·refine⟨_,qi T j (by omega),eq_false fun y=>?_⟩
  have:=congrArg (fun s:Str=>s.cps.toList) y
  simp at this
theorem Es:Str.ofString ")"=⟨#[41]⟩:=by decide+kernel
theorem Bl:Str.ofString ","=⟨#[44]⟩:=by decide+kernel
theorem Bm:Str.ofString "]"=⟨#[93]⟩:=by decide+kernel
theorem Gv(k:Int)(h:Nat)(hh:h≤30)(m:Nat)(hm:m≤1000000*(10 ^ 36) ^ h)(hk:k.natAbs < 10 ^ 30):dA (m:Int) (cm k)=true:=
 uy (by rw[Int.natAbs_natCast];exact big h hh _ hm) (by rw[qo];exact Nat.lt_of_lt_of_le (show((k.natAbs:Int)).natAbs < 10 ^ 30 by omega) (Nat.le_trans (by decide:10 ^ 30≤2 ^ 200) (Nat.pow_le_pow_right (by decide) (by decide))))
theorem uI(T:List Nat)(hT:T.length≤900000)(k:Nat)(hk30:k≤30)(ih:∀k',k=k'+1→∀n,n≤T.length→RowAt T k' n)(n c:Nat)(hc:T[n]? =some c)(hq:¬c∈[41,44,93]):PartAt T k (bT (k+2)) (a9 (k+2)) (bp (k+2)) (30 - k) n:=by
 have hT':(T.length≤1000000)=True:=eq_true (by omega)
 obtain⟨hn,_⟩:=List.getElem?_eq_some_iff.mp hc
 have g1:((n:Int)+1)=((n+1:Nat):Int):=by omega
 have d31:(30 - (k:Int)) < 31:=by omega
 by_cases hl:rL c
 ·rcases ti T (by omega) (n+1) (by omega)with⟨t,m,m1,m2,hk,law,pr⟩ |⟨t,m,c',m1,hc',hd,hk,law,pr⟩
  ·have e2:=kr T n m c t hT' hc (by rw[g1];exact pr)
   exact .ok (Gu (c,t)) m (Eo k hl) (by omega) m2 (fun acc x4 la=>⟨_,Be _ T n c _ hT' hc acc x4 hl t m (eq_true la) (by rw[g1];exact law)⟩) (py _ T n c _ hT' hc (kO c hl) e2 rfl _) (Ef _ _ T n c hT' hc _ hl _ e2 rfl)
  ·have e2:=kr T n m c t hT' hc (by rw[g1];exact pr)
   exact .next (vW (c,t)) m c' hc' hd (fun acc x4=>Bf _ T n c _ hT' hc acc x4 hl (by rw[g1];exact law)) (py _ T n c _ hT' hc (kO c hl) e2 rfl _) (Ef _ _ T n c hT' hc _ hl _ e2 rfl)
 by_cases hb:c=40∨c=91
 ·-- a bracket
  have now:aO (bT (k+2)) [.str ⟨T.toArray⟩,.int n,.int (30 - k)]=some (.sh .none)→(c=40→ce (a9 (k+2)) (bp (k+2)) [.str ⟨T.toArray⟩,.int n,.int (30 - k)]=some mO)→(c=91→bO (a9 (k+2)) (bp (k+2)) [.str ⟨T.toArray⟩,.int n,.int (30 - k)]=some mO)→PartAt T k (bT (k+2)) (a9 (k+2)) (bp (k+2)) (30 - k) n:=fun a t b=>by
   refine .now (fun acc x4=>Bi _ T n c _ hT' hc acc x4 hb d31 a) ?_
   rcases hb with q |q
   ·exact CP _ _ T n c hT' hc _ q _ (t q) .none fun z=>nomatch z
   ·exact Eg _ _ T n c hT' hc _ q _ (b q) .none fun z=>nomatch z
  cases k with
  |zero=>
   have r31:bp 2 [.str ⟨T.toArray⟩,.int ((n:Int)+1),.int ((30 - ((0:Nat):Int))+1)]=some mO:=Ar _ _ _ _ _ (by decide)
   refine now ?_ (fun _=>Ec _ _ _ _ _ r31) (fun _=>Ed _ _ _ _ _ r31)
   rcases CU T hT 1 (n+1) hn with e |⟨a,j,fa,e⟩
   ·exact Ek _ T n c _ hT' hc (by rw[g1];exact e)
   ·exact FR _ T n c _ hT' hc rfl a j fa (by rw[g1];exact e)
  |succ k'=>
   have dd:(30 - ((k'+1:Nat):Int))+1=30 - (k':Int):=by omega
   have d30:(30 - ((k'+1:Nat):Int)=30)=False:=eq_false (by omega)
   rcases ih k' rfl (n+1) hn with⟨r,j,hg,j1,j2,jr,law,pr,rn⟩ |⟨law,rn⟩
   ·have R:=uG hg
    have tk:=(R.co 0).tk
    have szr:=x_ tk
    have ffr:=kx R.fl
    rw[←g1,←dd]at law
    rw[←g1,←dd]at pr
    rw[←g1,←dd]at rn
    have g2:((j:Int)+1)=((j+1:Nat):Int):=by omega
    have lc:(r.flatMap G.c).length≤1000000*(10 ^ 36) ^ k':=Nat.le_trans R.bd (Nat.mul_le_mul_right _ (by omega))
    rcases hb with q |q
    ·-- round
     by_cases hj:T[j]? =some 41
     ·obtain⟨jl,_⟩:=List.getElem?_eq_some_iff.mp hj
      have s1:=iC T j 41 hj
      have be:=md ")" 41 T j tm hj
      have rb:=nP ")" 41 T j tm hj
      rcases ti T (by omega) (j+1) (by omega)with⟨t,m,m1,m2,hk,nlaw,npr⟩ |⟨t,m,c',m1,hc',hd,hk,nlaw,npr⟩
      ·have om:=Gv t k' (by omega) _ lc hk
       have er:=ku _ ⟨T.toArray⟩ n _ j t m _ _ tk.fl szr om pr be (by rw[g2];exact npr)
       have fe:=pA (k:=m) (uB t ((r.flatMap G.c).length*cm t) tk.fl).fl
       have lb:=El _ T n c _ hT' hc d30 _ j ffr law _ s1 q rfl _ t m (.inr ⟨by rw[g2];exact nlaw,rfl⟩)
       have gi:=Ep (k:=t) R hk (by omega) (by omega)
       exact .ok (FY r t) m gi (by omega) m2 (fun acc x4 la=>⟨_,Bh _ T n c _ hT' hc acc x4 (.inl q) d31 _ gi.fl m (eq_true la) lb⟩) (pz _ T n _ hT' (q▸hc) _ er fe) (CP _ _ T n c hT' hc _ q _ (CO _ _ _ _ _ _ _ _ rn pr rb) _ fun _=>⟨er,fe⟩)
      ·have om:dA ((r.flatMap G.c).length:Int) (cm t)=true:=Gv t k' (by omega) _ lc (by rcases hk with rfl |rfl <;> decide)
       have er:=ku _ ⟨T.toArray⟩ n _ j t m _ _ tk.fl szr om pr be (by rw[g2];exact npr)
       have fe:=pA (k:=m) (uB t ((r.flatMap G.c).length*cm t) tk.fl).fl
       have lb:=El _ T n c _ hT' hc d30 _ j ffr law _ s1 q rfl _ t m (.inl ⟨by rw[g2];exact nlaw,rfl⟩)
       exact .next _ m c' hc' hd (fun acc x4=>Bi _ T n c _ hT' hc acc x4 (.inl q) d31 lb) (pz _ T n _ hT' (q▸hc) _ er fe) (CP _ _ T n c hT' hc _ q _ (CO _ _ _ _ _ _ _ _ rn pr rb) _ fun _=>⟨er,fe⟩)
     ·obtain⟨sg,s1,s2⟩:=yr T j j2 _ 41 Es hj
      exact now (FS _ T n c _ hT' hc d30 _ j ffr law sg s1 q s2) (fun _=>CO _ _ _ _ _ _ _ _ rn pr (nQ ")" 41 T j tm hj)) fun z=>absurd (q.symm.trans z) (by decide)
    ·-- square
     by_cases hj:T[j]? =some 44
     ·obtain⟨jl,_⟩:=List.getElem?_eq_some_iff.mp hj
      have s1:=iC T j 44 hj
      rw[←Bl]at s1
      have be:=md "," 44 T j tz hj
      have rb:=nP "," 44 T j tz hj
      rcases ih k' rfl (j+1) jl with⟨r2,i,hg2,i1,i2,ir,law2,pr2,rn2⟩ |⟨law2,rn2⟩
      ·have S:=uG hg2
       have tk2:=(S.co 0).tk
       have yG:=x_ tk2
       have ffs:=kx S.fl
       rw[←g2,←dd]at law2
       rw[←g2,←dd]at pr2
       rw[←g2,←dd]at rn2
       by_cases hi:T[i]? =some 93
       ·obtain⟨il,_⟩:=List.getElem?_eq_some_iff.mp hi
        have t1:=iC T i 93 hi
        rw[←Bm]at t1
        have be2:=md "]" 93 T i tB hi
        have rb2:=nP "]" 93 T i tB hi
        have er:=qj _ ⟨T.toArray⟩ n _ j i _ _ _ _ tk.fl tk2.fl szr yG pr be pr2 be2
        have fe:=pA (k:=(i:Int)+1) (x9 (2*(((r.flatMap G.c).length:Int)+(r2.flatMap G.c).length)) tk.fl tk2.fl).fl
        have lb:=FW _ T n c _ hT' hc d30 _ j ffr law _ s1 _ i ffs law2 _ t1 q rfl rfl
        have gi:=Er R S (by omega) (by omega)
        have g3:((i:Int)+1)=((i+1:Nat):Int):=by omega
        rw[g3]at er fe lb
        exact .ok (EY r r2) (i+1) gi (by omega) il (fun acc x4 la=>⟨_,Bh _ T n c _ hT' hc acc x4 (.inr q) d31 _ gi.fl _ (eq_true la) lb⟩) (vN _ T n _ hT' (q▸hc) _ er fe) (Eg _ _ T n c hT' hc _ q _ (Ee _ _ _ _ _ _ _ _ _ _ _ _ tk.fl tk2.fl szr yG rn pr rb be rn2 pr2 rb2) _ fun _=>⟨er,fe⟩)
       ·obtain⟨sg,t1,t2⟩:=yr T i i2 _ 93 Bm hi
        exact now (FV _ T n c _ hT' hc d30 _ j ffr law _ s1 _ i ffs law2 sg t1 q rfl t2) (fun z=>absurd (q.symm.trans z) (by decide)) fun _=>Ee _ _ _ _ _ _ _ _ _ _ _ _ tk.fl tk2.fl szr yG rn pr rb be rn2 pr2 (nQ "]" 93 T i tB hi)
      ·rw[←g2,←dd]at law2
       rw[←g2,←dd]at rn2
       exact now (FU _ T n c _ hT' hc d30 _ j ffr law _ s1 q rfl law2) (fun z=>absurd (q.symm.trans z) (by decide)) fun _=>FQ _ _ _ _ _ _ _ rn pr rb be rn2
     ·obtain⟨sg,s1,s2⟩:=yr T j j2 _ 44 Bl hj
      exact now (FT _ T n c _ hT' hc d30 _ j ffr law sg s1 q s2) (fun z=>absurd (q.symm.trans z) (by decide)) fun _=>FP _ _ _ _ _ _ _ rn pr (nQ "," 44 T j tz hj)
   ·rw[←g1,←dd]at law
    rw[←g1,←dd]at rn
    exact now (Ek _ T n c _ hT' hc law) (fun _=>Ec _ _ _ _ _ rn) (fun _=>Ed _ _ _ _ _ rn)
 ·have h40:c≠40:=fun z=>hb (.inl z)
  have h91:c≠91:=fun z=>hb (.inr z)
  exact .now (fun acc x4=>Bg _ T n c _ hT' hc acc x4 hl (.inl ⟨h40,h91⟩)) (Eh _ _ T n c hT' hc _ hl (eq_false h40) (eq_false h91))
theorem rR(T:List Nat)(hT:T.length≤900000):∀k,k≤30→∀n,n≤T.length→RowAt T k n
 | 0,h,n,hn=>yp T hT 0 n hn (uI T hT 0 h fun k' e=>nomatch e)
 |k+1,h,n,hn=>yp T hT (k+1) n hn (uI T hT (k+1) h fun k' e n hn=>by cases e;exact rR T hT k (by omega) n hn)
theorem Et:List.lookup ("NoText":Str) [(("NoText":Str),false)]=some false:=by decide+kernel
theorem CV:List.lookup ("NoText":Str) [(("NoText":Str),true)]=some true:=by decide+kernel
theorem oM:dM [vw "NoText"]=some (.ow [.bool false,.bool false,.bool false,.bool false,.bool false,.bool false,.bool false,.bool false,.bool false]):=by
 simp only[dM,bP,vw,List.length_cons,List.length_nil,Nat.zero_add,bC,gN,ay,aD,cj,aw,gE,ad,av,List.map_cons,List.map_nil,Nat.reduceSub,List.replicate,List.cons_append,List.nil_append,List.getElem?_cons_zero,look,Sl.val,jv,kG,Option.bind_some,Et,Option.map_some,frz,kK,kJ,jO,bi,Nat.reduceAdd,Nat.reduceLeDiff,if_true,PL.settle,frzAll,Nat.reduceLT,List.set_cons_succ,List.set_cons_zero,ag,Sl.isBr,Bool.false_and,Bool.false_eq_true,kL,jb,kH,jP,aE,hot,aV,if_false,aF,jQ,List.getElem?_cons_succ,Option.any_some,Bool.not_false,Bool.true_or,Bool.and_true,decide_true,bt,aR,bg,aJ]
theorem qp(d:PyData)(r:eO [d]=some mO):bX [d]=some (.sh .none):=by
 have o:=oM
 unfold vw at o
 have m:(mO∈([Str.ofString "NoText"]:List Str))=True:=eq_true (List.mem_singleton.mpr rfl)
 simp only[bX,bP,List.length_cons,List.length_nil,Nat.zero_add,bC,ib,ay,aD,pC,av,List.map_cons,List.map_nil,Nat.reduceSub,List.replicate,List.cons_append,List.nil_append,PL.settle,frz,frzAll,Option.bind_some,Nat.reduceAdd,Nat.reduceLT,List.set_cons_succ,List.set_cons_zero,if_true,xw,df,af,ad,Sl.isBr,Bool.false_and,Bool.false_eq_true,ap,Option.map_some,if_false,ao,aK,cz,cA,cL,gE,vw,look,Sl.val,jv,kI,h8,a_,ag,bz,xx,aF,aB,List.getElem?_cons_zero,ax,r,m,true_and,List.getElem?_cons_succ,CV,dY,Bool.not_true,o,lg,List.contains_cons,List.contains_nil,Bool.or_false,bt,aR]
 rfl
theorem yt(d x:PyData)(r:eO [d]=none)(e:jh [d]=some (.sh x))(hf:aJ x=true):bX [d]=some (.sh x):=by
 simp only[bX,bP,List.length_cons,List.length_nil,Nat.zero_add,bC,ib,ay,aD,pC,av,List.map_cons,List.map_nil,Nat.reduceSub,List.replicate,List.cons_append,List.nil_append,PL.settle,frz,frzAll,Option.bind_some,Nat.reduceAdd,Nat.reduceLT,List.set_cons_succ,List.set_cons_zero,if_true,xw,df,af,ad,Sl.isBr,Bool.false_and,Bool.false_eq_true,ap,Option.map_some,if_false,ao,aK,cz,cA,cL,gE,look,Sl.val,a_,ag,bz,aF,aB,List.getElem?_cons_zero,ax,r,Option.map_none,e,List.getElem?_cons_succ,bt,aR,hf]
section
variable (T:List Nat) (hT:(T.length≤1000000)=True)
include hT
theorem FZ(r:cV [.str ⟨T.toArray⟩,.int 0,.int 0]=some mO):eO [.str ⟨T.toArray⟩]=some mO:=by
 simp only[eO,jL,List.length_cons,List.length_nil,Nat.zero_add,kM,kE,nS,cA,cL,gE,ad,av,List.map_cons,List.map_nil,Nat.reduceSub,List.replicate,List.cons_append,List.nil_append,List.getElem?_cons_zero,look,Sl.val,ip,Ty.is,ud,Option.bind_some,Option.map_some,dY,Bool.not_true,fU,aK,aB,Bool.false_eq_true,if_false,df,af,Sl.isBr,Bool.false_and,pC,ap,ax,r,if_true]
theorem F7(d:PyData)(j:Int)(hf:aJ d=true)(r:cV [.str ⟨T.toArray⟩,.int 0,.int 0]=none)(e:cU [.str ⟨T.toArray⟩,.int 0,.int 0]=some (.sh (.tuple [d,.int j])))(hj:j < T.length):eO [.str ⟨T.toArray⟩]=some mO:=by
 have ft:aJ (.tuple [d,.int j])=true:=pA hf
 have hj':=eq_true hj
 simp only[eO,jL,List.length_cons,List.length_nil,Nat.zero_add,kM,kE,nS,cA,cL,gE,ad,av,List.map_cons,List.map_nil,Nat.reduceSub,List.replicate,List.cons_append,List.nil_append,List.getElem?_cons_zero,look,Sl.val,ip,Ty.is,ud,Option.bind_some,Option.map_some,dY,Bool.not_true,fU,aK,aB,Bool.false_eq_true,if_false,df,af,Sl.isBr,Bool.false_and,pC,ap,ax,r,Option.map_none,aD,ao,e,PL.settle,frz,frzAll,Nat.reduceAdd,Nat.reduceLT,List.set_cons_succ,List.set_cons_zero,if_true,a_,ag,List.getElem?_cons_succ,bq,hot,aV,cN,bJ,cG,bz,ba,Cm.i,Cm.s,aI,hT,hj',decide_true,jJ]
theorem F8(d:PyData)(j:Int)(hf:aJ d=true)(r:cV [.str ⟨T.toArray⟩,.int 0,.int 0]=none)(e:cU [.str ⟨T.toArray⟩,.int 0,.int 0]=some (.sh (.tuple [d,.int j])))(hj:¬j < T.length):eO [.str ⟨T.toArray⟩]=none∧jh [.str ⟨T.toArray⟩]=some (.sh d):=by
 have ft:aJ (.tuple [d,.int j])=true:=pA hf
 have hj':=eq_false hj
 refine⟨?_,?_⟩
 ·simp only[eO,jL,List.length_cons,List.length_nil,Nat.zero_add,kM,kE,nS,cA,cL,gE,ad,av,List.map_cons,List.map_nil,Nat.reduceSub,List.replicate,List.cons_append,List.nil_append,List.getElem?_cons_zero,look,Sl.val,ip,Ty.is,ud,Option.bind_some,Option.map_some,dY,Bool.not_true,fU,aK,aB,Bool.false_eq_true,if_false,df,af,Sl.isBr,Bool.false_and,pC,ap,ax,r,Option.map_none,aD,ao,e,PL.settle,frz,frzAll,Nat.reduceAdd,Nat.reduceLT,List.set_cons_succ,List.set_cons_zero,if_true,a_,ag,List.getElem?_cons_succ,bq,hot,aV,cN,bJ,cG,bz,ba,Cm.i,Cm.s,aI,hT,hj',decide_false]
 ·simp only[jh,bP,List.length_cons,List.length_nil,Nat.zero_add,bC,p3,ay,aK,cA,cL,gE,ad,av,List.map_cons,List.map_nil,Nat.reduceSub,List.replicate,List.cons_append,List.nil_append,List.getElem?_cons_zero,look,Sl.val,ip,Ty.is,ud,Option.bind_some,Option.map_some,dY,Bool.not_true,aB,Bool.false_eq_true,if_false,aD,ao,af,Sl.isBr,Bool.false_and,pC,ap,PL.settle,frz,frzAll,a_,ag,bq,hot,aV,bJ,cG,bz,ba,Cm.i,Cm.s,aF,ax,e,Nat.reduceAdd,Nat.reduceLT,List.set_cons_succ,List.set_cons_zero,if_true,List.getElem?_cons_succ,cN,aI,hT,hj',decide_false,eQ,bt,aR,hf]
theorem Eu(e:fo [.str ⟨T.toArray⟩,.int 0,.int 0]=some (.sh .none)):cu [.str ⟨T.toArray⟩]=some (.sh .none):=by
 simp only[cu,bP,List.length_cons,List.length_nil,Nat.zero_add,bC,f8,ay,aD,ao,af,ad,av,List.map_cons,List.map_nil,Nat.reduceSub,List.replicate,List.cons_append,List.nil_append,List.getElem?_cons_zero,Sl.isBr,Bool.false_and,Bool.false_eq_true,pC,ap,Option.map_some,if_false,Option.bind_some,ax,look,Sl.val,e,PL.settle,frz,frzAll,Nat.reduceAdd,Nat.reduceLT,List.set_cons_succ,List.set_cons_zero,if_true,aK,cz,a_,ag,bz,cY,Bool.not_false,bq,hot,aV,bJ,cG,ba,Cm.i,Cm.s,aF,aB,List.getElem?_cons_succ,Option.bind_none,bt,aR,aJ]
theorem Ev(d:PyData)(j:Int)(hf:aJ d=true)(e:fo [.str ⟨T.toArray⟩,.int 0,.int 0]=some (.sh (.tuple [d,.int j])))(hj:j < T.length):cu [.str ⟨T.toArray⟩]=some (.sh .none):=by
 have ft:aJ (.tuple [d,.int j])=true:=pA hf
 have hj':=eq_true hj
 simp only[cu,bP,List.length_cons,List.length_nil,Nat.zero_add,bC,f8,ay,aD,ao,af,ad,av,List.map_cons,List.map_nil,Nat.reduceSub,List.replicate,List.cons_append,List.nil_append,List.getElem?_cons_zero,Sl.isBr,Bool.false_and,Bool.false_eq_true,pC,ap,Option.map_some,if_false,Option.bind_some,ax,look,Sl.val,e,PL.settle,frz,frzAll,Nat.reduceAdd,Nat.reduceLT,List.set_cons_succ,List.set_cons_zero,if_true,aK,cz,a_,ag,bz,cY,Bool.not_false,bq,hot,aV,bJ,cG,ba,Cm.i,Cm.s,aF,aB,List.getElem?_cons_succ,cN,aI,hT,hj',decide_true,bt,aR,aJ]
theorem Ew(d:PyData)(j:Int)(hf:aJ d=true)(e:fo [.str ⟨T.toArray⟩,.int 0,.int 0]=some (.sh (.tuple [d,.int j])))(hj:¬j < T.length):cu [.str ⟨T.toArray⟩]=some (.sh d):=by
 have ft:aJ (.tuple [d,.int j])=true:=pA hf
 have hj':=eq_false hj
 simp only[cu,bP,List.length_cons,List.length_nil,Nat.zero_add,bC,f8,ay,aD,ao,af,ad,av,List.map_cons,List.map_nil,Nat.reduceSub,List.replicate,List.cons_append,List.nil_append,List.getElem?_cons_zero,Sl.isBr,Bool.false_and,Bool.false_eq_true,pC,ap,Option.map_some,if_false,Option.bind_some,ax,look,Sl.val,e,PL.settle,frz,frzAll,Nat.reduceAdd,Nat.reduceLT,List.set_cons_succ,List.set_cons_zero,if_true,aK,cz,a_,ag,bz,cY,Bool.not_false,bq,hot,aV,bJ,cG,ba,Cm.i,Cm.s,aF,aB,List.getElem?_cons_succ,cN,aI,hT,hj',decide_false,eQ,bt,aR,hf]
end
theorem uJ(T:Str)(a:cu [.str T]=some (.sh .none))(b:bX [.str T]=some (.sh .none)):bD [.str T]=some (.sh (.bool true)):=by
 simp only[bD,bP,List.length_cons,List.length_nil,Nat.zero_add,bC,f9,ay,aD,ao,af,ad,av,List.map_cons,List.map_nil,Nat.reduceSub,List.replicate,List.cons_append,List.nil_append,List.getElem?_cons_zero,Sl.isBr,Bool.false_and,Bool.false_eq_true,ap,Option.map_some,if_false,Option.bind_some,ax,look,Sl.val,a,PL.settle,frz,frzAll,Nat.reduceAdd,Nat.reduceLT,List.set_cons_succ,List.set_cons_zero,if_true,aK,cz,a_,ag,pC,bz,cY,Bool.not_false,aF,kh,aB,jB,wJ,ba,Cm.i,Cm.s,b,List.getElem?_cons_succ,bt,aR,aJ]
theorem yu (T:Str) (l:List PyData) (kvs:List (PyData×PyData)) (c:List Pc) (hf:aJ (h7 l)=true) (t:Tk (fj "Parts" kvs) (c.length:Int)) (a:cu [.str T]=some (.sh (h7 l))) (b:bX [.str T]=some (.sh (fj "Parts" kvs))) (ct:gM [h7 l]=some (.sh (.int c.length)))
  (co:c.length≤300→jS [fj "Parts" kvs]=some (.ow (c.map cK))∧iw [h7 l]=some (.ow (c.map cK))∧dI [.list (c.map cK),.list (c.map cK)]=some (.sh (.bool true))):bD [.str T]=some (.sh (.bool true)):=by
 have s:=t.sz
 have fd:=t.fl
 have q:zZ ["Piece","Parts","Times","Back"] (fj "Parts" kvs) (.str (Str.ofString "another refusal"))=some (.bool false):=by
  show(if (["Piece","Parts","Times","Back"]:List Str).contains "Parts" then some (PyData.bool false)else none)=_
  rw[c4 (.inr (.inl rfl))];rfl
 have q2:sx (.int (c.length:Int)) (.int (c.length:Int))=some true:=by rw[aQ,decide_eq_true rfl]
 obtain⟨ka,ea⟩:∃ka,fj "Parts" kvs=.dict ka:=⟨_,rfl⟩
 obtain⟨kb,eb⟩:∃kb,h7 l=.dict kb:=⟨_,rfl⟩
 rw[ea]at *
 rw[eb]at *
 clear ea eb
 simp only[aJ]at hf fd
 by_cases h:300 < (c.length:Int)
 ·have h':=eq_true h
  simp only[bD,bP,List.length_cons,List.length_nil,Nat.zero_add,bC,f9,ay,aD,ao,af,ad,av,List.map_cons,List.map_nil,Nat.reduceSub,List.replicate,List.cons_append,List.nil_append,List.getElem?_cons_zero,Sl.isBr,Bool.false_and,Bool.false_eq_true,ap,Option.map_some,if_false,Option.bind_some,ax,look,Sl.val,a,PL.settle,frz,frzAll,Nat.reduceAdd,Nat.reduceLT,List.set_cons_succ,List.set_cons_zero,if_true,aK,cz,a_,ag,pC,bz,cY,Bool.not_false,aF,kh,aB,fW,jB,wJ,ba,Cm.i,Cm.s,b,List.getElem?_cons_succ,q,ct,s,aQ,decide_true,Bool.not_true,h',bt,aR,aJ]
 ·have h':=eq_false h
  obtain⟨c1,c2,c3⟩:=co (by omega)
  simp only[bD,bP,List.length_cons,List.length_nil,Nat.zero_add,bC,f9,ay,aD,ao,af,ad,av,List.map_cons,List.map_nil,Nat.reduceSub,List.replicate,List.cons_append,List.nil_append,List.getElem?_cons_zero,Sl.isBr,Bool.false_and,Bool.false_eq_true,ap,Option.map_some,if_false,Option.bind_some,ax,look,Sl.val,a,PL.settle,frz,frzAll,Nat.reduceAdd,Nat.reduceLT,List.set_cons_succ,List.set_cons_zero,if_true,aK,cz,a_,ag,pC,bz,cY,Bool.not_false,aF,kh,aB,fW,jB,wJ,ba,Cm.i,Cm.s,b,List.getElem?_cons_succ,q,ct,s,aQ,decide_true,Bool.not_true,h',decide_false,c1,c2,c3,bt,aR,aJ]
theorem Av(T:List Nat)(hT:T.length≤900000):bD [.str ⟨T.toArray⟩]=some (.sh (.bool true)):=by
 have hT':(T.length≤1000000)=True:=eq_true (by omega)
 rcases rR T hT 30 (by decide) 0 (Nat.zero_le _)with⟨r,j,hg,h1,h2,hr,law,pr,rn⟩ |⟨law,rn⟩
 ·have law:fo [.str ⟨T.toArray⟩,.int 0,.int 0]=_:=law
  have pr:cU [.str ⟨T.toArray⟩,.int 0,.int 0]=_:=pr
  have rn:cV [.str ⟨T.toArray⟩,.int 0,.int 0]=_:=rn
  have R:=uG hg
  have C:=R.co 8
  have ff:=kx R.fl
  by_cases hj:(j:Int) < T.length
  ·exact uJ _ (Ev T hT' _ j ff law hj) (qp _ (F7 T hT' _ j C.tk.fl rn pr hj))
  ·obtain⟨q1,q2⟩:=F8 T hT' _ j C.tk.fl rn pr hj
   refine yu _ (r.map G.l) _ (r.flatMap G.c) ff C.tk (Ew T hT' _ j ff law hj) (yt _ _ q1 q2 C.tk.fl) (R.ct 2) fun l=>⟨?_,R.ld l 2,qh _ (ye R.lt) (by omega)⟩
   unfold jS
   exact(C.co (show((r.flatMap G.c).length:Int)≤4000 by omega)).1
 ·exact uJ _ (Eu T hT' law) (qp _ (FZ T hT' rn))
theorem slen(a b:Str):(a++b).length=a.length+b.length:=by
 show(a.cps++b.cps).size=_
 rw[Array.size_append]
 rfl
theorem Ex:(Str.ofString "(").length=1:=by decide+kernel
theorem EZ:(Str.ofString ")").length=1:=by decide+kernel
theorem Ey:(Str.ofString "[").length=1:=by decide+kernel
theorem Gw:(Str.ofString ",").length=1:=by decide+kernel
theorem E7:(Str.ofString "]").length=1:=by decide+kernel
theorem Gx:(Str.ofString "").length=0:=by decide+kernel
theorem qr(z:Int)(m:Int)(h:0 < m):∃v,z % m=v∧0≤v∧v < m:=⟨_,rfl,Int.emod_nonneg _ (by omega),Int.emod_lt_of_pos _ h⟩
theorem Aw(v:Int)(h0:0≤v)(h1:v < 6):∃M:Str,atI [PyData.str (Str.ofString ""),.str (Str.ofString "2"),.str (Str.ofString "-1"),.str (Str.ofString "0"),.str (Str.ofString "12"),.str (Str.ofString "-30")] v=some (.str M)∧M.length≤3∧(Txt.slice M none (some 2)).length≤3:=by
 rcases(show v=0∨v=1∨v=2∨v=3∨v=4∨v=5 by omega)with h |h |h |h |h |h <;> subst h
 ·exact⟨_,rfl,by decide+kernel,by decide+kernel⟩
 ·exact⟨_,rfl,by decide+kernel,by decide+kernel⟩
 ·exact⟨_,rfl,by decide+kernel,by decide+kernel⟩
 ·exact⟨_,rfl,by decide+kernel,by decide+kernel⟩
 ·exact⟨_,rfl,by decide+kernel,by decide+kernel⟩
 ·exact⟨_,rfl,by decide+kernel,by decide+kernel⟩
theorem AZ(v:Int)(h0:0≤v)(h1:v < 26):∃c,atI (Str.ofString "abcdefghijklmnopqrstuvwxyz").cps.toList v=some c:=by
 have l:(Str.ofString "abcdefghijklmnopqrstuvwxyz").cps.toList.length=26:=by decide+kernel
 obtain⟨n,rfl⟩:=Int.eq_ofNat_of_zero_le h0
 refine⟨_,(aW _ n).trans (List.getElem?_eq_getElem (by omega))⟩
section
variable (self:List PyData→Option Sl) (cell deep K j at' v z1 z2 z3 u:Int) (W A B Mk:Str) (x5 x6 x7 x8:Sl)
 (ea:11*K+7*j+1=at') (e1:bF [.int cell,.int at']=some (.sh (.int z1))) (e2:bF [.int cell,.int (at'+1)]=some (.sh (.int z2))) (hv:z1 % 6=v) (hu:z2 % 6=u) (em:atI [PyData.str (Str.ofString ""),.str (Str.ofString "2"),.str (Str.ofString "-1"),.str (Str.ofString "0"),.str (Str.ofString "12"),.str (Str.ofString "-30")] u=some (.str Mk)) (lM:Mk.length≤3) (lS:(Txt.slice Mk none (some 2)).length≤3) (lW:W.length≤100000)
include ea e1 e2 hv hu em lM lS lW
theorem GL(h4:v=4)(hd:0 < deep)(lA:A.length≤100000)(es:self [.int cell,.int (deep - 1),.int (at'+2)]=some (.sh (.str A))):a7 self [.sh (.int cell),.sh (.int deep),.sh (.int K),.sh (.str W),.sh (.int j),x5,x6,x7,x8]=some ([.sh (.int cell),.sh (.int deep),.sh (.int K),.sh (.str (W++Str.ofString "("++A++Str.ofString ")"++Txt.slice Mk none (some 2))),.sh (.int j),.sh (.int at'),.sh (.int v),.sh (.str Mk),x8],.nx):=by
 subst h4
 have m1:dA 11 K=true:=gG (by decide) (by decide)
 have m2:dA 7 j=true:=gG (by decide) (by decide)
 have hd':=eq_true hd
 have l0:(Mk.length≤1000000)=True:=eq_true (by omega)
 have l1:(W.length+1≤1000000)=True:=eq_true (by omega)
 have l2:(W.length+1+A.length≤1000000)=True:=eq_true (by omega)
 have l3:(W.length+1+A.length+1≤1000000)=True:=eq_true (by omega)
 have l4:(W.length+1+A.length+1+(Txt.slice Mk none (some 2)).length≤1000000)=True:=eq_true (by omega)
 simp only[a7,ay,aD,ag,pC,Sl.isBr,Bool.false_and,Bool.false_eq_true,ad,dX,look,Sl.val,Int.reduceNeg,hot,aV,if_false,Option.bind_some,List.getElem?_cons_succ,List.getElem?_cons_zero,Bool.not_false,Bool.true_or,Bool.and_true,m1,if_true,aE,m2,ea,PL.settle,frz,frzAll,List.length_cons,List.length_nil,Nat.zero_add,Nat.reduceAdd,Nat.reduceLT,List.set_cons_succ,List.set_cons_zero,ao,af,ap,Option.map_some,cF,bz,iD,cj,aw,bi,Nat.reduceLeDiff,bq,aK,bI,a_,cP,ba,Cm.i,Cm.s,hU,cJ,eT,bn,ax,e1,Int.reduceLT,decide_true,hv,e2,hu,em,aQ,hd',Ex,l1,es,slen,l2,EZ,l3,l0,l4,Int.reduceEq,decide_false]
theorem GM(h4:v=5)(hd:0 < deep)(lA:A.length≤100000)(lB:B.length≤100000)(es:self [.int cell,.int (deep - 1),.int (at'+3)]=some (.sh (.str A)))(et:self [.int cell,.int (deep - 1),.int (at'+5)]=some (.sh (.str B))):a7 self [.sh (.int cell),.sh (.int deep),.sh (.int K),.sh (.str W),.sh (.int j),x5,x6,x7,x8]=some ([.sh (.int cell),.sh (.int deep),.sh (.int K),.sh (.str (W++Str.ofString "["++A++Str.ofString ","++B++Str.ofString "]")),.sh (.int j),.sh (.int at'),.sh (.int v),.sh (.str Mk),.sh (.str A)],.nx):=by
 subst h4
 have m1:dA 11 K=true:=gG (by decide) (by decide)
 have m2:dA 7 j=true:=gG (by decide) (by decide)
 have hd':=eq_true hd
 have l1:(W.length+1≤1000000)=True:=eq_true (by omega)
 have l2:(W.length+1+A.length≤1000000)=True:=eq_true (by omega)
 have l3:(W.length+1+A.length+1≤1000000)=True:=eq_true (by omega)
 have l4:(W.length+1+A.length+1+B.length≤1000000)=True:=eq_true (by omega)
 have l5:(W.length+1+A.length+1+B.length+1≤1000000)=True:=eq_true (by omega)
 simp only[a7,ay,aD,ag,pC,Sl.isBr,Bool.false_and,Bool.false_eq_true,ad,dX,look,Sl.val,Int.reduceNeg,hot,aV,if_false,Option.bind_some,List.getElem?_cons_succ,List.getElem?_cons_zero,Bool.not_false,Bool.true_or,Bool.and_true,m1,if_true,aE,m2,ea,PL.settle,frz,frzAll,List.length_cons,List.length_nil,Nat.zero_add,Nat.reduceAdd,Nat.reduceLT,List.set_cons_succ,List.set_cons_zero,ao,af,ap,Option.map_some,cF,bz,iD,cj,aw,bi,Nat.reduceLeDiff,bq,aK,bI,a_,cP,ba,Cm.i,Cm.s,hU,cJ,eT,bn,ax,e1,Int.reduceLT,decide_true,hv,e2,hu,em,aQ,Int.reduceEq,decide_false,hd',es,Ey,l1,slen,l2,Gw,l3,et,l4,E7,l5]
theorem GN (h4:(v=4)=False∨(0 < deep)=False) (h5:(v=5)=False∨(0 < deep)=False) (e3:bF [.int cell,.int (at'+2)]=some (.sh (.int z3))) (c:Nat) (hc:atI (Str.ofString "abcdefghijklmnopqrstuvwxyz").cps.toList (z3 % 26)=some c):a7 self [.sh (.int cell),.sh (.int deep),.sh (.int K),.sh (.str W),.sh (.int j),x5,x6,x7,x8]=some ([.sh (.int cell),.sh (.int deep),.sh (.int K),.sh (.str (W++⟨#[c]⟩++Mk)),.sh (.int j),.sh (.int at'),.sh (.int v),.sh (.str Mk),x8],.nx):=by
 have m1:dA 11 K=true:=gG (by decide) (by decide)
 have m2:dA 7 j=true:=gG (by decide) (by decide)
 have lc:(⟨#[c]⟩:Str).length=1:=rfl
 have l1:(W.length+1≤1000000)=True:=eq_true (by omega)
 have l2:(W.length+1+Mk.length≤1000000)=True:=eq_true (by omega)
 have la:((Str.ofString "abcdefghijklmnopqrstuvwxyz").length≤1000000)=True:=eq_true (by decide+kernel)
 rcases h4 with h4 |h4
 ·rcases h5 with h5 |h5
  ·simp only[a7,ay,aD,ag,pC,Sl.isBr,Bool.false_and,Bool.false_eq_true,ad,dX,look,Sl.val,Int.reduceNeg,hot,aV,if_false,Option.bind_some,List.getElem?_cons_succ,List.getElem?_cons_zero,Bool.not_false,Bool.true_or,Bool.and_true,m1,if_true,aE,m2,ea,PL.settle,frz,frzAll,List.length_cons,List.length_nil,Nat.zero_add,Nat.reduceAdd,Nat.reduceLT,List.set_cons_succ,List.set_cons_zero,ao,af,ap,Option.map_some,cF,bz,iD,cj,aw,bi,Nat.reduceLeDiff,bq,aK,bI,a_,cP,ba,Cm.i,Cm.s,hU,cJ,eT,bn,la,ax,e1,Int.reduceLT,decide_true,hv,e2,hu,em,aQ,h4,decide_false,h5,e3,hc,lc,l1,slen,l2]
  ·by_cases q:v=5
   ·subst q
    simp only[a7,ay,aD,ag,pC,Sl.isBr,Bool.false_and,Bool.false_eq_true,ad,dX,look,Sl.val,Int.reduceNeg,hot,aV,if_false,Option.bind_some,List.getElem?_cons_succ,List.getElem?_cons_zero,Bool.not_false,Bool.true_or,Bool.and_true,m1,if_true,aE,m2,ea,PL.settle,frz,frzAll,List.length_cons,List.length_nil,Nat.zero_add,Nat.reduceAdd,Nat.reduceLT,List.set_cons_succ,List.set_cons_zero,ao,af,ap,Option.map_some,cF,bz,iD,cj,aw,bi,Nat.reduceLeDiff,bq,aK,bI,a_,cP,ba,Cm.i,Cm.s,hU,cJ,eT,bn,la,ax,e1,Int.reduceLT,decide_true,hv,e2,hu,em,aQ,Int.reduceEq,decide_false,h5,e3,hc,lc,l1,slen,l2]
   ·have q:=eq_false q
    simp only[a7,ay,aD,ag,pC,Sl.isBr,Bool.false_and,Bool.false_eq_true,ad,dX,look,Sl.val,Int.reduceNeg,hot,aV,if_false,Option.bind_some,List.getElem?_cons_succ,List.getElem?_cons_zero,Bool.not_false,Bool.true_or,Bool.and_true,m1,if_true,aE,m2,ea,PL.settle,frz,frzAll,List.length_cons,List.length_nil,Nat.zero_add,Nat.reduceAdd,Nat.reduceLT,List.set_cons_succ,List.set_cons_zero,ao,af,ap,Option.map_some,cF,bz,iD,cj,aw,bi,Nat.reduceLeDiff,bq,aK,bI,a_,cP,ba,Cm.i,Cm.s,hU,cJ,eT,bn,la,ax,e1,Int.reduceLT,decide_true,hv,e2,hu,em,aQ,h4,decide_false,q,e3,hc,lc,l1,slen,l2]
 ·by_cases p:v=4
  ·subst p
   simp only[a7,ay,aD,ag,pC,Sl.isBr,Bool.false_and,Bool.false_eq_true,ad,dX,look,Sl.val,Int.reduceNeg,hot,aV,if_false,Option.bind_some,List.getElem?_cons_succ,List.getElem?_cons_zero,Bool.not_false,Bool.true_or,Bool.and_true,m1,if_true,aE,m2,ea,PL.settle,frz,frzAll,List.length_cons,List.length_nil,Nat.zero_add,Nat.reduceAdd,Nat.reduceLT,List.set_cons_succ,List.set_cons_zero,ao,af,ap,Option.map_some,cF,bz,iD,cj,aw,bi,Nat.reduceLeDiff,bq,aK,bI,a_,cP,ba,Cm.i,Cm.s,hU,cJ,eT,bn,la,ax,e1,Int.reduceLT,decide_true,hv,e2,hu,em,aQ,h4,decide_false,Int.reduceEq,e3,hc,lc,l1,slen,l2]
  ·have p:=eq_false p
   by_cases q:v=5
   ·subst q
    simp only[a7,ay,aD,ag,pC,Sl.isBr,Bool.false_and,Bool.false_eq_true,ad,dX,look,Sl.val,Int.reduceNeg,hot,aV,if_false,Option.bind_some,List.getElem?_cons_succ,List.getElem?_cons_zero,Bool.not_false,Bool.true_or,Bool.and_true,m1,if_true,aE,m2,ea,PL.settle,frz,frzAll,List.length_cons,List.length_nil,Nat.zero_add,Nat.reduceAdd,Nat.reduceLT,List.set_cons_succ,List.set_cons_zero,ao,af,ap,Option.map_some,cF,bz,iD,cj,aw,bi,Nat.reduceLeDiff,bq,aK,bI,a_,cP,ba,Cm.i,Cm.s,hU,cJ,eT,bn,la,ax,e1,Int.reduceLT,decide_true,hv,e2,hu,em,aQ,Int.reduceEq,decide_false,h4,e3,hc,lc,l1,slen,l2]
   ·have q:=eq_false q
    simp only[a7,ay,aD,ag,pC,Sl.isBr,Bool.false_and,Bool.false_eq_true,ad,dX,look,Sl.val,Int.reduceNeg,hot,aV,if_false,Option.bind_some,List.getElem?_cons_succ,List.getElem?_cons_zero,Bool.not_false,Bool.true_or,Bool.and_true,m1,if_true,aE,m2,ea,PL.settle,frz,frzAll,List.length_cons,List.length_nil,Nat.zero_add,Nat.reduceAdd,Nat.reduceLT,List.set_cons_succ,List.set_cons_zero,ao,af,ap,Option.map_some,cF,bz,iD,cj,aw,bi,Nat.reduceLeDiff,bq,aK,bI,a_,cP,ba,Cm.i,Cm.s,hU,cJ,eT,bn,la,ax,e1,Int.reduceLT,decide_true,hv,e2,hu,em,aQ,p,decide_false,q,e3,hc,lc,l1,slen,l2]
end
theorem CW(self:List PyData→Option Sl)(cell:Int)(deep K j:Nat)(LB:Nat)(hl:LB≤10000)(W:Str)(x5 x6 x7 x8:Sl)(hK:11*K+7*j+6≤100000)(lW:W.length≤90000)
  (hs:0 < deep→∀i:Nat,i≤11*K+7*j+6→∃A:Str,self [.int cell,.int ((deep:Int) - 1),.int i]=some (.sh (.str A))∧A.length≤LB):
  ∃W' x5' x6' x7' x8',a7 self [.sh (.int cell),.sh (.int deep),.sh (.int K),.sh (.str W),.sh (.int j),x5,x6,x7,x8]=some ([.sh (.int cell),.sh (.int deep),.sh (.int K),.sh (.str W'),.sh (.int j),x5',x6',x7',x8'],.nx)∧W'.length≤W.length+(2*LB+6):=by
 obtain⟨z1,e1⟩:=ik cell (11*K+7*j+1) (by omega)
 obtain⟨z2,e2⟩:=ik cell (11*K+7*j+1+1) (by omega)
 obtain⟨z3,e3⟩:=ik cell (11*K+7*j+1+2) (by omega)
 obtain⟨v,hv,v0,v1⟩:=qr z1 6 (by decide)
 obtain⟨u,hu,u0,u1⟩:=qr z2 6 (by decide)
 obtain⟨Mk,em,lM,lS⟩:=Aw u u0 u1
 obtain⟨c,hc⟩:=AZ (z3 % 26) (Int.emod_nonneg _ (by decide)) (Int.emod_lt_of_pos _ (by decide))
 have ea:11*(K:Int)+7*(j:Int)+1=((11*K+7*j+1:Nat):Int):=by omega
 generalize hat:11*K+7*j+1=a at *
 have lc:(⟨#[c]⟩:Str).length=1:=rfl
 have ux:((v=4)=False∨((0:Int) < deep)=False)→((v=5)=False∨((0:Int) < deep)=False)→_:=fun h4 h5=>GN self cell deep K j a v z1 z2 z3 u W Mk x5 x6 x7 x8 ea e1 e2 hv hu em lM lS (by omega) h4 h5 e3 c hc
 by_cases hd:0 < deep
 ·by_cases h4:v=4
  ·obtain⟨A,es,lA⟩:=hs hd (a+2) (by omega)
   refine⟨_,_,_,_,_,GL self cell deep K j a v z1 z2 u W A Mk x5 x6 x7 x8 ea e1 e2 hv hu em lM lS (by omega) h4 (by omega) (by omega) es,?_⟩
   simp only[slen,Ex,EZ]
   omega
  ·by_cases h5:v=5
   ·obtain⟨A,es,lA⟩:=hs hd (a+3) (by omega)
    obtain⟨B,et,lB⟩:=hs hd (a+5) (by omega)
    refine⟨_,_,_,_,_,GM self cell deep K j a v z1 z2 u W A B Mk x5 x6 x7 x8 ea e1 e2 hv hu em lM lS (by omega) h5 (by omega) (by omega) (by omega) es et,?_⟩
    simp only[slen,Ey,Gw,E7]
    omega
   ·refine⟨_,_,_,_,_,ux (.inl (eq_false h4)) (.inl (eq_false h5)),?_⟩
    simp only[slen,lc]
    omega
 ·have hd':((0:Int) < deep)=False:=eq_false (by omega)
  refine⟨_,_,_,_,_,ux (.inr hd') (.inr hd'),?_⟩
  simp only[slen,lc]
  omega
theorem yw(self:List PyData→Option Sl)(cell:Int)(deep K:Nat)(LB:Nat)(hl:LB≤4000)(J:Nat)(hK:11*K+7*J+6≤100000)
  (hs:0 < deep→∀i:Nat,i≤11*K+7*J+6→∃A:Str,self [.int cell,.int ((deep:Int) - 1),.int i]=some (.sh (.str A))∧A.length≤LB):
  ∀(n j:Nat) (W:Str) (x4 x5 x6 x7 x8:Sl),j+n≤J+1→n≤10→W.length+n*(2*LB+6)≤90000→∃W' x4' x5' x6' x7' x8',dL eG (a7 self) (kZ j n) [.sh (.int cell),.sh (.int deep),.sh (.int K),.sh (.str W),x4,x5,x6,x7,x8]=some ([.sh (.int cell),.sh (.int deep),.sh (.int K),.sh (.str W'),x4',x5',x6',x7',x8'],.nx)∧W'.length≤W.length+n*(2*LB+6)
 | 0,j,W,x4,x5,x6,x7,x8,_,_,_=>⟨W,x4,x5,x6,x7,x8,by rw[o9];rfl,by omega⟩
 |n+1,j,W,x4,x5,x6,x7,x8,hj,hn,hW=>by
  rw[Nat.succ_mul]at hW
  obtain⟨W1,y5,y6,y7,y8,e,l⟩:=CW self cell deep K j LB (by omega) W x5 x6 x7 x8 (by omega) (by omega) fun hd i hi=>hs hd i (by omega)
  obtain⟨W2,u4,u5,u6,u7,u8,e',l'⟩:=yw self cell deep K LB hl J hK hs n (j+1) W1 (.sh (.int j)) y5 y6 y7 y8 (by omega) (by omega) (by omega)
  refine⟨W2,u4,u5,u6,u7,u8,?_,by rw[Nat.succ_mul];omega⟩
  have st:eG (.int j) [.sh (.int cell),.sh (.int deep),.sh (.int K),.sh (.str W),x4,x5,x6,x7,x8]=some [.sh (.int cell),.sh (.int deep),.sh (.int K),.sh (.str W),.sh (.int j),x5,x6,x7,x8]:=rfl
  rw[j5,dL,st,Option.bind_some,e]
  rw[show((j:Int)+1)=((j+1:Nat):Int) by omega]
  exact e'
theorem Ez(self:List PyData→Option Sl)(cell deep K z m n:Int)(W:Str)(ez:bF [.int cell,.int K]=some (.sh (.int z)))(em:atI [PyData.int 9,.int 4,.int 3,.int 3] (3 - deep)=some (.int m))(mp:(0 < m)=True)(hv:z % m=n)(nb:(-1000000≤n∧n≤1000000)=True)
  (e:∃x4 x5 x6 x7 x8,dL eG (a7 self) (kZ 0 n.toNat) [.sh (.int cell),.sh (.int deep),.sh (.int K),.sh (.str (Str.ofString "")),.no,.no,.no,.no,.no]=some ([.sh (.int cell),.sh (.int deep),.sh (.int K),.sh (.str W),x4,x5,x6,x7,x8],.nx)):bP 3 9 (eI self) [.int cell,.int deep,.int K]=some (.sh (.str W)):=by
 obtain⟨x4,x5,x6,x7,x8,e⟩:=e
 simp only[bP,List.length_cons,List.length_nil,Nat.zero_add,Nat.reduceAdd,bC,eI,ay,aD,pC,av,List.map_cons,List.map_nil,Nat.reduceSub,List.replicate,List.cons_append,List.nil_append,PL.settle,frz,frzAll,Option.bind_some,Nat.reduceLT,List.set_cons_succ,List.set_cons_zero,if_true,kd,jD,af,ag,ao,ad,Sl.isBr,Bool.false_and,Bool.false_eq_true,ap,Option.map_some,if_false,cj,aw,bi,Nat.reduceLeDiff,hU,bz,look,Sl.val,iD,bq,hot,aV,cF,Int.reduceNeg,aF,List.getElem?_cons_zero,List.getElem?_cons_succ,ax,ez,em,mp,decide_true,hv,nb,e,bt,aR,aJ]
theorem uK(self:List PyData→Option Sl)(cell:Int)(deep K:Nat)(m:Nat)(LB:Nat)(hl:LB≤4000)(hm:2≤m∧m≤9)(em:atI [PyData.int 9,.int 4,.int 3,.int 3] (3 - (deep:Int))=some (.int m))(hK:11*K+7*(m - 2)+6≤100000)
  (hs:0 < deep→∀i:Nat,i≤11*K+7*(m - 2)+6→∃A:Str,self [.int cell,.int ((deep:Int) - 1),.int i]=some (.sh (.str A))∧A.length≤LB):
  ∃W:Str,bP 3 9 (eI self) [.int cell,.int deep,.int K]=some (.sh (.str W))∧W.length≤(m - 1)*(2*LB+6):=by
 obtain⟨z,ez⟩:=ik cell K (by omega)
 obtain⟨v,hv,v0,v1⟩:=qr z m (by omega)
 obtain⟨n,rfl⟩:=Int.eq_ofNat_of_zero_le v0
 have b:(m - 1)*(2*LB+6)≤8*(2*4000+6):=Nat.mul_le_mul (by omega) (by omega)
 have c:n*(2*LB+6)≤(m - 1)*(2*LB+6):=Nat.mul_le_mul_right _ (by omega)
 obtain⟨W,x4,x5,x6,x7,x8,e,l⟩:=yw self cell deep K LB hl (m - 2) hK hs n 0 (Str.ofString "") .no .no .no .no .no (by omega) (by omega) (by rw[Gx];omega)
 rw[Gx]at l
 refine⟨W,?_,by omega⟩
 refine Ez self cell deep K z m n W ez em (eq_true (by omega)) hv (eq_true (by omega)) ⟨x4,x5,x6,x7,x8,?_⟩
 rw[Int.natCast_zero]at e
 rw[Int.toNat_natCast]
 exact e
theorem Ax(cell:Int)(K:Nat)(hK:K≤9066):∃W:Str,bU 1 [.int cell,.int (0:Nat),.int K]=some (.sh (.str W))∧W.length≤12:=
 uK (bU 0) cell 0 K 3 0 (by decide) (by decide) rfl (by omega) fun h=>absurd h (by decide)
theorem Ay(cell:Int)(K:Nat)(hK:K≤823):∃W:Str,bU 2 [.int cell,.int (1:Nat),.int K]=some (.sh (.str W))∧W.length≤60:=
 uK (bU 1) cell 1 K 3 12 (by decide) (by decide) rfl (by omega) fun _ i hi=>Ax cell i (by omega)
theorem Az(cell:Int)(K:Nat)(hK:K≤73):∃W:Str,bU 3 [.int cell,.int (2:Nat),.int K]=some (.sh (.str W))∧W.length≤378:=
 uK (bU 2) cell 2 K 4 60 (by decide) (by decide) rfl (by omega) fun _ i hi=>Ay cell i (by omega)
theorem yx(cell:Int):∃W:Str,fN [.int cell,.int 3,.int 1]=some (.sh (.str W))∧W.length≤6096:=
 uK (bU 3) cell 3 1 9 378 (by decide) (by decide) rfl (by omega) fun _ i hi=>Az cell i (by omega)
theorem EA:(Str.ofString ",]").length=2:=by decide+kernel
theorem CY:(Str.ofString "[,").length=2:=by decide+kernel
theorem EB:(Str.ofString "()0").length=3:=by decide+kernel
section
variable (W:Str) (x1:Sl) (cell k z:Int) (lW:W.length≤90000) (ez:bF [.int cell,.int k]=some (.sh (.int z)))
include lW ez
theorem EC(h:z % 2=0):cq [.sh (.str W),x1,.sh (.int cell),.sh (.int k)]=some ([.sh (.str (Str.ofString "("++W++Str.ofString ")")),x1,.sh (.int cell),.sh (.int k)],.nx):=by
 have l1:((Str.ofString "(").length+W.length≤1000000)=True:=eq_true (by rw[Ex];omega)
 have l2:((Str.ofString "("++W).length+(Str.ofString ")").length≤1000000)=True:=eq_true (by rw[slen,Ex,EZ];omega)
 simp only[cq,aK,a_,ag,ao,af,ad,List.getElem?_cons_succ,List.getElem?_cons_zero,Sl.isBr,Bool.false_and,Bool.false_eq_true,ap,Option.map_some,if_false,Option.bind_some,ax,look,Sl.val,ez,pC,cF,bz,iD,Int.reduceLT,decide_true,h,if_true,cP,aQ,aD,aE,hot,aV,Bool.not_false,Bool.true_or,Bool.and_true,PL.settle,frz,frzAll,cj,aw,bi,gq,bq,l1,l2,List.length_cons,List.length_nil,Nat.zero_add,Nat.reduceAdd,Nat.reduceLT,List.set_cons_zero]
theorem ED (h':(z % 2=0)=False) (v:Int) (hv:z / 2 % 2=v) (X:Str) (hX:atI [PyData.str (Str.ofString "["++W++Str.ofString ",]"),.str (Str.ofString "[,"++W++Str.ofString "]")] v=some (.str X)) (lX:X.length=W.length+3) (dd:kX 2=true):cq [.sh (.str W),x1,.sh (.int cell),.sh (.int k)]=some ([.sh (.str (X++Str.ofString "()0")),x1,.sh (.int cell),.sh (.int k)],.nx):=by
 have l1:((Str.ofString "[").length+W.length≤1000000)=True:=eq_true (by rw[Ey];omega)
 have l3:((Str.ofString "["++W).length+(Str.ofString ",]").length≤1000000)=True:=eq_true (by rw[slen,Ey,EA];omega)
 have l4:((Str.ofString "[,").length+W.length≤1000000)=True:=eq_true (by rw[CY];omega)
 have l5:((Str.ofString "[,"++W).length+(Str.ofString "]").length≤1000000)=True:=eq_true (by rw[slen,CY,E7];omega)
 have l6:(X.length+(Str.ofString "()0").length≤1000000)=True:=eq_true (by rw[lX,EB];omega)
 simp only[cq,aK,a_,ag,ao,af,ad,List.getElem?_cons_succ,List.getElem?_cons_zero,Sl.isBr,Bool.false_and,Bool.false_eq_true,ap,Option.map_some,if_false,Option.bind_some,ax,look,Sl.val,ez,pC,cF,bz,iD,Int.reduceLT,decide_true,if_true,cP,aQ,h',decide_false,aD,aE,hot,aV,Bool.not_false,Bool.true_or,Bool.and_true,PL.settle,frz,frzAll,cj,aw,bi,gq,bq,l1,l3,l4,l5,List.length_cons,List.length_nil,Nat.zero_add,Nat.reduceAdd,Nat.reduceLeDiff,dd,hv,hX,l6,Nat.reduceLT,List.set_cons_zero]
end
theorem AA(W:Str)(x1:Sl)(cell:Int)(k:Nat)(hk:k≤1000)(lW:W.length≤90000):∃W':Str,cq [.sh (.str W),x1,.sh (.int cell),.sh (.int k)]=some ([.sh (.str W'),x1,.sh (.int cell),.sh (.int k)],.nx)∧W'.length≤W.length+6:=by
 obtain⟨z,ez⟩:=ik cell k (by omega)
 by_cases h:z % 2=0
 ·exact⟨_,EC W x1 cell k z lW ez h,by rw[slen,slen,Ex,EZ];omega⟩
 ·have dd:kX 2=true:=by decide
  obtain⟨v,hv,v0,v1⟩:=qr (z / 2) 2 (by decide)
  obtain⟨X,hX,lX⟩:∃X,atI [PyData.str (Str.ofString "["++W++Str.ofString ",]"),.str (Str.ofString "[,"++W++Str.ofString "]")] v=some (.str X)∧X.length=W.length+3:=by
   rcases(show v=0∨v=1 by omega)with q |q <;> subst q
   ·exact⟨_,eQ _ _,by rw[slen,slen,Ey,EA];omega⟩
   ·exact⟨_,cN _ _ _,by rw[slen,slen,E7,CY];omega⟩
  exact⟨_,ED W x1 cell k z lW ez (eq_false h) v hv X hX lX dd,by rw[slen,lX,EB];omega⟩
theorem uL(x1:Sl)(cell:Int):∀(n k:Nat) (W:Str) (x3:Sl),k+n≤100→W.length+6*n≤90000→∃(W':Str) (x3':Sl),dL fb cq (kZ k n) [.sh (.str W),x1,.sh (.int cell),x3]=some ([.sh (.str W'),x1,.sh (.int cell),x3'],.nx)∧W'.length≤W.length+6*n
 | 0,k,W,x3,_,_=>⟨W,x3,by rw[o9];rfl,by omega⟩
 |n+1,k,W,x3,hk,hW=>by
  obtain⟨W1,e,l⟩:=AA W x1 cell k (by omega) (by omega)
  obtain⟨W2,y,e',l'⟩:=uL x1 cell n (k+1) W1 (.sh (.int k)) (by omega) (by omega)
  refine⟨W2,y,?_,by omega⟩
  have st:fb (.int k) [.sh (.str W),x1,.sh (.int cell),x3]=some [.sh (.str W),x1,.sh (.int cell),.sh (.int k)]:=rfl
  rw[j5,dL,st,Option.bind_some,e]
  rw[show((k:Int)+1)=((k+1:Nat):Int) by omega]
  exact e'
theorem vQ(W:Str)(n:Nat)(cell:Int)(hn:n≤50)(lW:W.length≤80000):∃W':Str,cR [.str W,.int n,.int cell]=some (.sh (.str W'))∧W'.length≤W.length+6*n:=by
 obtain⟨W',x3,e,l⟩:=uL (.sh (.int n)) cell n 0 W .no (by omega) (by omega)
 refine⟨W',?_,l⟩
 have nb:(-1000000≤(n:Int)∧(n:Int)≤1000000)=True:=eq_true (by omega)
 have tn:(n:Int).toNat=n:=by omega
 rw[Int.natCast_zero]at e
 simp only[cR,bP,List.length_cons,List.length_nil,Nat.zero_add,Nat.reduceAdd,bC,gL,ay,kd,jD,af,ad,av,List.map_cons,List.map_nil,Nat.reduceSub,List.replicate,List.cons_append,List.nil_append,List.getElem?_cons_succ,List.getElem?_cons_zero,Sl.isBr,Bool.false_and,Bool.false_eq_true,ap,Option.map_some,if_false,Option.bind_some,Int.reduceNeg,ax,look,Sl.val,nb,tn,if_true,e,aF,bt,aR,aJ]
theorem EE(v:Int)(h0:0≤v)(h1:v < 19):∃c,atI (Str.ofString "abz(),[]-0123456789").cps.toList v=some c:=by
 have l:(Str.ofString "abz(),[]-0123456789").cps.toList.length=19:=by decide+kernel
 obtain⟨n,rfl⟩:=Int.eq_ofNat_of_zero_le h0
 refine⟨_,(aW _ n).trans (List.getElem?_eq_getElem (by omega))⟩
theorem EF(S:Str)(N:Nat)(l:S.length=N)(v:Int)(h0:0≤v)(h1:v < N):∃c,atI S.cps.toList v=some c:=by
 have l:S.cps.toList.length=N:=by rw[←l];simp[Str.length]
 obtain⟨n,rfl⟩:=Int.eq_ofNat_of_zero_le h0
 refine⟨_,(aW _ n).trans (List.getElem?_eq_getElem (by omega))⟩
theorem CZ(cell:Int):∃c:Nat,b7 [.int cell]=some (.sh (.str ⟨#[c]⟩)):=by
 have dd:kX 2=true:=by decide
 by_cases h:cell % 2=0
 ·obtain⟨v,hv,v0,v1⟩:=qr (cell / 2) 19 (by decide)
  obtain⟨c,hc⟩:=EE v v0 v1
  refine⟨c,?_⟩
  have l1:((Str.ofString "abz(),[]-0123456789").length≤1000000)=True:=eq_true (by decide+kernel)
  simp only[b7,bP,List.length_cons,List.length_nil,Nat.zero_add,bC,eJ,ay,aK,a_,ag,ad,av,List.map_cons,List.map_nil,Nat.reduceSub,List.replicate,List.cons_append,List.nil_append,List.getElem?_cons_zero,Sl.isBr,Bool.false_and,Bool.false_eq_true,pC,cF,bz,look,Sl.val,iD,Option.bind_some,if_false,Int.reduceLT,decide_true,h,if_true,Option.map_some,cP,aQ,aF,gq,bq,hot,aV,l1,aB,dd,hv,hc,aD,PL.settle,frz,frzAll,aE,Bool.not_false,Bool.true_or,Bool.and_true,bJ,af,ap,cG,bt,aR,aJ]
 ·have h':=eq_false h
  obtain⟨S,hS⟩:∃S:Str,Str.ofString "ABCDEFGHIJKLMNOPQRSTUVWXYZ cdefghijklmnopqrstuvwxy"++Str.ofString "!\"#$&'*+./:;<=>?@\\^_`{|}~\n\t"=S:=⟨_,rfl⟩
  have l0:((Str.ofString "ABCDEFGHIJKLMNOPQRSTUVWXYZ cdefghijklmnopqrstuvwxy").length+(Str.ofString "!\"#$&'*+./:;<=>?@\\^_`{|}~\n\t").length≤1000000)=True:=eq_true (by decide+kernel)
  obtain⟨N,hN,n0,n1⟩:∃N:Nat,S.length=N∧0 < N∧N≤1000:=⟨_,rfl,by rw[←hS];decide+kernel,by rw[←hS];decide+kernel⟩
  obtain⟨v,hv,v0,v1⟩:=qr (cell / 2) N (by omega)
  obtain⟨c,hc⟩:=EF S N hN v v0 v1
  refine⟨c,?_⟩
  have l1:(N≤1000000)=True:=eq_true (by omega)
  have np:(0 < (N:Int))=True:=eq_true (by omega)
  simp only[b7,bP,List.length_cons,List.length_nil,Nat.zero_add,bC,eJ,ay,aK,a_,ag,ad,av,List.map_cons,List.map_nil,Nat.reduceSub,List.replicate,List.cons_append,List.nil_append,List.getElem?_cons_zero,Sl.isBr,Bool.false_and,Bool.false_eq_true,pC,cF,bz,look,Sl.val,iD,Option.bind_some,if_false,Int.reduceLT,decide_true,if_true,Option.map_some,cP,aQ,h',decide_false,aF,gq,bq,hot,aV,aB,dd,aD,PL.settle,frz,frzAll,aE,Bool.not_false,Bool.true_or,Bool.and_true,bJ,af,ap,cG,Nat.reduceAdd,Nat.reduceLT,List.set_cons_succ,List.set_cons_zero,List.getElem?_cons_succ,l0,hS,ax,hN,l1,np,hv,hc,bt,aR,aJ]
theorem AB:∀n:Nat,n < 24→∃S:Str,atI [PyData.str (Str.ofString "1"),.str (Str.ofString "-"),.str (Str.ofString "a-"),.str (Str.ofString "a--1"),.str (Str.ofString "a-0"),.str (Str.ofString "a00"),.str (Str.ofString "a01"),.str (Str.ofString "a+1"),.str (Str.ofString "a 1"),.str (Str.ofString " a"),.str (Str.ofString "a "),.str (Str.ofString "("),.str (Str.ofString ")"),.str (Str.ofString "()"),.str (Str.ofString "[,]"),.str (Str.ofString "[]"),.str (Str.ofString "(a]"),.str (Str.ofString "[a)"),.str (Str.ofString "[a,b,c]"),.str (Str.ofString "[a]"),.str (Str.ofString "a,b"),.str (Str.ofString "(a)-"),.str (Str.ofString "a"++Txt.mul (Str.ofString "1") 31),.str (Str.ofString "A")] (n:Int)=some (.str S)∧S.length≤40:=by
 intro n hn
 rw[aW]
 match n,hn with
 | 0,_ | 1,_ | 2,_ | 3,_ | 4,_ | 5,_ | 6,_ | 7,_ | 8,_ | 9,_ | 10,_ | 11,_ | 12,_ | 13,_ | 14,_ | 15,_ | 16,_ | 17,_ | 18,_ | 19,_ | 20,_ | 21,_ | 22,_ | 23,_=>exact⟨_,rfl,by decide+kernel⟩
 |n+24,h=>exact absurd h (by omega)
theorem C3(cell:Int):∃S:Str,fm [.int cell]=some (.sh (.str S))∧S.length≤40:=by
 obtain⟨v,hv,v0,v1⟩:=qr cell 24 (by decide)
 obtain⟨S,hS,lS⟩:=AB v.toNat (by omega)
 rw[show((v.toNat:Nat):Int)=v by omega]at hS
 refine⟨S,?_,lS⟩
 have l1:((Str.ofString "1").length≤1000)=True:=eq_true (by decide+kernel)
 have l2:((Str.ofString "a").length+(Txt.mul (Str.ofString "1") 31).length≤1000000)=True:=eq_true (by decide+kernel)
 simp only[fm,bP,List.length_cons,List.length_nil,Nat.zero_add,bC,j7,ay,aD,cj,aw,pC,av,List.map_cons,List.map_nil,Nat.reduceSub,List.replicate,List.cons_append,List.nil_append,frz,bi,Option.map_some,Option.bind_some,Nat.reduceAdd,Nat.reduceLeDiff,if_true,PL.settle,frzAll,Nat.reduceLT,List.set_cons_succ,List.set_cons_zero,ag,ad,Sl.isBr,Bool.false_and,Bool.false_eq_true,xc,bz,look,Sl.val,ug,Int.reduceNeg,if_false,l1,Int.reduceLE,and_self,aE,hot,aV,Bool.not_false,Bool.true_or,Bool.and_true,l2,aF,cF,iD,bq,List.getElem?_cons_succ,List.getElem?_cons_zero,Option.any_some,decide_true,Int.reduceLT,hv,hS,bt,aR,aJ]
theorem yy(W:Str)(i:Int)(h0:0≤i)(h1:i≤W.length):(Txt.slice W none (some i)).length≤W.length:=by
 have l:W.cps.toList.length=W.length:=by simp[Str.length]
 show(PySem.StrLaws.sliceText W none (some i)).length≤_
 rw[PySem.StrLaws.sliceText_to ⟨h0,by rw[l];exact h1⟩,aI,List.length_take,List.length_drop,l]
 omega
theorem yz(W:Str)(i:Int)(h0:0≤i)(h1:i≤W.length+1):(Txt.slice W (some i) none).length≤W.length:=by
 have l:W.cps.toList.length=W.length:=by simp[Str.length]
 have main:∀i:Int,0≤i→i≤W.length→(Txt.slice W (some i) none).length≤W.length:=fun i h0 h1=>by
  show(PySem.StrLaws.sliceText W (some i) none).length≤_
  rw[PySem.StrLaws.sliceText_from ⟨h0,by rw[l];exact h1⟩,aI,List.length_take,List.length_drop,l]
  omega
 by_cases q:i≤W.length
 ·exact main i h0 q
 ·have e:Builtin.Str.strSliceIndices (some i) none 1 W.length=Builtin.Str.strSliceIndices (some (W.length:Int)) none 1 W.length:=by
   have a:¬(i < 0):=by omega
   have b:¬((W.length:Int) < 0):=by omega
   have c:min i (W.length:Int)=min (W.length:Int) (W.length:Int):=by omega
   simp[Builtin.Str.strSliceIndices,a,b,c]
  have:Txt.slice W (some i) none=Txt.slice W (some (W.length:Int)) none:=by
   show PySem.StrLaws.sliceText _ _ _=PySem.StrLaws.sliceText _ _ _
   unfold PySem.StrLaws.sliceText
   rw[e]
  rw[this]
  exact main _ (by omega) (by omega)
theorem EG:lZ [PyData.int 1,.int 2]=some [1,2]:=rfl
theorem E8:lZ [PyData.int 3,.int 4]=some [3,4]:=rfl
section
variable (W:Str) (way spot cell p:Int) (lW:W.length≤90000) (hp:spot % ((W.length:Int)+1)=p) (c:Nat) (ea:b7 [.int cell]=some (.sh (.str ⟨#[c]⟩)))
include lW hp
omit lW hp in
theorem Dc(c:Nat):(⟨#[c]⟩:Str).length=1:=rfl
theorem C4:0≤p∧p≤W.length:=by
 rw[←hp]
 have:=Int.emod_nonneg spot (show(W.length:Int)+1≠0 by omega)
 have:=Int.emod_lt_of_pos spot (show 0 < (W.length:Int)+1 by omega)
 omega
include ea
theorem EH(c1:([1,2]:List Int).contains way=true):∃S:Str,a8 [.str W,.int way,.int spot,.int cell]=some (.sh (.str S))∧S.length≤2*W.length+1:=by
 obtain⟨p0,p1⟩:=C4 W spot p lW hp
 have a:=yy W p p0 p1
 have b:=yz W p p0 (by omega)
 have l0:(W.length≤1000000)=True:=eq_true (by omega)
 have np:(0 < (W.length:Int)+1)=True:=eq_true (by omega)
 have l1:((Txt.slice W none (some p)).length+(⟨#[c]⟩:Str).length≤1000000)=True:=eq_true (by rw[Dc];omega)
 have l2:((Txt.slice W none (some p)++⟨#[c]⟩).length+(Txt.slice W (some p) none).length≤1000000)=True:=eq_true (by rw[slen,Dc];omega)
 refine⟨Txt.slice W none (some p)++⟨#[c]⟩++Txt.slice W (some p) none,?_,by rw[slen,slen,Dc];omega⟩
 simp only[a8,bP,List.length_cons,List.length_nil,Nat.zero_add,Nat.reduceAdd,bC,cS,ay,aD,ag,ad,av,List.map_cons,List.map_nil,Nat.reduceSub,List.replicate,List.cons_append,List.nil_append,List.getElem?_cons_succ,List.getElem?_cons_zero,Sl.isBr,Bool.false_and,Bool.false_eq_true,bJ,af,ap,Option.map_some,if_false,cG,pC,aE,look,Sl.val,hot,aV,Option.bind_some,Bool.not_false,Bool.true_or,Bool.and_true,cF,bz,iD,ax,l0,if_true,np,decide_true,hp,PL.settle,frz,frzAll,Nat.reduceLT,List.set_cons_succ,List.set_cons_zero,aK,a_,cj,aw,bi,Nat.reduceLeDiff,mq,pd,aF,cJ,eT,bn,ao,aB,cP,EG,c1,ea,l1,l2,bt,aR,aJ]
theorem EI(c1:([1,2]:List Int).contains way=false)(c2:([3,4]:List Int).contains way=true):∃S:Str,a8 [.str W,.int way,.int spot,.int cell]=some (.sh (.str S))∧S.length≤2*W.length+1:=by
 obtain⟨p0,p1⟩:=C4 W spot p lW hp
 have a:=yy W p p0 p1
 have b:=yz W (p+1) (by omega) (by omega)
 have l0:(W.length≤1000000)=True:=eq_true (by omega)
 have np:(0 < (W.length:Int)+1)=True:=eq_true (by omega)
 have l1:((Txt.slice W none (some p)).length+(⟨#[c]⟩:Str).length≤1000000)=True:=eq_true (by rw[Dc];omega)
 have l2:((Txt.slice W none (some p)++⟨#[c]⟩).length+(Txt.slice W (some (p+1)) none).length≤1000000)=True:=eq_true (by rw[slen,Dc];omega)
 refine⟨Txt.slice W none (some p)++⟨#[c]⟩++Txt.slice W (some (p+1)) none,?_,by rw[slen,slen,Dc];omega⟩
 simp only[a8,bP,List.length_cons,List.length_nil,Nat.zero_add,Nat.reduceAdd,bC,cS,ay,aD,ag,ad,av,List.map_cons,List.map_nil,Nat.reduceSub,List.replicate,List.cons_append,List.nil_append,List.getElem?_cons_succ,List.getElem?_cons_zero,Sl.isBr,Bool.false_and,Bool.false_eq_true,bJ,af,ap,Option.map_some,if_false,cG,pC,aE,look,Sl.val,hot,aV,Option.bind_some,Bool.not_false,Bool.true_or,Bool.and_true,cF,bz,iD,ax,l0,if_true,np,decide_true,hp,PL.settle,frz,frzAll,Nat.reduceLT,List.set_cons_succ,List.set_cons_zero,aK,a_,cj,aw,bi,Nat.reduceLeDiff,mq,pd,aF,cJ,eT,bn,ao,aB,cP,EG,c1,ea,l1,E8,c2,l2,bt,aR,aJ]
omit ea in
theorem F9(c1:([1,2]:List Int).contains way=false)(c2:([3,4]:List Int).contains way=false)(q:way=5):∃S:Str,a8 [.str W,.int way,.int spot,.int cell]=some (.sh (.str S))∧S.length≤2*W.length+1:=by
 obtain⟨p0,p1⟩:=C4 W spot p lW hp
 have a:=yy W p p0 p1
 have b:=yz W (p+1) (by omega) (by omega)
 have l0:(W.length≤1000000)=True:=eq_true (by omega)
 have np:(0 < (W.length:Int)+1)=True:=eq_true (by omega)
 have l2:((Txt.slice W none (some p)).length+(Txt.slice W (some (p+1)) none).length≤1000000)=True:=eq_true (by omega)
 have q:=eq_true q
 refine⟨Txt.slice W none (some p)++Txt.slice W (some (p+1)) none,?_,by rw[slen];omega⟩
 simp only[a8,bP,List.length_cons,List.length_nil,Nat.zero_add,Nat.reduceAdd,bC,cS,ay,aD,ag,ad,av,List.map_cons,List.map_nil,Nat.reduceSub,List.replicate,List.cons_append,List.nil_append,List.getElem?_cons_succ,List.getElem?_cons_zero,Sl.isBr,Bool.false_and,Bool.false_eq_true,bJ,af,ap,Option.map_some,if_false,cG,pC,aE,look,Sl.val,hot,aV,Option.bind_some,Bool.not_false,Bool.true_or,Bool.and_true,cF,bz,iD,ax,l0,if_true,np,decide_true,hp,PL.settle,frz,frzAll,Nat.reduceLT,List.set_cons_succ,List.set_cons_zero,aK,a_,cj,aw,bi,Nat.reduceLeDiff,mq,pd,aF,cJ,eT,bn,ao,aB,cP,EG,c1,E8,c2,aQ,q,l2,bt,aR,aJ]
omit ea in
theorem F_(S:Str)(eo:fm [.int cell]=some (.sh (.str S)))(c1:([1,2]:List Int).contains way=false)(c2:([3,4]:List Int).contains way=false)(q5:(way=5)=False)(q:way=6):a8 [.str W,.int way,.int spot,.int cell]=some (.sh (.str S)):=by
 have l0:(W.length≤1000000)=True:=eq_true (by omega)
 have np:(0 < (W.length:Int)+1)=True:=eq_true (by omega)
 have q:=eq_true q
 simp only[a8,bP,List.length_cons,List.length_nil,Nat.zero_add,Nat.reduceAdd,bC,cS,ay,aD,ag,ad,av,List.map_cons,List.map_nil,Nat.reduceSub,List.replicate,List.cons_append,List.nil_append,List.getElem?_cons_succ,List.getElem?_cons_zero,Sl.isBr,Bool.false_and,Bool.false_eq_true,bJ,af,ap,Option.map_some,if_false,cG,pC,aE,look,Sl.val,hot,aV,Option.bind_some,Bool.not_false,Bool.true_or,Bool.and_true,cF,bz,iD,ax,l0,if_true,np,decide_true,hp,PL.settle,frz,frzAll,Nat.reduceLT,List.set_cons_succ,List.set_cons_zero,aK,a_,cj,aw,bi,Nat.reduceLeDiff,mq,pd,aF,cJ,eT,bn,ao,aB,cP,EG,c1,E8,c2,aQ,q5,decide_false,q,eo,bt,aR,aJ]
omit ea in
theorem Ga(c1:([1,2]:List Int).contains way=false)(c2:([3,4]:List Int).contains way=false)(q5:(way=5)=False)(q:(way=6)=False):a8 [.str W,.int way,.int spot,.int cell]=some (.sh (.str W)):=by
 have l0:(W.length≤1000000)=True:=eq_true (by omega)
 have np:(0 < (W.length:Int)+1)=True:=eq_true (by omega)
 simp only[a8,bP,List.length_cons,List.length_nil,Nat.zero_add,Nat.reduceAdd,bC,cS,ay,aD,ag,ad,av,List.map_cons,List.map_nil,Nat.reduceSub,List.replicate,List.cons_append,List.nil_append,List.getElem?_cons_succ,List.getElem?_cons_zero,Sl.isBr,Bool.false_and,Bool.false_eq_true,bJ,af,ap,Option.map_some,if_false,cG,pC,aE,look,Sl.val,hot,aV,Option.bind_some,Bool.not_false,Bool.true_or,Bool.and_true,cF,bz,iD,ax,l0,if_true,np,decide_true,hp,PL.settle,frz,frzAll,Nat.reduceLT,List.set_cons_succ,List.set_cons_zero,aK,a_,cj,aw,bi,Nat.reduceLeDiff,mq,pd,aF,cJ,eT,bn,ao,aB,cP,EG,c1,E8,c2,aQ,q5,decide_false,q,bt,aR,aJ]
end
theorem tK(W:Str)(way spot cell:Int)(lW:W.length≤90000):∃S:Str,a8 [.str W,.int way,.int spot,.int cell]=some (.sh (.str S))∧S.length≤2*W.length+40:=by
 obtain⟨c,ea⟩:=CZ cell
 obtain⟨T,eo,lT⟩:=C3 cell
 cases c1:([1,2]:List Int).contains way with
 |true=>obtain⟨S,e,l⟩:=EH W way spot cell _ lW rfl c ea c1;exact⟨S,e,by omega⟩
 |false=>
  cases c2:([3,4]:List Int).contains way with
  |true=>obtain⟨S,e,l⟩:=EI W way spot cell _ lW rfl c ea c1 c2;exact⟨S,e,by omega⟩
  |false=>
   by_cases q5:way=5
   ·obtain⟨S,e,l⟩:=F9 W way spot cell _ lW rfl c1 c2 q5;exact⟨S,e,by omega⟩
   ·by_cases q6:way=6
    ·exact⟨T,F_ W way spot cell _ lW rfl T eo c1 c2 (eq_false q5) q6,by omega⟩
    ·exact⟨W,Ga W way spot cell _ lW rfl c1 c2 (eq_false q5) (eq_false q6),by omega⟩
theorem yA(S:Str)(h:S.length≤900000):bD [.str S]=some (.sh (.bool true)):=by
 have e:S=⟨S.cps.toList.toArray⟩:=by cases S;simp
 rw[e]
 exact Av _ (by simpa[Str.length]using h)
theorem iT (d:PyData) (h:d=.none∨d=.int 0∨d=.bool true∨(∃S:Str,d=.list [.str S])∨d=.tuple [.str (Str.ofString "a"),.int 1]∨d=.dict []):bX [d]=some (.sh .none):=by
 refine qp d ?_
 rcases h with rfl |rfl |rfl |⟨S,rfl⟩ |rfl |rfl <;> simp only[eO,jL,List.length_cons,List.length_nil,Nat.zero_add,kM,kE,nS,cA,cL,gE,ad,av,List.map_cons,List.map_nil,Nat.reduceSub,List.replicate,List.cons_append,List.nil_append,List.getElem?_cons_zero,look,Sl.val,ip,Ty.is,ud,Option.bind_some,Option.map_some,dY,Bool.not_false,jJ,if_true]
theorem mf{f g:cy}{E E1:List Sl}(h:f E=some (E1,.nx)):ay f g E=g E1:=by
 unfold ay
 rw[h]
 rfl
def Gb:cy:=(aD 1 (ao fN (af false (ao bw (af false (ad 0) (af false (pC (.int 0)) ap))) (af false (pC (.int 3)) (af false (pC (.int 1)) ap)))))
def EJ:cy:=(aK (a_ (ag cP false (ag cF false (ao bw (af false (ad 0) (af false (pC (.int 1)) ap))) (pC (.int 3))) (pC (.int 1))))
 (aD 1 (ao cR (af false (ad 1) (af false (ag aE false (pC (.int 26)) (ag cF false (ag gq false (ao bw (af false (ad 0) (af false (pC (.int 1)) ap))) (pC (.int 3))) (pC (.int 6)))) (af false (ag gq false (ao bw (af false (ad 0) (af false (pC (.int 1)) ap))) (pC (.int 18))) ap)))))
 aB)
def Gc:cy:=(aD 2 (ag cF false (ao bw (af false (ad 0) (af false (pC (.int 2)) ap))) (pC (.int 8))))
def Gd:cy:=(aD 3 (ao a8 (af false (ad 1) (af false (ad 2) (af false (ao bw (af false (ad 0) (af false (pC (.int 3)) ap))) (af false (ao bw (af false (ad 0) (af false (pC (.int 4)) ap))) ap))))))
def Ge:cy:=(kd (jD (af false (pC (.int 2)) ap)) ie
 ig)
def yB:cy:=(aK (a_ (ag cP false (ad 2) (pC (.int 7))))
 (ay (aD 5 (ag bq false (cj (aw (pC .none) (aw (pC (.int 0)) (aw (pC (.bool true)) (aw (cj (aw (ad 1) bi)) (aw (c8 (aw (pC (.str "a")) (aw (pC (.int 1)) bi))) (aw zT bi))))))) (ag cF false (ao bw (af false (ad 0) (af false (pC (.int 3)) ap))) (pC (.int 6)))))
 (aK (a_ (ag (bz (cY true)) false (ao bX (af false (ad 5) ap)) (pC .none)))
 (aF (pC (.bool false)))
 aB))
 aB)
def Gf:cy:=(aF (ao bD (af false (ad 1) ap)))
theorem yC:pw=ay Gb (ay EJ (ay Gc (ay Gd (ay Ge (ay yB Gf))))):=rfl
def SL(ns:List Int):Sl:=.sh (.list (ns.map .int))
section
variable (ns:List Int)
theorem vR(k:Nat)(i:Int)(h:(k:Int)=i):∃z,bw [.list (ns.map .int),.int i]=some (.sh (.int z)):=⟨_,h▸vM ns k⟩
theorem l0:∃W:Str,Gb [SL ns,.no,.no,.no,.no,.no]=some ([SL ns,.sh (.str W),.no,.no,.no,.no],.nx)∧W.length≤6096:=by
 obtain⟨z,a⟩:=vR ns 0 0 rfl
 obtain⟨W,e,l⟩:=yx z
 refine⟨W,?_,l⟩
 simp only[Gb,aD,ao,af,ad,SL,List.getElem?_cons_zero,Sl.isBr,Bool.false_and,Bool.false_eq_true,pC,ap,Option.map_some,if_false,Option.bind_some,ax,look,Sl.val,a,e,PL.settle,frz,frzAll,List.length_cons,List.length_nil,Nat.zero_add,Nat.reduceAdd,Nat.reduceLT,List.set_cons_succ,List.set_cons_zero,if_true]
theorem EK(W W':Str)(z n y:Int)(a:bw [.list (ns.map .int),.int 1]=some (.sh (.int z)))(h:z % 3=1)(hn:z / 3 % 6=n)(hy:z / 18=y)(d3:kX 3=true)(d18:kX 18=true)(e:cR [.str W,.int (26+n),.int y]=some (.sh (.str W'))):EJ [SL ns,.sh (.str W),.no,.no,.no,.no]=some ([SL ns,.sh (.str W'),.no,.no,.no,.no],.nx):=by
 simp only[EJ,aK,a_,ag,ao,af,ad,SL,List.getElem?_cons_zero,Sl.isBr,Bool.false_and,Bool.false_eq_true,pC,ap,Option.map_some,if_false,Option.bind_some,ax,look,Sl.val,a,cF,bz,iD,Int.reduceLT,decide_true,h,if_true,cP,aQ,aD,gq,aE,hot,aV,Bool.not_false,Bool.true_or,Bool.and_true,PL.settle,frz,frzAll,aB,List.getElem?_cons_succ,d3,hn,d18,hy,e,List.length_cons,List.length_nil,Nat.zero_add,Nat.reduceAdd,Nat.reduceLT,List.set_cons_succ,List.set_cons_zero]
theorem l1(W:Str)(lW:W.length≤6096):∃W':Str,EJ [SL ns,.sh (.str W),.no,.no,.no,.no]=some ([SL ns,.sh (.str W'),.no,.no,.no,.no],.nx)∧W'.length≤7000:=by
 obtain⟨z,a⟩:=vR ns 1 1 rfl
 by_cases h:z % 3=1
 ·obtain⟨v,hv,v0,v1⟩:=qr (z / 3) 6 (by decide)
  obtain⟨W',e,l⟩:=vQ W (26+v.toNat) (z / 18) (by omega) (by omega)
  rw[show((26+v.toNat:Nat):Int)=26+v by omega]at e
  exact⟨W',EK ns W W' z v _ a h hv rfl (by decide) (by decide) e,by omega⟩
 ·refine⟨W,?_,by omega⟩
  simp only[EJ,aK,a_,ag,ao,af,ad,SL,List.getElem?_cons_zero,Sl.isBr,Bool.false_and,Bool.false_eq_true,pC,ap,Option.map_some,if_false,Option.bind_some,ax,look,Sl.val,a,cF,bz,iD,Int.reduceLT,decide_true,if_true,cP,aQ,h,decide_false,aD,gq,aE,hot,aV,Bool.not_false,Bool.true_or,Bool.and_true,PL.settle,frz,frzAll,aB,List.getElem?_cons_succ]
theorem l2(x1:Sl):∃w:Int,Gc [SL ns,x1,.no,.no,.no,.no]=some ([SL ns,x1,.sh (.int w),.no,.no,.no],.nx):=by
 obtain⟨z,a⟩:=vR ns 2 2 rfl
 refine⟨z % 8,?_⟩
 simp only[Gc,aD,ag,ao,af,ad,SL,List.getElem?_cons_zero,Sl.isBr,Bool.false_and,Bool.false_eq_true,pC,ap,Option.map_some,if_false,Option.bind_some,ax,look,Sl.val,a,cF,bz,iD,Int.reduceLT,decide_true,if_true,PL.settle,frz,frzAll,List.length_cons,List.length_nil,Nat.zero_add,Nat.reduceAdd,Nat.reduceLT,List.set_cons_succ,List.set_cons_zero]
theorem l3(W:Str)(w:Int)(lW:W.length≤7000):∃S:Str,Gd [SL ns,.sh (.str W),.sh (.int w),.no,.no,.no]=some ([SL ns,.sh (.str W),.sh (.int w),.sh (.str S),.no,.no],.nx)∧S.length≤20000:=by
 obtain⟨y,a⟩:=vR ns 3 3 rfl
 obtain⟨z,b⟩:=vR ns 4 4 rfl
 obtain⟨S,e,l⟩:=tK W w y z (by omega)
 refine⟨S,?_,by omega⟩
 simp only[Gd,aD,ao,af,ad,SL,List.getElem?_cons_succ,List.getElem?_cons_zero,Sl.isBr,Bool.false_and,Bool.false_eq_true,pC,ap,Option.map_some,if_false,Option.bind_some,ax,look,Sl.val,a,b,e,PL.settle,frz,frzAll,List.length_cons,List.length_nil,Nat.zero_add,Nat.reduceAdd,Nat.reduceLT,List.set_cons_succ,List.set_cons_zero,if_true]
theorem l4(W S:Str)(w:Int)(a:bD [.str W]=some (.sh (.bool true)))(b:bD [.str S]=some (.sh (.bool true))):Ge [SL ns,.sh (.str W),.sh (.int w),.sh (.str S),.no,.no]=some ([SL ns,.sh (.str W),.sh (.int w),.sh (.str S),.sh (.int 1),.no],.nx):=by
 have st:∀x4:Sl,ig [SL ns,.sh (.str W),.sh (.int w),.sh (.str S),x4,.no]=some ([SL ns,.sh (.str W),.sh (.int w),.sh (.str S),x4,.no],.nx):=fun x4=>by
  simp only[ig,aK,cz,cA,cL,ao,af,ad,SL,List.getElem?_cons_succ,List.getElem?_cons_zero,Sl.isBr,Bool.false_and,Bool.false_eq_true,ap,Option.map_some,if_false,Option.bind_some,ax,look,Sl.val,a,dY,Bool.not_true,b,aF,pC,aB]
 have e:dL ie ig (kZ 0 2) [SL ns,.sh (.str W),.sh (.int w),.sh (.str S),.no,.no]=some ([SL ns,.sh (.str W),.sh (.int w),.sh (.str S),.sh (.int 1),.no],.nx):=by
  rw[j5,dL,show ie (.int 0) [SL ns,.sh (.str W),.sh (.int w),.sh (.str S),.no,.no]=some [SL ns,.sh (.str W),.sh (.int w),.sh (.str S),.sh (.int 0),.no]from rfl,Option.bind_some,st]
  show dL ie ig (kZ (0+1) 1) [SL ns,.sh (.str W),.sh (.int w),.sh (.str S),.sh (.int 0),.no]=_
  rw[j5,dL,show ie (.int (0+1)) [SL ns,.sh (.str W),.sh (.int w),.sh (.str S),.sh (.int 0),.no]=some [SL ns,.sh (.str W),.sh (.int w),.sh (.str S),.sh (.int 1),.no]from rfl,Option.bind_some,st]
  rfl
 simp only[Ge,kd,jD,af,pC,Sl.isBr,Bool.false_and,Bool.false_eq_true,ap,Option.map_some,if_false,Option.bind_some,Int.reduceNeg,ax,look,Sl.val,Int.reduceLE,and_self,Int.reduceToNat,if_true,e]
theorem GO(x1 x3 x4:Sl)(w:Int)(h:¬w=7):yB [SL ns,x1,.sh (.int w),x3,x4,.no]=some ([SL ns,x1,.sh (.int w),x3,x4,.no],.nx):=by
 simp only[yB,aK,a_,ag,ad,List.getElem?_cons_succ,List.getElem?_cons_zero,Sl.isBr,Bool.false_and,Bool.false_eq_true,pC,cP,bz,look,Sl.val,Option.bind_some,if_false,aQ,h,decide_false,Option.map_some,ay,aD,cj,aw,frz,bi,c8,List.length_cons,List.length_nil,Nat.zero_add,Nat.reduceAdd,Nat.reduceLeDiff,if_true,ao,af,ap,cF,iD,bq,hot,aV,PL.settle,frzAll,cY,Bool.not_true,aF,aB]
theorem GP(W:Str)(x3 x4:Sl)(w:Int)(h:w=7):∃x5,yB [SL ns,.sh (.str W),.sh (.int w),x3,x4,.no]=some ([SL ns,.sh (.str W),.sh (.int w),x3,x4,x5],.nx):=by
 obtain⟨z,a⟩:=vR ns 3 3 rfl
 obtain⟨v,hv,v0,v1⟩:=qr z 6 (by decide)
 subst h
 rcases(show v=0∨v=1∨v=2∨v=3∨v=4∨v=5 by omega)with q |q |q |q |q |q <;> subst q
 ·refine⟨.sh .none,?_⟩
  have e:atI [PyData.none,.int 0,.bool true,.list [.str W],.tuple [.str (Str.ofString "a"),.int 1],.dict []] 0=some .none:=rfl
  have s:=iT _ (.inl rfl)
  simp only[yB,aK,a_,ag,ad,SL,List.getElem?_cons_succ,List.getElem?_cons_zero,Sl.isBr,Bool.false_and,Bool.false_eq_true,pC,cP,bz,look,Sl.val,Option.bind_some,if_false,aQ,decide_true,Option.map_some,ay,aD,cj,aw,frz,bi,c8,List.length_cons,List.length_nil,Nat.zero_add,Nat.reduceAdd,Nat.reduceLeDiff,if_true,zT,ao,af,ap,cF,iD,bq,hot,aV,PL.settle,frzAll,cY,Bool.not_true,aF,aB,ax,a,Int.reduceLT,hv,e,Nat.reduceLT,List.set_cons_succ,List.set_cons_zero,s]
 ·refine⟨.sh (.int 0),?_⟩
  have e:atI [PyData.none,.int 0,.bool true,.list [.str W],.tuple [.str (Str.ofString "a"),.int 1],.dict []] 1=some (.int 0):=rfl
  have s:=iT _ (.inr (.inl rfl))
  simp only[yB,aK,a_,ag,ad,SL,List.getElem?_cons_succ,List.getElem?_cons_zero,Sl.isBr,Bool.false_and,Bool.false_eq_true,pC,cP,bz,look,Sl.val,Option.bind_some,if_false,aQ,decide_true,Option.map_some,ay,aD,cj,aw,frz,bi,c8,List.length_cons,List.length_nil,Nat.zero_add,Nat.reduceAdd,Nat.reduceLeDiff,if_true,zT,ao,af,ap,cF,iD,bq,hot,aV,PL.settle,frzAll,cY,Bool.not_true,aF,aB,ax,a,Int.reduceLT,hv,e,Nat.reduceLT,List.set_cons_succ,List.set_cons_zero,s]
 ·refine⟨.sh (.bool true),?_⟩
  have e:atI [PyData.none,.int 0,.bool true,.list [.str W],.tuple [.str (Str.ofString "a"),.int 1],.dict []] 2=some (.bool true):=rfl
  have s:=iT _ (.inr (.inr (.inl rfl)))
  simp only[yB,aK,a_,ag,ad,SL,List.getElem?_cons_succ,List.getElem?_cons_zero,Sl.isBr,Bool.false_and,Bool.false_eq_true,pC,cP,bz,look,Sl.val,Option.bind_some,if_false,aQ,decide_true,Option.map_some,ay,aD,cj,aw,frz,bi,c8,List.length_cons,List.length_nil,Nat.zero_add,Nat.reduceAdd,Nat.reduceLeDiff,if_true,zT,ao,af,ap,cF,iD,bq,hot,aV,PL.settle,frzAll,cY,Bool.not_true,aF,aB,ax,a,Int.reduceLT,hv,e,Nat.reduceLT,List.set_cons_succ,List.set_cons_zero,s]
 ·refine⟨.sh (.list [.str W]),?_⟩
  have e:atI [PyData.none,.int 0,.bool true,.list [.str W],.tuple [.str (Str.ofString "a"),.int 1],.dict []] 3=some (.list [.str W]):=rfl
  have s:=iT _ (.inr (.inr (.inr (.inl ⟨W,rfl⟩))))
  simp only[yB,aK,a_,ag,ad,SL,List.getElem?_cons_succ,List.getElem?_cons_zero,Sl.isBr,Bool.false_and,Bool.false_eq_true,pC,cP,bz,look,Sl.val,Option.bind_some,if_false,aQ,decide_true,Option.map_some,ay,aD,cj,aw,frz,bi,c8,List.length_cons,List.length_nil,Nat.zero_add,Nat.reduceAdd,Nat.reduceLeDiff,if_true,zT,ao,af,ap,cF,iD,bq,hot,aV,PL.settle,frzAll,cY,Bool.not_true,aF,aB,ax,a,Int.reduceLT,hv,e,Nat.reduceLT,List.set_cons_succ,List.set_cons_zero,s]
 ·refine⟨.sh (.tuple [.str (Str.ofString "a"),.int 1]),?_⟩
  have e:atI [PyData.none,.int 0,.bool true,.list [.str W],.tuple [.str (Str.ofString "a"),.int 1],.dict []] 4=some (.tuple [.str (Str.ofString "a"),.int 1]):=rfl
  have s:=iT _ (.inr (.inr (.inr (.inr (.inl rfl)))))
  simp only[yB,aK,a_,ag,ad,SL,List.getElem?_cons_succ,List.getElem?_cons_zero,Sl.isBr,Bool.false_and,Bool.false_eq_true,pC,cP,bz,look,Sl.val,Option.bind_some,if_false,aQ,decide_true,Option.map_some,ay,aD,cj,aw,frz,bi,c8,List.length_cons,List.length_nil,Nat.zero_add,Nat.reduceAdd,Nat.reduceLeDiff,if_true,zT,ao,af,ap,cF,iD,bq,hot,aV,PL.settle,frzAll,cY,Bool.not_true,aF,aB,ax,a,Int.reduceLT,hv,e,Nat.reduceLT,List.set_cons_succ,List.set_cons_zero,s]
 ·refine⟨.sh (.dict []),?_⟩
  have e:atI [PyData.none,.int 0,.bool true,.list [.str W],.tuple [.str (Str.ofString "a"),.int 1],.dict []] 5=some (.dict []):=rfl
  have s:=iT _ (.inr (.inr (.inr (.inr (.inr rfl)))))
  simp only[yB,aK,a_,ag,ad,SL,List.getElem?_cons_succ,List.getElem?_cons_zero,Sl.isBr,Bool.false_and,Bool.false_eq_true,pC,cP,bz,look,Sl.val,Option.bind_some,if_false,aQ,decide_true,Option.map_some,ay,aD,cj,aw,frz,bi,c8,List.length_cons,List.length_nil,Nat.zero_add,Nat.reduceAdd,Nat.reduceLeDiff,if_true,zT,ao,af,ap,cF,iD,bq,hot,aV,PL.settle,frzAll,cY,Bool.not_true,aF,aB,ax,a,Int.reduceLT,hv,e,Nat.reduceLT,List.set_cons_succ,List.set_cons_zero,s]
theorem l6(W:Str)(x2 x3 x4 x5:Sl)(a:bD [.str W]=some (.sh (.bool true))):Gf [SL ns,.sh (.str W),x2,x3,x4,x5]=some ([SL ns,.sh (.str W),x2,x3,x4,x5],.rt (.sh (.bool true))):=by
 simp only[Gf,aF,ao,af,ad,List.getElem?_cons_succ,List.getElem?_cons_zero,Sl.isBr,Bool.false_and,Bool.false_eq_true,ap,Option.map_some,if_false,Option.bind_some,ax,look,Sl.val,a]
theorem C5(hl:ns.length≤63):kN [.list (ns.map .int)]=some (.sh (.bool true)):=by
 obtain⟨W0,e0,k0⟩:=l0 ns
 obtain⟨W,e1,k1⟩:=l1 ns W0 k0
 obtain⟨w,e2⟩:=l2 ns (.sh (.str W))
 obtain⟨S,e3,k3⟩:=l3 ns W w k1
 have sW:=yA W (by omega)
 have sS:=yA S (by omega)
 have e4:=l4 ns W S w sW sS
 obtain⟨x5,e5⟩:∃x5,yB [SL ns,.sh (.str W),.sh (.int w),.sh (.str S),.sh (.int 1),.no]=some ([SL ns,.sh (.str W),.sh (.int w),.sh (.str S),.sh (.int 1),x5],.nx):=by
  by_cases h:w=7
  ·exact GP ns W _ _ w h
  ·exact⟨.no,GO ns _ _ _ w h⟩
 have run:pw [SL ns,.no,.no,.no,.no,.no]=some ([SL ns,.sh (.str W),.sh (.int w),.sh (.str S),.sh (.int 1),x5],.rt (.sh (.bool true))):=by
  rw[yC,mf e0,mf e1,mf e2,mf e3,mf e4,mf e5]
  exact l6 ns W _ _ _ _ sW
 simp only[kN,bP,List.length_cons,List.length_nil,if_true,av]
 show((pw [SL ns,.no,.no,.no,.no,.no]).bind _)=_
 rw[run]
 rfl
end
end Nhk63
namespace Nhk63
open PySem L2 Nh PL
open PySem.W (nsIn codeIn keepIn fnOf)
theorem kg{fd:FuncData}{xs:List Str}(h:∀a0,bindArgs fd ⟨[a0],[]⟩=pure (xs.zip [a0])):∀us:List Value,us.length=1→bindArgs fd ⟨us,[]⟩=pure (xs.zip us)
 |[a0],_=>h a0
theorem l8{fd:FuncData}{xs:List Str}(h:∀a0 a1,bindArgs fd ⟨[a0,a1],[]⟩=pure (xs.zip [a0,a1])):∀us:List Value,us.length=2→bindArgs fd ⟨us,[]⟩=pure (xs.zip us)
 |[a0,a1],_=>h a0 a1
theorem qu{fd:FuncData}{xs:List Str}(h:∀a0 a1 a2,bindArgs fd ⟨[a0,a1,a2],[]⟩=pure (xs.zip [a0,a1,a2])):∀us:List Value,us.length=3→bindArgs fd ⟨us,[]⟩=pure (xs.zip us)
 |[a0,a1,a2],_=>h a0 a1 a2
theorem Gg{fd:FuncData}{xs:List Str}(h:∀a0 a1 a2 a3,bindArgs fd ⟨[a0,a1,a2,a3],[]⟩=pure (xs.zip [a0,a1,a2,a3])):∀us:List Value,us.length=4→bindArgs fd ⟨us,[]⟩=pure (xs.zip us)
 |[a0,a1,a2,a3],_=>h a0 a1 a2 a3
abbrev HD(K:PySem.W.Frag)(n:Str)(st:Stmt):Prop:=∃(f:Addr) (oc:Value) (od an:Option Addr) (sl:Array (Option Value)) (kV dc pm cd ct:Value),nsIn K mainGlobals n=some (some (.ref f))∧K.lookup f=some ⟨oc,od,.func (fnOf n n (dR st) (cB st) (au st) .none kV dc pm an cd ct),sl⟩∧codeIn K cd n=true∧keepIn K (.ref f)=true
theorem EL{K:PySem.W.Frag}{n:Str}{st:Stmt}{f:Addr}{oc:Value}{od an:Option Addr}{sl:Array (Option Value)}{kV dc pm cd ct:Value}(a:nsIn K mainGlobals n=some (some (.ref f)))(l:K.lookup f=some ⟨oc,od,.func (fnOf n n (dR st) (cB st) (au st) .none kV dc pm an cd ct),sl⟩)(c:codeIn K cd n=true)(k:keepIn K (.ref f)=true):HD K n st:=⟨f,oc,od,an,sl,kV,dc,pm,cd,ct,a,l,c,k⟩
theorem cO{K:PySem.W.Frag}{h:Heap}{mg:Str→Option Value}{x:Str}{st:Stmt}{ps:List Str}(d:HD K x st)(X:K.In h)(G:h.Ns mainGlobals mg)(b:∀(kV doc pm:Value) (an:Option Addr) (cdv ct:Value) (us:List Value),us.length=ps.length→bindArgs (fnOf x x (dR st) (cB st) (au st) .none kV doc pm an cdv ct) ⟨us,[]⟩=pure (ps.zip us)):Def K mg x st ps:=by
 obtain⟨f,oc,od,an,sl,kV,dc,pm,cd,ct,a,l,c,k⟩:=d
 exact BW X G a l c k b
theorem vS {K:PySem.W.Frag} {C:Addr} (c1:nsIn K mainGlobals "Piece"=some (some (.ref C))) (c2:PySem.W.plainGet K C Str.empty=true) (c3:PySem.W.hasDictIn K C=true) (c4:PySem.W.plainOver K C=true) (c5:PySem.W.findIn K (.ref C) "__setattr__"=some (some (.builtin "object.__setattr__"))) (c6:PySem.W.makesIn K C=true) (c7:keepIn K (.ref C)=true) (n1:PySem.W.findIn K (.ref C) "nail"=some none) (n2:PySem.W.findIn K (.ref C) "turns"=some none) (n3:PySem.W.findIn K (.ref C) "size"=some none) (m1:HM K C "pieces" "Term.pieces" cg) (m2:HM K C "cord" "Term.cord" cW) (m3:HM K C "made" "Piece.made" gP) (m4:HM K C "text" "Piece.text" gQ) (m5:HM K C "__init__" "Piece.__init__" gW):p9 K:=⟨C,⟨c1,c2,c3,c4,c5,c6,c7⟩,n1,n2,n3,m1,m2,m3,m4,m5⟩
theorem vT {K:PySem.W.Frag} {C:Addr} (c1:nsIn K mainGlobals "Parts"=some (some (.ref C))) (c2:PySem.W.plainGet K C Str.empty=true) (c3:PySem.W.hasDictIn K C=true) (c4:PySem.W.plainOver K C=true) (c5:PySem.W.findIn K (.ref C) "__setattr__"=some (some (.builtin "object.__setattr__"))) (c6:PySem.W.makesIn K C=true) (c7:keepIn K (.ref C)=true) (n1:PySem.W.findIn K (.ref C) "parts"=some none) (n2:PySem.W.findIn K (.ref C) "kept"=some none) (n3:PySem.W.findIn K (.ref C) "size"=some none) (m1:HM K C "pieces" "Term.pieces" cg) (m2:HM K C "cord" "Term.cord" cW) (m3:HM K C "made" "Parts.made" gS) (m4:HM K C "text" "Parts.text" gT) (m5:HM K C "__init__" "Parts.__init__" gX):p_ K:=⟨C,⟨c1,c2,c3,c4,c5,c6,c7⟩,n1,n2,n3,m1,m2,m3,m4,m5⟩
theorem vU {K:PySem.W.Frag} {C:Addr} (c1:nsIn K mainGlobals "Times"=some (some (.ref C))) (c2:PySem.W.plainGet K C Str.empty=true) (c3:PySem.W.hasDictIn K C=true) (c4:PySem.W.plainOver K C=true) (c5:PySem.W.findIn K (.ref C) "__setattr__"=some (some (.builtin "object.__setattr__"))) (c6:PySem.W.makesIn K C=true) (c7:keepIn K (.ref C)=true) (n1:PySem.W.findIn K (.ref C) "body"=some none) (n2:PySem.W.findIn K (.ref C) "number"=some none) (n3:PySem.W.findIn K (.ref C) "size"=some none) (m1:HM K C "pieces" "Term.pieces" cg) (m2:HM K C "cord" "Term.cord" cW) (m3:HM K C "made" "Times.made" gU) (m4:HM K C "text" "Times.text" gV) (m5:HM K C "__init__" "Times.__init__" gY):qa K:=⟨C,⟨c1,c2,c3,c4,c5,c6,c7⟩,n1,n2,n3,m1,m2,m3,m4,m5⟩
theorem yD {K:PySem.W.Frag} {C:Addr} (c1:nsIn K mainGlobals "Back"=some (some (.ref C))) (c2:PySem.W.plainGet K C Str.empty=true) (c3:PySem.W.hasDictIn K C=true) (c4:PySem.W.plainOver K C=true) (c5:PySem.W.findIn K (.ref C) "__setattr__"=some (some (.builtin "object.__setattr__"))) (c6:PySem.W.makesIn K C=true) (c7:keepIn K (.ref C)=true) (n1:PySem.W.findIn K (.ref C) "one"=some none) (n2:PySem.W.findIn K (.ref C) "other"=some none) (n3:PySem.W.findIn K (.ref C) "size"=some none) (m1:HM K C "pieces" "Term.pieces" cg) (m2:HM K C "cord" "Term.cord" cW) (m3:HM K C "made" "Back.made" iy) (m4:HM K C "text" "Back.text" iz) (m5:HM K C "__init__" "Back.__init__" iA):sU K:=⟨C,⟨c1,c2,c3,c4,c5,c6,c7⟩,n1,n2,n3,m1,m2,m3,m4,m5⟩
theorem C6 {K:PySem.W.Frag} {CPiece:Addr} (aPiece:nsIn K mainGlobals "Piece"=some (some (.ref CPiece))) (bPiece:PySem.W.findIn K (.ref CPiece) "__eq__"=some (some (.builtin "object.__eq__"))) (dPiece:PySem.W.subIn K (.ref CPiece) (.type "object")=some true) (ePiece:PySem.W.subIn K (.type "str") (.ref CPiece)=some false) {CParts:Addr} (aParts:nsIn K mainGlobals "Parts"=some (some (.ref CParts))) (bParts:PySem.W.findIn K (.ref CParts) "__eq__"=some (some (.builtin "object.__eq__"))) (dParts:PySem.W.subIn K (.ref CParts) (.type "object")=some true) (eParts:PySem.W.subIn K (.type "str") (.ref CParts)=some false) {CTimes:Addr} (aTimes:nsIn K mainGlobals "Times"=some (some (.ref CTimes))) (bTimes:PySem.W.findIn K (.ref CTimes) "__eq__"=some (some (.builtin "object.__eq__"))) (dTimes:PySem.W.subIn K (.ref CTimes) (.type "object")=some true) (eTimes:PySem.W.subIn K (.type "str") (.ref CTimes)=some false) {CBack:Addr} (aBack:nsIn K mainGlobals "Back"=some (some (.ref CBack))) (bBack:PySem.W.findIn K (.ref CBack) "__eq__"=some (some (.builtin "object.__eq__"))) (dBack:PySem.W.subIn K (.ref CBack) (.type "object")=some true) (eBack:PySem.W.subIn K (.type "str") (.ref CBack)=some false):rl K ["Piece","Parts","Times","Back"]:=fun cn hc C h=>by
 simp only[List.mem_cons,List.not_mem_nil,or_false]at hc
 rcases hc with rfl |rfl |rfl |rfl
 ·rw[aPiece]at h;cases h;exact⟨bPiece,dPiece,ePiece⟩
 ·rw[aParts]at h;cases h;exact⟨bParts,dParts,eParts⟩
 ·rw[aTimes]at h;cases h;exact⟨bTimes,dTimes,eTimes⟩
 ·rw[aBack]at h;cases h;exact⟨bBack,dBack,eBack⟩
theorem yE{K:PySem.W.Frag}{b:Addr}:∀l:List (Str×Str),(∀n∈l,nsIn K mainGlobals n.1=some none)→yK K b l=none
 |[],_=>rfl
 |n::r,h=>by
  have e:vY K n.1=none:=by
   unfold vY
   rw[h n (List.mem_cons_self ..)]
  unfold yK
  rw[e,if_neg nofun]
  exact yE r fun m hm=>h m (List.mem_cons_of_mem _ hm)
theorem AC {K:PySem.W.Frag} {h:Heap} (t0:nsIn K mainGlobals "in_told_order"=some none) (t1:nsIn K mainGlobals "_law_moves_refused"=some none) (t2:nsIn K mainGlobals "_law_long_refused"=some none) (t3:nsIn K mainGlobals "_law_sets_refused"=some none) (t4:nsIn K mainGlobals "_law_cords_refused"=some none) (t5:nsIn K mainGlobals "_law_many_refused"=some none) (t6:nsIn K mainGlobals "_law_two_refused"=some none) (t7:nsIn K mainGlobals "_law_at_least_refused"=some none):L2.uh K h:=fun b q z=>by
 unfold mR at z
 rw[yE _ fun n hn=>by
  unfold AF at hn
  simp only[List.mem_cons,List.not_mem_nil,or_false]at hn
  rcases hn with rfl |rfl |rfl |rfl |rfl |rfl |rfl |rfl
  ·exact t0
  ·exact t1
  ·exact t2
  ·exact t3
  ·exact t4
  ·exact t5
  ·exact t6
  ·exact t7]at z
 cases z
theorem C7 {l:PySem.W.OpenLaw} {w:World} {K:PySem.W.Frag} {h:Heap} {mg:Str→Option Value} {fa:Addr} (X:K.In h) (G:h.Ns mainGlobals mg) (hfa:mg "law"=some (.ref fa)) (B:Bn mg) (hPiece:p9 K) (hParts:p_ K) (hTimes:qa K) (hBack:sU K) (heq:rl K ["Piece","Parts","Times","Back"])
  (d1:HD K "contrary" ji)
  (d2:HD K "number_text" gl)
  (d3:HD K "repeated" jj)
  (d4:HD K "there_and_back" eP)
  (d5:HD K "is_nail" j8)
  (d6:HD K "figures_end" gm)
  (d7:HD K "number_end" gZ)
  (d8:HD K "read_number" gn)
  (d9:HD K "behind" jU)
  (d10:HD K "read_piece" g5)
  (d11:HD K "_law_at" ly)
  (d12:HD K "_law_mix" j9)
  (d13:HD K "_law_contrary" fR)
  (d14:HD K "_law_right" iB)
  (d15:HD K "_law_words" gw)
  (d16:HD K "_law_within" g7)
  (d17:HD K "_law_any_sign" fS)
  (d18:HD K "_law_odd" j_)
  (d19:HD K "_law_spoiled" gp)
  (d20:HD K "_law_number" g8)
  (d21:HD K "_law_count" gx)
  (d22:HD K "_law_laid" ii)
  (d23:HD K "_law_others" g9)
  (d24:HD K "read_times" cQ)
  (d25:HD K "read_back" dw)
  (d26:HD K "read_part" dy)
  (d27:HD K "read_parts" dJ)
  (d28:HD K "read" nJ)
  (d29:HD K "_law_said" jk)
  (d30:HD K "_law_bracket" dN)
  (d31:HD K "_law_row" iR)
  (d32:HD K "_law_read" jm)
  (d33:HD K "_law_same" jn)
  (d34:HD K "law" nM)
  {t_DEEPEST:Tok} (g_DEEPEST:PySem.W.nsIn K mainGlobals "DEEPEST"=some (some (.int 30 t_DEEPEST)))
  {t_LONGEST:Tok} (g_LONGEST:PySem.W.nsIn K mainGlobals "LONGEST"=some (some (.int 4000 t_LONGEST)))
  {t_MOST_FIGURES:Tok} (g_MOST_FIGURES:PySem.W.nsIn K mainGlobals "MOST_FIGURES"=some (some (.int 30 t_MOST_FIGURES)))
  {ec_NoCord ec_NoNails ec_NoRule ec_NoText ec_NoMove ec_NoLine ec_NoName ec_NoNumber ec_TooMany ec_TooLong ec_Term ec_Piece ec_Parts ec_Times ec_Back ec_HangError:Addr}
  (qc_NoCord:PySem.W.nsIn K mainGlobals "NoCord"=some (some (.ref ec_NoCord)))
  (qc_NoNails:PySem.W.nsIn K mainGlobals "NoNails"=some (some (.ref ec_NoNails)))
  (qc_NoRule:PySem.W.nsIn K mainGlobals "NoRule"=some (some (.ref ec_NoRule)))
  (qc_NoText:PySem.W.nsIn K mainGlobals "NoText"=some (some (.ref ec_NoText)))
  (qc_NoMove:PySem.W.nsIn K mainGlobals "NoMove"=some (some (.ref ec_NoMove)))
  (qc_NoLine:PySem.W.nsIn K mainGlobals "NoLine"=some (some (.ref ec_NoLine)))
  (qc_NoName:PySem.W.nsIn K mainGlobals "NoName"=some (some (.ref ec_NoName)))
  (qc_NoNumber:PySem.W.nsIn K mainGlobals "NoNumber"=some (some (.ref ec_NoNumber)))
  (qc_TooMany:PySem.W.nsIn K mainGlobals "TooMany"=some (some (.ref ec_TooMany)))
  (qc_TooLong:PySem.W.nsIn K mainGlobals "TooLong"=some (some (.ref ec_TooLong)))
  (qc_Term:PySem.W.nsIn K mainGlobals "Term"=some (some (.ref ec_Term)))
  (qc_Piece:PySem.W.nsIn K mainGlobals "Piece"=some (some (.ref ec_Piece)))
  (qc_Parts:PySem.W.nsIn K mainGlobals "Parts"=some (some (.ref ec_Parts)))
  (qc_Times:PySem.W.nsIn K mainGlobals "Times"=some (some (.ref ec_Times)))
  (qc_Back:PySem.W.nsIn K mainGlobals "Back"=some (some (.ref ec_Back)))
  (qc_ValueError:PySem.W.nsIn K mainGlobals "ValueError"=some none)
  (qc_HangError:PySem.W.nsIn K mainGlobals "HangError"=some (some (.ref ec_HangError)))
  (w1_NoText:PySem.W.excIn K ec_NoText Gp "ValueError.__new__"=true)
  (w2_NoText:(PySem.W.clsIn K ec_NoText).isSome=true)
  (w3_NoText:PySem.W.findIn K (.ref ec_NoText) "__getattribute__"=some (some (.builtin "BaseException.__getattribute__")))
  (w4_NoText:PySem.W.findIn K (.ref ec_NoText) "__getattr__"=some none)
  (w5_NoText:PySem.W.findIn K (.ref ec_NoText) "__class__"=some (some (.builtin "object.__class__")))
  (w6_NoText:PySem.W.mroIn K ec_NoText (.type "BaseException")=some true)
  (w7_NoText:PySem.W.mroIn K ec_NoText (.type "object")=some true)
  (y_NoText_NoCord:PySem.W.kitOne K (.ref ec_NoText) (.ref ec_NoCord)=some false)
  (y_NoText_NoNails:PySem.W.kitOne K (.ref ec_NoText) (.ref ec_NoNails)=some false)
  (y_NoText_NoRule:PySem.W.kitOne K (.ref ec_NoText) (.ref ec_NoRule)=some false)
  (y_NoText_NoText:PySem.W.kitOne K (.ref ec_NoText) (.ref ec_NoText)=some true)
  (y_NoText_NoMove:PySem.W.kitOne K (.ref ec_NoText) (.ref ec_NoMove)=some false)
  (y_NoText_NoLine:PySem.W.kitOne K (.ref ec_NoText) (.ref ec_NoLine)=some false)
  (y_NoText_NoName:PySem.W.kitOne K (.ref ec_NoText) (.ref ec_NoName)=some false)
  (y_NoText_NoNumber:PySem.W.kitOne K (.ref ec_NoText) (.ref ec_NoNumber)=some false)
  (y_NoText_TooMany:PySem.W.kitOne K (.ref ec_NoText) (.ref ec_TooMany)=some false)
  (y_NoText_TooLong:PySem.W.kitOne K (.ref ec_NoText) (.ref ec_TooLong)=some false)
  (y_NoText_Term:PySem.W.kitOne K (.ref ec_NoText) (.ref ec_Term)=some false)
  (y_NoText_Piece:PySem.W.kitOne K (.ref ec_NoText) (.ref ec_Piece)=some false)
  (y_NoText_Parts:PySem.W.kitOne K (.ref ec_NoText) (.ref ec_Parts)=some false)
  (y_NoText_Times:PySem.W.kitOne K (.ref ec_NoText) (.ref ec_Times)=some false)
  (y_NoText_Back:PySem.W.kitOne K (.ref ec_NoText) (.ref ec_Back)=some false)
  (y_NoText_ValueError:PySem.W.kitOne K (.ref ec_NoText) (.type "ValueError")=some true)
  (y_NoText_HangError:PySem.W.exmOne K (.ref ec_NoText) (.ref ec_HangError)=some true):
  ∃fd:FuncData,(∀(s:Shared) (v:Value),BindsTo s fd ⟨[v],[]⟩ [("_law_script",v)])∧∀base:Heap,K.In base→base.Ns mainGlobals mg→FnOk l.prog w K mg base jA 146 fa fd ["_law_script"] (bQ K kN):=by
 obtain⟨f34,oc34,od34,an34,sl34,kV34,dc34,pm34,cd34,ct34,a34,l34,c34,k34⟩:=id d34
 have e:=hfa.symm.trans (PySem.W.mg_of X G a34)
 cases e
 have F0:=mY (st:=nM) l34 c34 k34
 have G_DEEPEST:=PySem.W.mg_of X G g_DEEPEST
 have G_LONGEST:=PySem.W.mg_of X G g_LONGEST
 have G_MOST_FIGURES:=PySem.W.mg_of X G g_MOST_FIGURES
 have Z_NoText:ExCls K ec_NoText:=⟨Option.isSome_iff_exists.mp w2_NoText,w3_NoText,w4_NoText,w5_NoText,w6_NoText,w7_NoText⟩
 have XX:XF K mg:=⟨⟨ec_NoCord,PySem.W.mg_of X G qc_NoCord,(dC qc_NoText Z_NoText y_NoText_NoCord eS)⟩,⟨ec_NoNails,PySem.W.mg_of X G qc_NoNails,(dC qc_NoText Z_NoText y_NoText_NoNails eS)⟩,⟨ec_NoRule,PySem.W.mg_of X G qc_NoRule,(dC qc_NoText Z_NoText y_NoText_NoRule eS)⟩,⟨ec_NoText,PySem.W.mg_of X G qc_NoText,(dC qc_NoText Z_NoText y_NoText_NoText eS),⟨qc_NoText,PySem.W.mg_of X G qc_NoText,w1_NoText,Z_NoText⟩⟩,⟨ec_NoMove,PySem.W.mg_of X G qc_NoMove,(dC qc_NoText Z_NoText y_NoText_NoMove eS)⟩,⟨ec_NoLine,PySem.W.mg_of X G qc_NoLine,(dC qc_NoText Z_NoText y_NoText_NoLine eS)⟩,⟨ec_NoName,PySem.W.mg_of X G qc_NoName,(dC qc_NoText Z_NoText y_NoText_NoName eS)⟩,⟨ec_NoNumber,PySem.W.mg_of X G qc_NoNumber,(dC qc_NoText Z_NoText y_NoText_NoNumber eS)⟩,⟨ec_TooMany,PySem.W.mg_of X G qc_TooMany,(dC qc_NoText Z_NoText y_NoText_TooMany eS)⟩,⟨ec_TooLong,PySem.W.mg_of X G qc_TooLong,(dC qc_NoText Z_NoText y_NoText_TooLong eS)⟩,⟨ec_Term,PySem.W.mg_of X G qc_Term,(dC qc_NoText Z_NoText y_NoText_Term eS)⟩,⟨ec_Piece,PySem.W.mg_of X G qc_Piece,(dC qc_NoText Z_NoText y_NoText_Piece eS)⟩,⟨ec_Parts,PySem.W.mg_of X G qc_Parts,(dC qc_NoText Z_NoText y_NoText_Parts eS)⟩,⟨ec_Times,PySem.W.mg_of X G qc_Times,(dC qc_NoText Z_NoText y_NoText_Times eS)⟩,⟨ec_Back,PySem.W.mg_of X G qc_Back,(dC qc_NoText Z_NoText y_NoText_Back eS)⟩,⟨PySem.W.mg_none_of X G qc_ValueError,(dC qc_NoText Z_NoText y_NoText_ValueError eS)⟩,⟨ec_HangError,PySem.W.mg_of X G qc_HangError,fun n hn D hD=>by
  simp only[List.mem_cons,List.not_mem_nil,or_false]at hn
  rcases hn with rfl
  ·rw[qc_NoText]at hD;cases hD;exact y_NoText_HangError⟩⟩
 have e_contrary:Def K mg "contrary" ji ["cord"]:=cO d1 X G fun _ _ _ _ _ _=>fun us hl=>kg (fun _=>rfl) us hl
 have e_number_text:Def K mg "number_text" gl ["number"]:=cO d2 X G fun _ _ _ _ _ _=>fun us hl=>kg (fun _=>rfl) us hl
 have e_repeated:Def K mg "repeated" jj ["cord","times"]:=cO d3 X G fun _ _ _ _ _ _=>fun us hl=>l8 (fun _ _=>rfl) us hl
 have e_there_and_back:Def K mg "there_and_back" eP ["one","other"]:=cO d4 X G fun _ _ _ _ _ _=>fun us hl=>l8 (fun _ _=>rfl) us hl
 have e_is_nail:Def K mg "is_nail" j8 ["thing"]:=cO d5 X G fun _ _ _ _ _ _=>fun us hl=>kg (fun _=>rfl) us hl
 have e_figures_end:Def K mg "figures_end" gm ["text","place"]:=cO d6 X G fun _ _ _ _ _ _=>fun us hl=>l8 (fun _ _=>rfl) us hl
 have e_number_end:Def K mg "number_end" gZ ["text","place"]:=cO d7 X G fun _ _ _ _ _ _=>fun us hl=>l8 (fun _ _=>rfl) us hl
 have e_read_number:Def K mg "read_number" gn ["text","place"]:=cO d8 X G fun _ _ _ _ _ _=>fun us hl=>l8 (fun _ _=>rfl) us hl
 have e_behind:Def K mg "behind" jU ["sign","text","place"]:=cO d9 X G fun _ _ _ _ _ _=>fun us hl=>qu (fun _ _ _=>rfl) us hl
 have e_read_piece:Def K mg "read_piece" g5 ["text","place"]:=cO d10 X G fun _ _ _ _ _ _=>fun us hl=>l8 (fun _ _=>rfl) us hl
 have e_law_at:Def K mg "_law_at" ly ["_law_script","_law_k"]:=cO d11 X G fun _ _ _ _ _ _=>fun us hl=>l8 (fun _ _=>rfl) us hl
 have e_law_mix:Def K mg "_law_mix" j9 ["_law_cell","_law_k"]:=cO d12 X G fun _ _ _ _ _ _=>fun us hl=>l8 (fun _ _=>rfl) us hl
 have e_law_contrary:Def K mg "_law_contrary" fR ["_law_cord_here"]:=cO d13 X G fun _ _ _ _ _ _=>fun us hl=>kg (fun _=>rfl) us hl
 have e_law_right:Def K mg "_law_right" iB ["_law_found","_law_due"]:=cO d14 X G fun _ _ _ _ _ _=>fun us hl=>l8 (fun _ _=>rfl) us hl
 have e_law_words:Def K mg "_law_words" gw ["_law_cell","_law_deep","_law_k"]:=cO d15 X G fun _ _ _ _ _ _=>fun us hl=>qu (fun _ _ _=>rfl) us hl
 have e_law_within:Def K mg "_law_within" g7 ["_law_words_here","_law_many","_law_cell"]:=cO d16 X G fun _ _ _ _ _ _=>fun us hl=>qu (fun _ _ _=>rfl) us hl
 have e_law_any_sign:Def K mg "_law_any_sign" fS ["_law_cell"]:=cO d17 X G fun _ _ _ _ _ _=>fun us hl=>kg (fun _=>rfl) us hl
 have e_law_odd:Def K mg "_law_odd" j_ ["_law_cell"]:=cO d18 X G fun _ _ _ _ _ _=>fun us hl=>kg (fun _=>rfl) us hl
 have e_law_spoiled:Def K mg "_law_spoiled" gp ["_law_words_here","_law_way","_law_spot","_law_cell"]:=cO d19 X G fun _ _ _ _ _ _=>fun us hl=>Gg (fun _ _ _ _=>rfl) us hl
 have e_law_number:Def K mg "_law_number" g8 ["_law_words_here","_law_at_here"]:=cO d20 X G fun _ _ _ _ _ _=>fun us hl=>l8 (fun _ _=>rfl) us hl
 have e_law_count:Def K mg "_law_count" gx ["_law_parts"]:=cO d21 X G fun _ _ _ _ _ _=>fun us hl=>kg (fun _=>rfl) us hl
 have e_law_laid:Def K mg "_law_laid" ii ["_law_parts"]:=cO d22 X G fun _ _ _ _ _ _=>fun us hl=>kg (fun _=>rfl) us hl
 have e_law_others:Def K mg "_law_others" g9 ["_law_e"]:=cO d23 X G fun _ _ _ _ _ _=>fun us hl=>kg (fun _=>rfl) us hl
 have e_read_times:Def K mg "read_times" cQ ["text","place","depth"]:=cO d24 X G fun _ _ _ _ _ _=>fun us hl=>qu (fun _ _ _=>rfl) us hl
 have e_read_back:Def K mg "read_back" dw ["text","place","depth"]:=cO d25 X G fun _ _ _ _ _ _=>fun us hl=>qu (fun _ _ _=>rfl) us hl
 have e_read_part:Def K mg "read_part" dy ["text","place","depth"]:=cO d26 X G fun _ _ _ _ _ _=>fun us hl=>qu (fun _ _ _=>rfl) us hl
 have e_read_parts:Def K mg "read_parts" dJ ["text","start","depth"]:=cO d27 X G fun _ _ _ _ _ _=>fun us hl=>qu (fun _ _ _=>rfl) us hl
 have e_read:Def K mg "read" nJ ["text"]:=cO d28 X G fun _ _ _ _ _ _=>fun us hl=>kg (fun _=>rfl) us hl
 have e_law_said:Def K mg "_law_said" jk ["_law_thing"]:=cO d29 X G fun _ _ _ _ _ _=>fun us hl=>kg (fun _=>rfl) us hl
 have e_law_bracket:Def K mg "_law_bracket" dN ["_law_words_here","_law_at_here","_law_deep"]:=cO d30 X G fun _ _ _ _ _ _=>fun us hl=>qu (fun _ _ _=>rfl) us hl
 have e_law_row:Def K mg "_law_row" iR ["_law_words_here","_law_at_here","_law_deep"]:=cO d31 X G fun _ _ _ _ _ _=>fun us hl=>qu (fun _ _ _=>rfl) us hl
 have e_law_read:Def K mg "_law_read" jm ["_law_words_here"]:=cO d32 X G fun _ _ _ _ _ _=>fun us hl=>kg (fun _=>rfl) us hl
 have e_law_same:Def K mg "_law_same" jn ["_law_words_here"]:=cO d33 X G fun _ _ _ _ _ _=>fun us hl=>kg (fun _=>rfl) us hl
 refine⟨PySem.W.fnOf "law" "law" (dR nM) (cB nM) (au nM) .none kV34 dc34 pm34 an34 cd34 ct34,fun s v=>.of_eq rfl,fun base _ _=>?_⟩
 have D_eqo:=heq
 have D_contrary:=rB (P:=l.prog) (w:=w) (base:=base) e_contrary B
 have D_number_text:=nz (P:=l.prog) (w:=w) (base:=base) e_number_text B
 have D_repeated:=rD (P:=l.prog) (w:=w) (base:=base) e_repeated B D_contrary
 have D_there_and_back:=lx (P:=l.prog) (w:=w) (base:=base) e_there_and_back B D_contrary
 obtain⟨D_mk_Piece,D_mk_Parts,D_mk_Times,D_mk_Back,D_m_pieces,D_m_text,D_m_cord⟩:=Aa (P:=l.prog) (w:=w) (base:=base) X G B hPiece hParts hTimes hBack G_LONGEST D_number_text D_repeated D_there_and_back
 have D_is_nail:=sX (P:=l.prog) (w:=w) (base:=base) e_is_nail B
 have D_figures_end:=nD (P:=l.prog) (w:=w) (base:=base) e_figures_end B
 have D_number_end:=oB (P:=l.prog) (w:=w) (base:=base) e_number_end B G_MOST_FIGURES D_figures_end
 have D_read_number:=nE (P:=l.prog) (w:=w) (base:=base) e_read_number B D_number_end
 have D_behind:=vJ (P:=l.prog) (w:=w) (base:=base) e_behind B XX
 have R_behind:=sY (P:=l.prog) (w:=w) (base:=base) e_behind B XX
 have D_read_piece:=oC (P:=l.prog) (w:=w) (base:=base) e_read_piece B D_read_number D_mk_Piece
 have D_law_at:=vL (P:=l.prog) (w:=w) (base:=base) e_law_at B
 have D_law_mix:=sZ (P:=l.prog) (w:=w) (base:=base) e_law_mix B
 have D_law_contrary:=mF (P:=l.prog) (w:=w) (base:=base) e_law_contrary B
 have D_law_right:=qe (P:=l.prog) (w:=w) (base:=base) e_law_right B
 have D_law_words:=qf (P:=l.prog) (w:=w) (base:=base) e_law_words B D_law_mix
 have D_law_within:=oE (P:=l.prog) (w:=w) (base:=base) e_law_within B D_law_mix
 have D_law_any_sign:=mG (P:=l.prog) (w:=w) (base:=base) e_law_any_sign B
 have D_law_odd:=s_ (P:=l.prog) (w:=w) (base:=base) e_law_odd B
 have D_law_spoiled:=nG (P:=l.prog) (w:=w) (base:=base) e_law_spoiled B D_law_any_sign D_law_odd
 have D_law_number:=oF (P:=l.prog) (w:=w) (base:=base) e_law_number B
 have D_law_count:=qg (P:=l.prog) (w:=w) (base:=base) e_law_count B
 have D_law_laid:=rE (P:=l.prog) (w:=w) (base:=base) e_law_laid B D_law_contrary
 have D_law_others:=oG (P:=l.prog) (w:=w) (base:=base) e_law_others B XX
 have D_read_parts:=oJ (P:=l.prog) (w:=w) (base:=base) e_read_parts B e_read_times e_read_back e_read_part G_DEEPEST D_behind D_read_number D_mk_Times D_mk_Back D_is_nail D_read_piece D_mk_Parts
 have R_read_parts:=nI (P:=l.prog) (w:=w) (base:=base) e_read_parts B e_read_times e_read_back e_read_part G_DEEPEST D_behind D_read_number D_mk_Times D_mk_Back D_is_nail D_read_piece D_mk_Parts R_behind XX
 have D_read:=Ab (P:=l.prog) (w:=w) (base:=base) e_read B D_read_parts R_read_parts XX
 have R_read:=xK (P:=l.prog) (w:=w) (base:=base) e_read B D_read_parts R_read_parts XX
 have D_law_said:=rG (P:=l.prog) (w:=w) (base:=base) e_law_said B D_read R_read D_law_others XX
 have D_law_row:=td (P:=l.prog) (w:=w) (base:=base) e_law_row B e_law_bracket D_law_number
 have D_law_read:=rH (P:=l.prog) (w:=w) (base:=base) e_law_read B D_law_row
 have D_law_same:=rJ (P:=l.prog) (w:=w) (base:=base) e_law_same B D_law_read D_law_said D_eqo D_law_count D_m_pieces D_law_laid D_m_cord D_law_right
 exact CC F0 B D_law_at D_law_words D_law_within D_law_spoiled D_law_same D_law_said
theorem Gh{l:PySem.W.OpenLaw}{q:Program}{loose:List Str}{XP:(Str→Option Value)→Heap→Prop}{YP:World→Heap→Prop}{d:DefRec}{K:Params→PySem.W.Frag}(hn:l.most=some 63)(hdf:d.params.defaults=[])
  (hY:∀(w:World) (h:Heap),YP w h→(K w.params).In h∧uh (K w.params) h)
  (F:∀(w:World) (mg:Str→Option Value) (fa:Addr) (h:Heap),(K w.params).In h→h.Ns mainGlobals mg→mg d.name=some (.ref fa)→
   ∃fd:FuncData,(∀(s:Shared) (u:Value),BindsTo s fd ⟨[u],[]⟩ [("_law_script",u)])∧∀base:Heap,(K w.params).In base→base.Ns mainGlobals mg→FnOk l.prog w (K w.params) mg base jA 146 fa fd ["_law_script"] (bQ (K w.params) kN)):
  PySem.W.WalkO q loose XP YP l.row.toRowW d [] (fun f vs=>PySem.call f vs):=
 L2.xh (n:=63) (k:=146) (x:="_law_script") (CX:=fun _=>jA) (sp:=fun w=>bQ (K w.params) kN) hn (by decide) hdf ⟨rfl,by decide,by decide⟩ hY F (fun _ _ a ns hl hS=>B_ (C5 ns hl) hS) fun _ _ _ _ _ z=>z
end Nhk63
open PySem PySem.W PyProof.Rows
namespace PySem.W.Fast
def tw15454993145510115360:=0
def tw7879674405423429696:=0
def tw18366985530386797760:=0
def tw8020143713700698336:=0
def tw7544921696997606656:=0
def tw8307208229590529376:=0
def tw3613096414583612768:=0
def tw12492858901420325312:=0
def tw11665645333388846560:=0
def tw2448018816133817856:=0
def tw367110567481141760:=0
def tw17445174562057635360:=0
def tw1932030713604205152:=0
def tw772005137764354688:=0
def tw1492066897836697248:=0
def tw4644495672106671936:=0
def tw8286908494269813632:=0
def tw11872016359742646208:=0
def tw2641678289985434592:=0
def tw11509512951566520353:=0
def tw8460248994705066049:=0
def tw11386119301894898849:=0
def tw218324685254489313:=0
def tw1620115476643459329:=0
def tw1950669795985529121:=0
def tw4851330387770482977:=0
def tw3662747083677582689:=0
def tw17196092934968423841:=0
def tw5656638665363440033:=0
def tw14799486609704688065:=0
def tw3672103996255374817:=0
def tw5997957780045292065:=0
def tw877772290831199809:=0
def tw17984549607431728769:=0
def tw7135080338711903905:=0
def tw12957309530712668929:=0
def tw17354750089421472641:=0
def tw15164494937247281089:=0
def tw11942940791707394050:=0
def tw2654027512823260258:=0
def tw18409769737705046146:=0
def tw2348633300312735906:=0
def tw16931283207258753186:=0
def tw3306603079163431106:=0
def tw7127645259011756258:=0
def tw11957131586786960610:=0
def tw8522792922667232482:=0
def tw9805755016261479650:=0
def tw12826109885671807266:=0
def tw16929084051140445474:=0
def tw13971322241244791234:=0
def tw6470781764457131458:=0
def tw16440031066446591458:=0
def tw3606129254954245698:=0
def tw8884067701530544706:=0
def tw16365707089092301378:=0
def tw15342490003122875106:=0
def tw10479119662417177378:=0
def tw14711693339267308418:=0
def tw3998312907069735842:=0
def tw17399408806671819682:=0
def tw6753968960842490818:=0
def tw17588092447682172898:=0
def tw4967992344531343363:=0
def tw13712777128619785283:=0
def tw11143623025795919011:=0
def tw4964208096565856611:=0
def tw2236178613260850563:=0
def tw16004333182742992355:=0
def tw6327445571704402499:=0
def tw3965154520960296547:=0
def tw16909046724387414755:=0
def tw2099570146334810883:=0
def tw11690856220300033795:=0
def tw18267246096962795299:=0
def tw2646672062822248291:=0
def tw16777309706913606563:=0
def tw11814014390608443363:=0
def tw7410269101539454020:=0
def tw2806670345394599044:=0
def tw16983578782119707812:=0
def tw13949308671668540612:=0
def tw13249433370386417892:=0
def tw14850917590139352452:=0
def tw1403130971833389444:=0
def tw4905182483787643364:=0
def tw5263281733518956036:=0
def tw6769983788200296964:=0
def tw7374897547487932068:=0
def tw10936853572393332388:=0
def tw1334774882060355268:=0
def tw2330717398359983812:=0
def tw305321487128635108:=0
def tw3720689190329579268:=0
def tw6835840576184010660:=0
def tw8864120381197551685:=0
def tw4298916955119758405:=0
def tw18307860356568214597:=0
def tw4210879400976227493:=0
def tw8537563908222593189:=0
def tw7257200193701469349:=0
def tw6433191027481679141:=0
def tw4270735947602373925:=0
def tw11801197707026597189:=0
def tw2458390040754005413:=0
def tw10956585416667767205:=0
def tw9469414736047216037:=0
def tw13515417509686802885:=0
def tw17360703985569454597:=0
def tw10323652234516816389:=0
def tw8842308713767877189:=0
def tw2083533142494314053:=0
def tw13949307519602913893:=0
def tw3967773729791657701:=0
def tw11362687329442281253:=0
def tw1391950019436604197:=0
def tw3659805216760033061:=0
def tw13763396719726682085:=0
def tw2110764325708034054:=0
def tw4489392509164461126:=0
def tw1807445258764577958:=0
def tw13341259060100413638:=0
def tw15216437875014680838:=0
def tw2039369866351623494:=0
def tw13016206850117003590:=0
def tw3809069939467860326:=0
def tw17844229082872237766:=0
def tw6669673438458374854:=0
def tw4802199000697095974:=0
def tw14054615285136852806:=0
def tw1100683465347219270:=0
def tw11573482217686958119:=0
def tw5599149568655589415:=0
def tw12667335955772472359:=0
def tw1292583575441444967:=0
def tw12438160473119865959:=0
def tw15583461057631105383:=0
def tw895428282201196967:=0
def tw6810717040486715815:=0
def tw11914933714023864839:=0
def tw783958013624623751:=0
def tw7073951944638776999:=0
def tw15230805200936471239:=0
def tw12892640025470796519:=0
def tw14051288141792231175:=0
def tw10685617946836493063:=0
def tw11854876047186685703:=0
def tw13881945812139379559:=0
def tw4723383645670356839:=0
def tw8144834132238002023:=0
def tw12424312975721689959:=0
def tw18368815944542098311:=0
def tw16498177615027357639:=0
def tw3752253678562845639:=0
def tw10441516488865217479:=0
def tw17888275729875898376:=0
def tw6922845446572382280:=0
def tw6331663156462846152:=0
def tw14060940660584535336:=0
def tw5542818886834291304:=0
def tw8161548655472377512:=0
def tw3589607154265703112:=0
def tw1495983737860597480:=0
def tw1726513373319311144:=0
def tw4720051273927751528:=0
def tw17911478963921362824:=0
def tw5347877552372559752:=0
def tw1254353705318656936:=0
def tw3288138552642216936:=0
def tw1551231817055789225:=0
def tw29897931607498025:=0
def tw15938693082236839241:=0
def tw2908327984907906377:=0
def tw12267803844247221577:=0
def tw2426711484691210601:=0
def tw7174516161364347273:=0
def tw10495180502505315881:=0
def tw12265975479952091689:=0
def tw4585402636398163561:=0
def tw16331074712255175273:=0
def tw17662574216842651273:=0
def tw1493414544804434665:=0
def tw14380751784771324681:=0
def tw14159346167203548937:=0
def tw7547553177861658441:=0
def tw13584004817745984457:=0
def tw5650935529689971689:=0
def tw15041970233358381098:=0
def tw9509767370769291338:=0
def tw652094203616438346:=0
def tw4099811861485341962:=0
def tw3981028930530650442:=0
def tw15893543598850421066:=0
def tw15700083529263683946:=0
def tw1539027588887111050:=0
def tw13315661249514278282:=0
def tw1854539348073906602:=0
def tw8165268384752218570:=0
def tw4178601027580692970:=0
def tw8140841590201471530:=0
def tw8596517221235279434:=0
def tw911285500037010122:=0
def tw9273066968112276330:=0
def tw6671786675033258858:=0
def tw11604932852979884906:=0
def tw14442220619874043786:=0
def tw5183385559900442538:=0
def tw3644154866032254922:=0
def tw14772350844970622922:=0
def tw10235453668967618538:=0
def tw16124458737731261483:=0
def tw11053204010400749643:=0
def tw5383130770965403723:=0
def tw14850972815775037515:=0
def tw3445603168230183019:=0
def tw10539089821698342059:=0
def tw1048187815967711435:=0
def tw17371205162163375339:=0
def tw10383418247724044555:=0
def tw3282649691884199243:=0
def tw12136699356795137355:=0
def tw11440321262292380075:=0
def tw4340196230142844331:=0
def tw6298182386846953931:=0
def tw16160206986203386379:=0
def tw12717868008779760171:=0
def tw12917002627833871915:=0
def tw11675003827957786187:=0
def tw16964644488774774347:=0
def tw12541407851908566699:=0
def tw5077292219989900011:=0
def tw11131609565821153035:=0
def tw4428829959135017739:=0
def tw16917747243981510475:=0
def tw1013562510955700236:=0
def tw593292238435373100:=0
def tw3610144746773058604:=0
def tw10646563935207080044:=0
def tw987191268330317036:=0
def tw15433489132238183692:=0
def tw1632800551757535660:=0
def tw11259589208037616044:=0
def tw12699052075866425836:=0
def tw3145049145053668844:=0
def tw12252620148772266572:=0
def tw6206092940626199244:=0
def tw9687077596648003436:=0
def tw3652049472898309004:=0
def tw99518446528082828:=0
def tw10131990100307171244:=0
def tw1184488538924860364:=0
def tw15357572667250927564:=0
def tw14948517405247134700:=0
def tw8640768399501131756:=0
def tw5277538698542811373:=0
def tw5891462184279207149:=0
def tw12062258825742513549:=0
def tw16312525098946582925:=0
def tw11544360229846965741:=0
def tw10865309479689832045:=0
def tw9271606316421756557:=0
def tw13972047516827234989:=0
def tw8054507964967221933:=0
def tw2360024434958066381:=0
def tw2188814236395994861:=0
def tw17301200453687398189:=0
def tw4863380964860076909:=0
def tw7756725973273579405:=0
def tw6628098357681863565:=0
def tw17339387840885086125:=0
def tw8385261016953292846:=0
def tw4829321326114328686:=0
def tw706211595809662062:=0
def tw10944472790614215886:=0
def tw3103129496774163694:=0
def tw3937232821787604238:=0
def tw5132427679807955278:=0
def tw7909343533583534638:=0
def tw16911905246725555886:=0
def tw6307950129389383374:=0
def tw12654946134518919886:=0
def tw5466382486205466350:=0
def tw14961899773633055598:=0
def tw7196136221783759758:=0
def tw12378055045288519662:=0
def tw14955799969929583631:=0
def tw17557553909555521583:=0
def tw16569454456016760975:=0
def tw14717869234188734607:=0
def tw9763293814529906895:=0
def tw8322648322612114671:=0
def tw504094673687732463:=0
def tw1405862741781429519:=0
def tw4467969920708727055:=0
def tw4145776703843553583:=0
def tw15223356034518498671:=0
def tw14712030837754960271:=0
def tw435846519719639567:=0
def tw1560379138861163087:=0
def tw2350242949193608847:=0
def tw12999199541789357775:=0
def tw17050205888918144783:=0
def tw15222209690234002448:=0
def tw13415235392362748016:=0
def tw1569381468845393104:=0
def tw17344032197323957616:=0
def tw917204773629374832:=0
def tw4406279620081794416:=0
def tw4304946127270592880:=0
def tw17290702814104897936:=0
def tw1909224512339811920:=0
def tw4834534333225878160:=0
def tw8019328712297289360:=0
def tw14055927193767437008:=0
def tw2067283033797176048:=0
def tw7247215511659398064:=0
def tw6598193219406980145:=0
def tw18292783636208334033:=0
def tw3597459434253406449:=0
def tw16122583540615562481:=0
def tw8048602472610821457:=0
def tw2724685615376249201:=0
def tw6966629689512971665:=0
def tw10268801787756122577:=0
def tw11752758569641763345:=0
def tw7060075750858826289:=0
def tw4297326968549159473:=0
def tw7843265323820037841:=0
def tw4122018963185029841:=0
def tw10671251013347174097:=0
def tw10346951821386025713:=0
def tw3184593513900606225:=0
def tw8182772885551888177:=0
def tw9963254016635608977:=0
def tw13002956064862895089:=0
def tw18094377164750228465:=0
def tw8138533779626602514:=0
def tw7326801800254086258:=0
def tw1368540592706415794:=0
def tw14538243526109640018:=0
def tw18195756607446721970:=0
def tw14636931338676303282:=0
def tw6165414657570444786:=0
def tw5544314915874952786:=0
def tw11863935370424837714:=0
def tw1491156543598108338:=0
def tw3032986401785321202:=0
def tw1853632984679964402:=0
def tw15521513134563346194:=0
def tw13296019266629398354:=0
def tw17886757541665402706:=0
def tw2559550101533422418:=0
def tw12321364955325321235:=0
def tw10302824860435809299:=0
def tw16763837423843983411:=0
def tw2223185283250190483:=0
def tw14938965288677684403:=0
def tw2524649843275539635:=0
def tw6751091376547453203:=0
def tw4352188064971250963:=0
def tw3654994811535045971:=0
def tw16638927144022218163:=0
def tw16795024652683192755:=0
def tw14801744375016798707:=0
def tw13728778571488924275:=0
def tw4040106941152812691:=0
def tw14030864176580087539:=0
def tw6757085582374040339:=0
def tw12461816337110268691:=0
def tw12988322818757364756:=0
def tw9624635612413994068:=0
def tw1969034365669595316:=0
def tw4530971493446115572:=0
def tw18054200610137909492:=0
def tw12288398017959757140:=0
def tw17008070389346482548:=0
def tw12374511574248900980:=0
def tw15226069919091529236:=0
def tw48617621000725012:=0
def tw1033009463790535252:=0
def tw7134374499512125108:=0
def tw292865001483602612:=0
def tw12484138977661547252:=0
def tw16693876605121612532:=0
def tw13986240510750476084:=0
def tw17228110147431385908:=0
def tw11637001037269250932:=0
def tw4854070738270717844:=0
def tw3096702701597175764:=0
def tw8848010781882794005:=0
def tw13751694632199102581:=0
def tw3395795302164391061:=0
def tw13448049610401673429:=0
def tw17810824197085160661:=0
def tw13319040670866571541:=0
def tw14875996661838830869:=0
def tw1813150165179394421:=0
def tw1476671512664262101:=0
def tw9292742007916762773:=0
def tw14796092834912590549:=0
def tw4908812278180271829:=0
def tw9032066837340351221:=0
def tw17279714788591758101:=0
def tw8265690996925792021:=0
def tw8707991114773042069:=0
def tw11362008156329041909:=0
def tw8870595602562458646:=0
def tw6637251656420367414:=0
def tw14881415739495791702:=0
def tw1324690593304102998:=0
def tw10585125996690525270:=0
def tw15421279334367082646:=0
def tw2989125841972365494:=0
def tw2128135718620282038:=0
def tw6957511672180249846:=0
def tw1997142390158556470:=0
def tw15803100562030607798:=0
def tw12711540933359586774:=0
def tw7274154637607455254:=0
def tw11324508956606119638:=0
def tw5654392167459975894:=0
def tw4424405990297270998:=0
def tw2939194314249341686:=0
def tw3741967602030248758:=0
def tw10831620308354520918:=0
def tw16530290179908196246:=0
def tw11328434360060563350:=0
def tw3588612628601259926:=0
def tw12222184041373207510:=0
def tw10363624983251949655:=0
def tw962772931170394231:=0
def tw13747876285925434487:=0
def tw13370287313556923543:=0
def tw502152868636935351:=0
def tw6966606836070544567:=0
def tw15079760129742000375:=0
def tw9687124319937549591:=0
def tw16073283504647768375:=0
def tw17627426509957018935:=0
def tw11490867205568865623:=0
def tw17339368841764887959:=0
def tw1512116759016819159:=0
def tw12748560755636955607:=0
def tw8879958023116684791:=0
def tw15934520996135797271:=0
def tw15728754920249633335:=0
def tw6785945408529816151:=0
def tw15961247466878346871:=0
def tw10733461920951197303:=0
def tw1127766696165668471:=0
def tw14806149487910615799:=0
def tw6714727475873342199:=0
def tw18035526300238838583:=0
def tw16440057783759999831:=0
def tw8624087276285056855:=0
def tw10513595982398388055:=0
def tw9317372355670096855:=0
def tw18150824282365798359:=0
def tw17554553470575518840:=0
def tw9955461779557399672:=0
def tw13501451645522075832:=0
def tw15979560174206002456:=0
def tw10526475089622443352:=0
def tw5873578267408717272:=0
def tw4882188586928100856:=0
def tw942980376650649144:=0
def tw2193986098230570584:=0
def tw15069082196337071864:=0
def tw9364970142599557016:=0
def tw16948448517726629816:=0
def tw4987332217309685720:=0
def tw15498307371022016601:=0
def tw2314370310543611065:=0
def tw8737124461211969721:=0
def tw3115120368784392537:=0
def tw17789325682581124473:=0
def tw2661042670351602137:=0
def tw8064144042431257177:=0
def tw3473114405644321433:=0
def tw5284940103429354137:=0
def tw12274821057542726457:=0
def tw15146700141100805945:=0
def tw18260907201308804953:=0
def tw12722837747070316698:=0
def tw1893048265019796730:=0
def tw16156843607180032250:=0
def tw14623866965103124762:=0
def tw11686877860248565082:=0
def tw12415277318366176602:=0
def tw5299918016265205114:=0
def tw662755357915806170:=0
def tw5623390257229500922:=0
def tw17358373029184756250:=0
def tw9896214900942663194:=0
def tw8317096092404851258:=0
def tw6320513375767612218:=0
def tw711472753081626458:=0
def tw10780840035540277114:=0
def tw476732756584738746:=0
def tw2535549675549375450:=0
def tw9032825023264856091:=0
def tw18166708934354108539:=0
def tw15436651029130990811:=0
def tw15412403456576142587:=0
def tw2342304080788020507:=0
def tw16965630579127092571:=0
def tw5920808730813440379:=0
def tw8484522543000582523:=0
def tw15950903426068580763:=0
def tw5656444057387345371:=0
def tw14140708027983463995:=0
def tw8280165446519894619:=0
def tw15837139156275844859:=0
def tw12112748061982894875:=0
def tw17051133642267901787:=0
def tw9900814595492428795:=0
def tw12134967534184191036:=0
def tw5070638260182038620:=0
def tw14747474813779665052:=0
def tw1682751459624249564:=0
def tw16925572883450444028:=0
def tw15403889456653939996:=0
def tw6318526197094774076:=0
def tw12329028779706465628:=0
def tw13153331107676384604:=0
def tw16138070489345164700:=0
def tw7169685910097789404:=0
def tw8933461625566499324:=0
def tw7405208942619692572:=0
def tw18388804712975419036:=0
def tw6870027029195931356:=0
def tw16631916109164695324:=0
def tw4727959733384648476:=0
def tw4899693556267404060:=0
def tw6789561579456334684:=0
def tw14154545761525068700:=0
def tw9462593816810664892:=0
def tw12833418825640926140:=0
def tw5573921816968071132:=0
def tw4820221260938088412:=0
def tw15281986445416199132:=0
def tw10464303687374068829:=0
def tw10248004548853358749:=0
def tw10829034381691227325:=0
def tw3330551304176953565:=0
def tw11721660611066803485:=0
def tw12854605791972081981:=0
def tw16088516224941959517:=0
def tw11433523135803905405:=0
def tw7507088003694329213:=0
def tw11082953194680010141:=0
def tw9511756216327811613:=0
def tw13017175444382264957:=0
def tw13544585680605639421:=0
def tw5259433181103919933:=0
def tw1419748907992293181:=0
def tw12298864121088429885:=0
def tw17490402178074870621:=0
def tw16548721652351711069:=0
def tw2208819582799591389:=0
def tw4107687575078327261:=0
def tw16994570968295301085:=0
def tw10245785562382039166:=0
def tw1406868405492141214:=0
def tw17918218503765097630:=0
def tw1843560056787251422:=0
def tw13924039053288704446:=0
def tw13161312522554462750:=0
def tw18441300864830796318:=0
def tw2368909975237018174:=0
def tw14302032151833836126:=0
def tw13027891669525298814:=0
def tw1381831128029600446:=0
def tw54845607390644958:=0
def tw5488604323228209918:=0
def tw13392877251954664254:=0
def tw10901628422871768926:=0
def tw12725354869734728606:=0
def tw6148726290525112286:=0
def tw14376239048793669598:=0
def tw8204093441862981727:=0
def tw9017883313756308607:=0
def tw12735779182640200863:=0
def tw12765513386955762879:=0
def tw14646332011565009247:=0
def tw8256307243303599519:=0
def tw16367297475198579263:=0
def tw14210387266887851615:=0
def tw14655653724112753311:=0
def tw592792496399801119:=0
def tw7602429639109279583:=0
def tw15828838066883909503:=0
def tw14724281973012505503:=0
def tw14299140342484917434:=0
end PySem.W.Fast
set_option maxRecDepth 100000 in
set_option maxHeartbeats 0 in
theorem PySem.Challenge.cw_nailhang_k63_no_text_holds : PySem.Challenge.rw_nailhang_k63_no_text.Holds := by
 w_on;o_law;k_head;(case hw=>w_witness2)
 k_fill
 refine Nhk63.Gh (l:=PySem.Challenge.rw_nailhang_k63_no_text) rfl rfl (fun w h Y=>⟨PySem.W.kIn_of Y,Nhk63.AC (by k_is) (by k_is) (by k_is) (by k_is) (by k_is) (by k_is) (by k_is) (by k_is)⟩) ?F
 case F=>
  intro w mg fa h KX G hmg
  refine' Nhk63.C7 KX G hmg (PL.DZ KX G ?_ ?_ ?_ ?_ ?_ ?_ ?_ ?_ ?_ ?_ ?_ ?_ ?_ ?_ ?_ ?_ ?_ ?_ ?_ ?_) ?hPiece ?hParts ?hTimes ?hBack ?heq ?_ ?_ ?_ ?_ ?_ ?_ ?_ ?_ ?_ ?_ ?_ ?_ ?_ ?_ ?_ ?_ ?_ ?_ ?_ ?_ ?_ ?_ ?_ ?_ ?_ ?_ ?_ ?_ ?_ ?_ ?_ ?_ ?_ ?_ ?g_DEEPEST ?g_LONGEST ?g_MOST_FIGURES ?qc_NoCord ?qc_NoNails ?qc_NoRule ?qc_NoText ?qc_NoMove ?qc_NoLine ?qc_NoName ?qc_NoNumber ?qc_TooMany ?qc_TooLong ?qc_Term ?qc_Piece ?qc_Parts ?qc_Times ?qc_Back ?qc_ValueError ?qc_HangError ?w1_NoText ?w2_NoText ?w3_NoText ?w4_NoText ?w5_NoText ?w6_NoText ?w7_NoText ?y_NoText_NoCord ?y_NoText_NoNails ?y_NoText_NoRule ?y_NoText_NoText ?y_NoText_NoMove ?y_NoText_NoLine ?y_NoText_NoName ?y_NoText_NoNumber ?y_NoText_TooMany ?y_NoText_TooLong ?y_NoText_Term ?y_NoText_Piece ?y_NoText_Parts ?y_NoText_Times ?y_NoText_Back ?y_NoText_ValueError ?y_NoText_HangError
  case hPiece=>refine' Nhk63.vS ?_ ?_ ?_ ?_ ?_ ?_ ?_ ?_ ?_ ?_ ?_ ?_ ?_ ?_ ?_ <;> first |(refine' PL.ul ?_ ?_ ?_ ?_ ?_ <;> first |k_is |skip) |k_is |skip
  case hParts=>refine' Nhk63.vT ?_ ?_ ?_ ?_ ?_ ?_ ?_ ?_ ?_ ?_ ?_ ?_ ?_ ?_ ?_ <;> first |(refine' PL.ul ?_ ?_ ?_ ?_ ?_ <;> first |k_is |skip) |k_is |skip
  case hTimes=>refine' Nhk63.vU ?_ ?_ ?_ ?_ ?_ ?_ ?_ ?_ ?_ ?_ ?_ ?_ ?_ ?_ ?_ <;> first |(refine' PL.ul ?_ ?_ ?_ ?_ ?_ <;> first |k_is |skip) |k_is |skip
  case hBack=>refine' Nhk63.yD ?_ ?_ ?_ ?_ ?_ ?_ ?_ ?_ ?_ ?_ ?_ ?_ ?_ ?_ ?_ <;> first |(refine' PL.ul ?_ ?_ ?_ ?_ ?_ <;> first |k_is |skip) |k_is |skip
  case heq=>refine' Nhk63.C6 ?_ ?_ ?_ ?_ ?_ ?_ ?_ ?_ ?_ ?_ ?_ ?_ ?_ ?_ ?_ ?_ <;> first |k_is |kit_is |skip
  (case g_DEEPEST=>k_is)
  (case g_LONGEST=>k_is)
  (case g_MOST_FIGURES=>k_is)
  (case qc_NoCord=>k_is)
  (case qc_NoNails=>k_is)
  (case qc_NoRule=>k_is)
  (case qc_NoText=>k_is)
  (case qc_NoMove=>k_is)
  (case qc_NoLine=>k_is)
  (case qc_NoName=>k_is)
  (case qc_NoNumber=>k_is)
  (case qc_TooMany=>k_is)
  (case qc_TooLong=>k_is)
  (case qc_Term=>k_is)
  (case qc_Piece=>k_is)
  (case qc_Parts=>k_is)
  (case qc_Times=>k_is)
  (case qc_Back=>k_is)
  (case qc_ValueError=>k_is)
  (case qc_HangError=>k_is)
  (case w1_NoText=>k_exc)
  (case w2_NoText=>kernel_rfl)
  (case w3_NoText=>k_is)
  (case w4_NoText=>k_is)
  (case w5_NoText=>k_is)
  (case w6_NoText=>k_is)
  (case w7_NoText=>k_is)
  (case y_NoText_NoCord=>kit_is)
  (case y_NoText_NoNails=>kit_is)
  (case y_NoText_NoRule=>kit_is)
  (case y_NoText_NoText=>kit_is)
  (case y_NoText_NoMove=>kit_is)
  (case y_NoText_NoLine=>kit_is)
  (case y_NoText_NoName=>kit_is)
  (case y_NoText_NoNumber=>kit_is)
  (case y_NoText_TooMany=>kit_is)
  (case y_NoText_TooLong=>kit_is)
  (case y_NoText_Term=>kit_is)
  (case y_NoText_Piece=>kit_is)
  (case y_NoText_Parts=>kit_is)
  (case y_NoText_Times=>kit_is)
  (case y_NoText_Back=>kit_is)
  (case y_NoText_ValueError=>kit_is)
  (case y_NoText_HangError=>kts_exm)
  all_goals first |(refine' Nhk63.EL ?_ ?_ ?_ ?_ <;> first |k_is |skip) |k_is
